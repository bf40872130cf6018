import PyProof.Rows.All
import Wide.All
import OpenK.AllK
import Wide.FinOn
import Lean
import PyProof.EqAt
import PyProof.EqKinds
import PyProof.TupleCall
import PyProof.ExcBaseAll.ValueError
import PyProof.ExcAttrAll.ValueError
import PyProof.NsDelKeeps
import PySem.Challenge.RW_dutyproof_k82_whole_nothing_lost
open Option renaming some→Za,none→Zd,map_eq_some_iff→Z8,getD_some→Zbz,isSome_iff_exists→Zb4,bind_some→Zc6,join_some→Zc7,map_some→ZcN
open List renaming getElem?_eq_getElem→Zb,getD_eq_getElem?_getD→Zg,mem_cons_of_mem→Zi,length_map→Zn,mem_append_right→Zo,getElem?_eq_some_iff→Zt,size_toArray→Zx,getElem?_map→Zy,mem_cons_self→Z0,length_append→Z1,mem_cons→Z2,mem_singleton→Z5,map_cons→Z7,range→Z9,getElem?_append_right→ZA,getElem_mem→ZB,mem_map→ZD,mem_iff_getElem→ZF,getElem?_append_left→ZH,not_mem_nil→ZL,length_cons→ZN,mem_range→ZR,replicate→ZS,mem_append_left→ZY,getElem?_set_self→ZZ,getElem?_set_ne→Zad,append_assoc→Zag,mem_append→Zah,lookup_cons→Zai,map_map→Zak,eq_nil_of_length_eq_zero→Zal,getElem_map→Zam,toArray→Zat,all_cons→Zau,sum_cons→Zaw,getElem?_eq_none→Zay,mem_filter→Za0,cons_append→Za6,set_append_left→Za8,drop_eq_getElem_cons→Za9,pairwise_cons→ZaB,append_nil→ZaC,nil_append→ZaD,map_congr_left→ZaH,length_singleton→ZaI,length_range→ZaX,getElem?_cons_succ→Zbd,getElem?_cons_zero→Zbe,replicate_succ→Zbl,length_nil→Zbm,length_filter_le→Zbu,ext_getElem→Zbx,set_cons_zero→Zby,mem_reverse→Zb0,map_nil→Zb5,pairwise_append→Zb7,ext_getElem?→Zb9,length_set→ZbB,map_append→ZbC,length_replicate→ZbH,lookup→ZbJ,mem_of_getElem?→ZbK,reverse_cons→ZbL,flatten_cons→ZbM,pairwise_map→ZbP,take_succ_eq_append_getElem→ZbR,getElem?_replicate→ZbY,all_eq_true→ZbZ,set_cons_succ→Zcn,nodup_cons→Zco,find?_cons→Zcp,length_take→Zc3,pairwise_iff_getElem→ZcA,exists_mem_of_ne_nil→ZcB,getElem?_range→ZcC,length_reverse→ZcD,length_pos_iff→ZcE,any_cons→ZcG,range_succ→ZcO,getElem_range→ZcU,length_eq_zero_iff→Zdc,findIdx?_eq_some_iff_getElem→Zdd,take_of_length_le→Zdh,drop_eq_nil_of_le→Zdj,drop_of_length_le→Zdn,flatMap_singleton→Zdq,eraseIdxIfInBounds_toArray→Zdr,set_append_right→Zdt,pairwise_reverse→Zdu,filter_cons→Zdz,nodup_range→Zd0,getElem_reverse→Zd9,filterMap_cons→ZdD,filter_eq_self→ZdE,flatMap_append→ZdF,mapM_cons→ZdV,length_eraseIdx_of_lt→Zea,findIdx?_eq_none_iff→Zec,length_erase_of_mem→Zeo,getElem_inj→Zeq,take_length→Ze3,map_reverse→Ze4,filter_cons_of_pos→Ze5,filter_cons_of_neg→Ze6,pairwise_lt_range→ZeH,set_set→ZeI,filter_eq_nil_iff→ZeJ,of_mem_zip→ZeK,filter_map→ZeP,getElem?_toArray→ZeR,dropLast_eq_take→ZeW,mem_of_mem_erase→ZeY,pairwise_flatMap→ZeZ
open PySem renaming wpAny_bind→Zc,Value→Zh,wpAny_pure→Zk,Shared→Zl,Addr→Zq,wpAny→Zu,mainGlobals→Z4,model→Z6,Program→ZC,starEach→ZE,Around→ZJ,wpAny_holding→ZT,World→ZU,codeAny_builtin→Zaa,wpAny_Call_Name_kw→Zac,mem_of_lookup→Zaj,Heap→Zar,wpAny_mono→Zas,plainId_quiet→Zav,wpAny_tryCatch→Za1,rawInt→Za4,compareOp→Za5,sizeLine_eq→ZaL,FuncData→ZaP,assignEach→ZaR,wpAny_pyIter_list→ZaU,wpAny_seqItems→Zba,binaryOp→Zbc,wpAny_truthy_bool→Zbg,wpAny_setField→Zbj,wpAny_updateSeq→Zbn,wpAny_letGo→Zbo,eval→Zbr,NameKind→Zbt,pyNext→Zbv,Scope→Zb1,backTo→Zb6,scanBound→Zb8,wpAny_standAt→ZbD,wpAny_call_entry→ZbE,Spec→ZbF,wpAny_newObj_type→ZbN,Builtin→ZbO,wpAny_setState_of→ZbQ,wpAny_newList→ZbT,intKind→ZbV,wpAny_setEntries_of→ZbX,seqItems?→Zca,wpAny_askSetting→Zcc,wpAny_callSpecial?_slot→Zcd,codeAny_mono→Zch,holding→Zci,Arguments→Zcr,foldedSetIterable→Zcv,bootBuiltins→Zc1,codeAny→Zc2,behindInMarks→ZcH,Operator→ZcJ,letOwnedTupleGo→ZcK,wpAny_loadPart'→ZcM,sysModules→ZcP,builtinsNs→ZcQ,sliceBounds→ZcV,wpAny_field→ZcX,keywordEach→ZcY,richCompare→Zda,BindsTo→Zdf,builtinLookup_eq_fast→Zds,closureFor→Zdx,wpAny_rule→Zdy,attributeBase→Zd1,strKind→Zd2,wpAny_attempt→Zd3,wpAny_execs_nil→ZdA,setNext→ZdH,swapsWith→ZdM,Stmt→ZdP,call_meets→ZdS,PyData→ZdU,argsOk→ZdW,wpAny_runValue→ZdY,wpAny_fieldsOf→Zeb,wpAny_of_eq→Zed,fits_of_scanBound→Zef,pyIter→Zeg,Result→Zeh,GenState→Zep,getMethod→Zes,codeAmong→Zeu,lastMarks→Zev,noteFrame→Zew,backToKw→Zex,updateSeq→Zey,wpAny_isInstance→Ze1,wpAny_pyNext_list_item→Ze7,getItem→Ze9,assign→ZeA,wpAny_call→ZeB,codeAny_of_tree→ZeL,typeLookup_type→ZeM,wpAny_pyNext_list_end→ZeQ,weight_type_call_type→ZeS,bindArgs→Zfa,seqIndex_of→Zfc,subscripted→Zfd,hashInt→Zfh,Keyword→Zfl,callerA→Zfm,pickOrder→Zfo,assignInOrder→Zfq,typeLookup→Zfs,intKind_is→Zft,setsByText→Zfu,setEntries→Zfv,Within→Zfw,seqIndex_neg→Zfz,valueAt→Zf0,standAt→Zf2,setField→Zf3,relayAll→Zf7,IsPart→ZfA,setFlight→ZfB,strValues→ZfC
open PySem.Heap renaming get?_push_of_some→Ze,get?_push_size→Zv,get?_update_other→Zw,lt_size→Zz,get?_update_self→Zae,SameBut→Zb3,size_push→ZbG,ExtBut→ZcW
open Bool renaming true→Zj,false→Zm,and_eq_true→Zp,false_ne_true→Zs,false_eq_true→ZX,or_eq_true→ZaE,not_eq_true'→ZaV,true_eq_false→Zcm,not_true→Zcs,eq_false_iff→Zcx,not_false→Zcz,eq_iff_iff→ZcL,or_eq_false_iff→Zd5,false_and→ZdR,and_false→Zfe
open Nat renaming le_refl→Zr,ne_of_lt→Z3,lt_of_lt_of_le→ZI,zero_le→ZK,le_trans→Zaf,lt_succ_self→Zax,ne_of_gt→ZaA,le_succ→ZaG,lt_succ_of_lt→ZaW,le_of_lt→Zb2,eq_zero_or_pos→Zcl,add_right_cancel→Zc0,le_of_not_lt→Zc4,lt_irrefl→ZcF,le_of_eq→Zde,sub_self→Zdo,succ_le_succ→Zdw,lt_of_le_of_lt→ZdZ,le_of_ble_eq_true→ZeX,add_assoc→Zfr,lt_trans→Zf1
open PySem.Around renaming under_plainId→ZG,under→Zfx
open PyProof.Rows renaming seqObj→ZM,callWith_type1→ZaJ,IntsAre→Zbh,get?_update_seq→Zbp,evalAll_cons→Zbs,callWith_builtin1→Zbw,evalAll_nil→ZbU,spliced_more→Zc8,spliced_none→Zc9,listUpdate_at→ZcI,size_push'→ZcS,subscriptTail_builtinR→Zdg,mirror_size→Zd7,AllBare→ZdG,subscriptTail→Zej,call_function_entry_kw→ZeG,envOfC→Zfb,callWith_kw→Zfg,plain_sorted→Zf4,entry_sorted→Zf5
open Ne renaming symm→ZO
open Array renaming length_toList→ZP,getElem?_eq_getElem→ZaQ,getD_eq_getD_getElem?→Zbf,getElem?_eq_some_iff→Zbi,getElem?_toList→Zcu,getD→ZcT,getElem?_eq_none→Zdl,toList_push→Zee
open PySem.F renaming plain_min_loop→ZQ,plain_max_loop→ZaN,entry_min_loop→Zbk,plain_list_iadd→Zce,plainAttrs_list→Zdb,entry_max_loop→Zdk,slot_dict_setdefault→ZdC,entry_proto_collect→ZdJ,plain_proto_collect→ZdK,sub_list_frozenset→ZdX,args_tuple_add_2→Zei,entry_tuple_add→Zet,entry_type_call→Zez,entry_list_iadd→Ze2,slot_tuple_add→Ze8,typeCall_set_1→ZeE,entry_set_init→ZeF,plain_set_new→ZeU,slot_set_iter→ZeV
open PySem.Value renaming none→ZV,int→ZbI,bool→Zdv,ref→ZdL,type→ZdO,str→Zfk
open PySem.Obj renaming mapSeq→ZW,data_mapFields→Zab,mapFields→Zan,isFreed_of_fields→ZaZ,cls_mapFields→Zdi
open Option.some renaming inj→Zao,injEq→Za3
open Int renaming le_refl→Zap,toNat_natCast→Za7,emod_lt_of_pos→ZaM,emod_nonneg→Zbq,mul_le_mul_of_nonneg_right→Zcg,toNat→Zct,le_trans→Zc5,zero_add→Zdp,add_mul→Zd8,natCast_add→ZeO
open PyProof.Rows.F renaming plain_set_update_loop→Zaq,entry_set_update_loop→ZaS
open True renaming intro→Zaz
open PySem.SetTable renaming below→Za2,grown→Zcb,has→Zf6
open PySem.NameKind renaming free→ZaF,cell→Zek
open PySem.Builtin.Builtins renaming bindParams→ZaK
open PySem.Str renaming ofString→ZaO
open PySem.Heap.SameBut renaming update→ZaT
open PySem.PyData renaming canLayAll0→ZaY,canLay0→Zcf,eqv→Zcj,list→ZcZ,eqvAll→Zd4,tuple→ZeC
open ForInStep renaming yield→Zbb
open False renaming elim→ZbA
open PySem.Builtin.List renaming listTooLong→ZbS,listExtendWith→Zcw,listLengthHint→ZdI,listSameRef→Zen
open PySem.W renaming kas_rev→ZbW,kas_asc→Zck,kas_sort→Zcq,kas_descPart→Zdm,kas_desc→Zd6,kas_place→ZdN,kas_count→Ze0,kas_tail3→Zfn
open List.Perm renaming refl→Zcy
open PySem.Walks renaming list→ZcR
open PySem.Builtin.Frozenset renaming updateFrom→ZdB
open PySem.Calls renaming Name_function_global→ZdQ,spliced_cons→ZdT,callWith_builtin→ZeD
open Prod.mk renaming injEq→Zel
open PySem.Shared renaming TypeIs→Zem
open PySem.Builtin.Range renaming rangeSize→Zer
open List.cons renaming injEq→ZeN
open List.Pairwise renaming sublist→ZeT
open PyProof.Rows.IntsAre renaming int_at→Zff
open Sum renaming inl→Zfi,inr→Zfj
open PySem.Paired renaming length→Zfp
open PySem.Code renaming isFrame→Zfy
open PySem.pickOrder renaming go→Zf8
open PySem.Data renaming cell→Zf9
open PySem.Txt renaming mul→ZfD
noncomputable section
set_option Elab.async false
set_option linter.all false
set_option maxRecDepth 100000
abbrev CeT:=PySem.Str->Option PySem.Addr
abbrev QvT:=PySem.Value->PySem.Shared->Prop
abbrev PnT:=List (PySem.Addr×PySem.Obj)
theorem Zf {p:Prop}(h:False):p:=h.elim
namespace L2
open PySem PySem.Spec PyProof.Rows
abbrev Key:=Sum Int Str
def Xw:Key->Zh->Bool
 | .inl k,v=>Value.isInt k v
 | .inr x,v=>Value.isStrOf x v
def keyH (w:ZU):Key->Int
 | .inl k=>Zfh k
 | .inr x=>hashStr w x
theorem Vp:∀{k:Key}{v:Zh},Xw k v=Zj->(∃i t,k=Zfi i/\v=ZbI i t)∨(∃x t,k=Zfj x/\v=Zfk x t)
 | .inl i,v,h=>by
  obtain⟨t,e⟩:=Value.isInt_shape (k:=i) (v:=v) h
  exact .inl ⟨i,t,rfl,e⟩
 | .inr x,v,h=>by
  obtain⟨t,e⟩:=Value.isStrOf_shape (x:=x) (v:=v) h
  exact .inr ⟨x,t,rfl,e⟩
theorem Jq7 (i:Int)(t:Tok):Xw (.inl i) (.int i t)=Zj:=by simp[Xw,Value.isInt]
theorem Jq8 (x:Str)(t:Tok):Xw (.inr x) (.str x t)=Zj:=by simp[Xw,Value.isStrOf]
theorem J0d (a b:Int):decide ((Zfi a:Key)=Zfi b)=(a==b):=by
 by_cases e:a=b
 ·subst e;simp
 ·have h:¬(Zfi a:Key)=Zfi b:=λ q=>e (Sum.inl.inj q)
  rw[decide_eq_false h]
  exact(beq_eq_false_iff_ne.mpr e).symm
theorem J0g (a b:Str):decide ((Zfj a:Key)=Zfj b)=decide (a=b):=by
 by_cases e:a=b
 ·subst e;simp
 ·have h:¬(Zfj a:Key)=Zfj b:=λ q=>e (Sum.inr.inj q)
  rw[decide_eq_false h,decide_eq_false e]
theorem J0e (a:Int)(b:Str):decide ((Zfi a:Key)=Zfj b)=Zm:=decide_eq_false (λ q=>nomatch q)
theorem J0f (a:Str)(b:Int):decide ((Zfj a:Key)=Zfi b)=Zm:=decide_eq_false (λ q=>nomatch q)
def QZ (prog:ZC)(w:ZU):PySem.KeyKind prog w Key where
 is:=Xw
 hash:=keyH w
 inj:=λ v a b ha hb=>by
  rcases Vp ha with⟨i,t,rfl,rfl⟩|⟨x,t,rfl,rfl⟩
  ·rcases Vp hb with⟨j,u,rfl,e⟩|⟨y,u,rfl,e⟩
   ·injection e with e1 _;rw[e1]
   ·exact nomatch e
  ·rcases Vp hb with⟨j,u,rfl,e⟩|⟨y,u,rfl,e⟩
   ·exact nomatch e
   ·injection e with e1 _;rw[e1]
 byValue:=λ k v h=>by
  rcases Vp h with⟨i,t,rfl,rfl⟩|⟨x,t,rfl,rfl⟩<;>rfl
 pyHash:=λ hv h=>by
  rcases Vp hv with⟨i,t,rfl,rfl⟩|⟨x,t,rfl,rfl⟩
  ·exact wpAny_pyHash_int h
  ·exact wpAny_pyHash_str h
 eqBool:=λ hu hv h=>by
  rcases Vp hu with⟨i,t,rfl,rfl⟩|⟨x,t,rfl,rfl⟩
  ·rcases Vp hv with⟨j,u,rfl,rfl⟩|⟨y,u,rfl,rfl⟩
   ·rw[J0d] at h;exact wpAny_eqBool_int h
   ·rw[J0e] at h;exact SeqAt.EqAt.int_str i t y u _ _ _ _ h
  ·rcases Vp hv with⟨j,u,rfl,rfl⟩|⟨y,u,rfl,rfl⟩
   ·rw[J0f] at h;exact SeqAt.EqAt.str_int x t j u _ _ _ _ h
   ·rw[J0g] at h;exact wpAny_eqBool_str h
 «strs» :=λ k x t v h=>by
  rcases Vp h with⟨i,u,rfl,e⟩|⟨y,u,rfl,e⟩
  ·exact nomatch e
  ·injection e with e1 _
   subst e1
   cases v<;>rfl
theorem Jl0 (prog:ZC)(w:ZU)(i:Int)(t:Tok):(QZ prog w).is (.inl i) (.int i t)=Zj:=Jq7 i t
theorem Jl1 (prog:ZC)(w:ZU)(x:Str)(t:Tok):(QZ prog w).is (.inr x) (.str x t)=Zj:=Jq8 x t
inductive V where
 | non|bl (b:Bool)|int (i:Int)|str (x:Str)|byt (b:Array UInt8)|flt (b:UInt64)|ref (a:Zq)|ty (n:String)
 deriving DecidableEq
def RelV:V->Zh->Prop
 | .non,u=>u=ZV
 | .bl b,u=>u=Zdv b
 | .int i,u=>∃t,u=ZbI i t
 | .str x,u=>∃t,u=Zfk x t
 | .byt b,u=>∃t,u=Value.bytes b t
 | .flt b,u=>∃t,u=Value.float b t
 | .ref a,u=>u=ZdL a
 | .ty n,u=>u=ZdO n
abbrev Vals:List V->List Zh->Prop:=Paired RelV
theorem Vals.length {xs:List V}{us:List Zh}(r:Vals xs us):xs.length=us.length:=Zfp r
theorem Vals.get:∀{xs:List V}{us:List Zh}{i:Nat}{x:V},Vals xs us->xs[i]?=Za x->∃u,us[i]?=Za u/\RelV x u
 | _,_,_,_,.nil,e=>by simp at e
 | _,_,0,_,.cons r _,e=>by simp at e;subst e;exact⟨_,rfl,r⟩
 | _,_,i+1,x,.cons _ t,e=>by
  obtain⟨u,h1,h2⟩:=Vals.get (i:=i) (x:=x) t (by simpa using e)
  exact⟨u,by simpa using h1,h2⟩
theorem Vals.set {x:V}{u:Zh}(r:RelV x u):∀{xs:List V}{us:List Zh}(i:Nat),Vals xs us->Vals (xs.set i x) (us.set i u)
 | _,_,_,.nil=>.nil
 | _,_,0,.cons _ t=>.cons r t
 | _,_,i+1,.cons q t=>.cons q (Vals.set r i t)
theorem Vals.append:∀{xs ys:List V}{us ws:List Zh},Vals xs us->Vals ys ws->Vals (xs++ys) (us++ws)
 | _,_,_,_,.nil,s=>s
 | _,_,_,_,.cons r t,s=>.cons r (Vals.append t s)
theorem Vals.take:∀{xs:List V}{us:List Zh}(n:Nat),Vals xs us->Vals (xs.take n) (us.take n)
 | _,_,0,_=>.nil
 | _,_,_+1,.nil=>.nil
 | _,_,n+1,.cons r t=>.cons r (Vals.take n t)
theorem Vals.drop:∀{xs:List V}{us:List Zh}(n:Nat),Vals xs us->Vals (xs.drop n) (us.drop n)
 | _,_,0,r=>r
 | _,_,_+1,.nil=>.nil
 | _,_,n+1,.cons _ t=>Vals.drop n t
def RelO:Option V->Option Zh->Prop
 | some v,Za u=>RelV v u
 | none,Zd=>True
 | _,_=>False
def KV {κ:Type}:List (κ×V)->List (κ×Zh)->Prop:=Paired λ (p:κ×V)(q:κ×Zh)=>p.1=q.1/\RelV p.2 q.2
def kV:Key->V
 | .inl i=>.int i
 | .inr x=>.str x
inductive HO where
 /-- a list -/
 | lst (xs:List V)
 /-- a tuple (never changes) -/
 | tup (xs:List V)
 /-- a dict whose keys are ints and texts; one whose keys are tuples of ints and texts (the empty one is both) -/
 | dK (kvs:List (Key×V))|dT (kvs:List (List Key×V))
 /-- a set of ints: its members, its size -/
 | set (S:Int->Bool) (n:Nat)
 /-- an instance of the class at C, its dict at dx, its attributes -/
 | ins (C dx:Zq) (fs:List (Str×V))
 /-- the dict of the instance at x -/
 | own (x:Zq)
 /-- the dict of an exception -/
 | xd (fs:List (Str×V))
 /-- a bound method, f of x -/
 | met (f x:Zq)
 /-- a range object lo, lo + 1, .. below hi -/
 | rng (lo hi:Int)
 /-- a thing that is known to the object (the script; a dict while a loop walks it): read, never written while it is so -/
 | frz (o:Obj) (u:HO)
 /-- a code object's table -/
 | tbl (ps:Array Zh)
 /-- any other thing, by what is Zj of its one object (a def of one's own: SetO a S n := HO.ext λ h => ..) -/
 | ext (φ:Zar->Prop)
abbrev Hp:=Zq->Option HO
def upd (H:Hp)(a:Zq)(o:HO):Hp:=λ b=>if b=a then Za o else H b
theorem J0 {H:Hp}{a:Zq}{o:HO}:upd H a o a=Za o:=by unfold upd;rw[if_pos rfl]
theorem Jo {H:Hp}{a b:Zq}{o:HO}(h:b≠a):upd H a o b=H b:=by unfold upd;rw[if_neg h]
theorem Va {H:Hp}{a b:Zq}{o:HO}(h:H a=Za o)(h':H b=Zd):a≠b:=by
 intro e;subst e;rw[h] at h';cases h'
section
variable (P:ZC)(w:ZU)
def JC (H:Hp)(h:Zar)(a:Zq):HO->Prop
 | .lst xs=>xs.length<=sizeLine/\∃(its:List Zh) (n:Nat),Vals xs its/\h.get? a=Za { cls:=.type "list",data:=.seq its.toArray n }
 | .tup xs=>xs.length<=sizeLine/\∃its:List Zh,Vals xs its/\IsTup h a its.toArray
 | .dK kvs=>kvs.length<=sizeLine/\(a==ZcP)=Zm/\∃vs,KV kvs vs/\h.DictOf (QZ P w) a vs
 | .dT kvs=>kvs.length<=sizeLine/\(a==ZcP)=Zm/\∃xs:List (List Key×Zq×Zh),
   Paired (λ (p:List Key×V)(q:List Key×Zq×Zh)=>p.1=q.1/\H q.2.1=Za (.tup (p.1.map kV))/\RelV p.2 q.2.2) kvs xs /\
   ∃o es ep,h.get? a=Za o/\o.ExactDict/\o.data=.dict es ep/\es.toList=xs.map (entryOfKey (tupleKind (QZ P w)))/\(xs.map (·.1)).Nodup
 | .set S n=>h.SetOf (intKind P w) a S n
 | .ins C dx fs=>H dx=Za (.own a)/\fs.length<=1000/\dx≠a/\h.get? a=Za (W.instObj C dx) /\
   ∃mA,h.Ns1 dx mA/\(∀f,RelO (fs.lookup f) (mA f))/\Zfw mA (fs.map (·.1))
 | .own _=>∃o,h.get? a=Za o
 | .xd fs=>∃mA,h.Ns1 a mA/\∀f,RelO (fs.lookup f) (mA f)
 | .rng lo hi=>∃t u v,h.get? a=Za { cls:=.type "range",data:=.fields #[.int lo t,.int hi u,.int 1 v] }
 | .frz o u=>h.get? a=Za o/\JC H h a u
 | .tbl ps=>h.get? a=Za { cls:=.none,data:=.fields ps }
 | .met f x=>h.get? a=Za (W.methodObj (.ref f) (.ref x))
 | .ext φ=>φ h/\(∃o,h.get? a=Za o)/\∀h1 h2:Zar,φ h1->(∀o,h1.get? a=Za o->h2.get? a=Za o)->φ h2
def HOk (H:Hp)(h:Zar):Prop:=∀a o,H a=Za o->JC P w H h a o
end
section
variable {P:ZC}{w:ZU}{H H':Hp}{h h':Zar}{a:Zq}{o:HO}
theorem JC.lt (x:JC P w H h a o):a<h.objs.size:=by
 cases o with
 | lst xs=>obtain⟨_,_,_,_,e⟩:=x;exact Zz e
 | tup xs=>obtain⟨_,_,_,p⟩:=x;exact p.lt
 | dK kvs=>obtain⟨_,_,_,_,o,_,_,e,_⟩:=x;exact Zz e
 | dT kvs=>obtain⟨_,_,_,_,o,_,_,e,_⟩:=x;exact Zz e
 | set S n=>obtain⟨o,_,_,_,e,_⟩:=x;exact Zz e
 | ins C dx fs=>obtain⟨_,_,_,e,_⟩:=x;exact Zz e
 | own y=>obtain⟨_,e⟩:=x;exact Zz e
 | xd fs=>obtain⟨_,⟨_,_,_,e,_⟩,_⟩:=x;exact Zz e
 | rng lo hi=>obtain⟨_,_,_,e⟩:=x;exact Zz e
 | frz ob u=>obtain⟨e,_⟩:=x;exact Zz e
 | tbl ps=>exact Zz (show h.get? a=Za _ from x)
 | met f y=>exact Zz (show h.get? a=Za _ from x)
 | ext φ=>obtain⟨_,⟨_,e⟩,_⟩:=x;exact Zz e
theorem Paired.mapP {α β:Type}{F G:α->β->Prop}:∀{l₁:List α}{l₂:List β},Paired F l₁ l₂->(∀a b,F a b->G a b)->Paired G l₁ l₂
 | _,_,.nil,_=>.nil
 | _,_,.cons r t,f=>.cons (f _ _ r) (Paired.mapP t f)
theorem JC.stay (x:JC P w H h a o)(k:∀b u,(b=a∨H b=Za (.own a))->h.get? b=Za u->h'.get? b=Za u)
  (ho:∀b,H b=Za (.own a)->H' b=Za (.own a))(ht:∀b xs,H b=Za (.tup xs)->H' b=Za (.tup xs)):JC P w H' h' a o:=by
 induction o with
 | lst xs=>obtain⟨z,its,n,r,e⟩:=x;exact⟨z,its,n,r,k _ _ (.inl rfl) e⟩
 | tup xs=>obtain⟨z,its,r,ob,e,c⟩:=x;exact⟨z,its,r,ob,k _ _ (.inl rfl) e,c⟩
 | dK kvs=>obtain⟨z,y,vs,r,ob,es,ep,e,c⟩:=x;exact⟨z,y,vs,r,ob,es,ep,k _ _ (.inl rfl) e,c⟩
 | dT kvs =>
  obtain⟨z,y,xs,r,ob,es,ep,e,c⟩:=x
  exact⟨z,y,xs,Paired.mapP r λ p q z=>⟨z.1,ht _ _ z.2.1,z.2.2⟩,ob,es,ep,k _ _ (.inl rfl) e,c⟩
 | set S n=>obtain⟨ob,es,ep,t,e,c⟩:=x;exact⟨ob,es,ep,t,k _ _ (.inl rfl) e,c⟩
 | ins C dx fs =>
  obtain⟨d,z,ne,e,mA,⟨od,es,ep,e2,c⟩,r⟩:=x
  exact⟨ho _ d,z,ne,k _ _ (.inl rfl) e,mA,⟨od,es,ep,k _ _ (.inr d) e2,c⟩,r⟩
 | own y=>obtain⟨ob,e⟩:=x;exact⟨ob,k _ _ (.inl rfl) e⟩
 | xd fs=>obtain⟨mA,⟨od,es,ep,e,c⟩,r⟩:=x;exact⟨mA,⟨od,es,ep,k _ _ (.inl rfl) e,c⟩,r⟩
 | rng lo hi=>obtain⟨t,u,v,e⟩:=x;exact⟨t,u,v,k _ _ (.inl rfl) e⟩
 | frz ob u ih=>obtain⟨e,q⟩:=x;exact⟨k _ _ (.inl rfl) e,ih q⟩
 | tbl ps =>
  have e:h.get? a=Za { cls:=.none,data:=.fields ps }:=x
  show h'.get? a=Za { cls:=.none,data:=.fields ps }
  exact k a _ (.inl rfl) e
 | met f y =>
  have e:h.get? a=Za (W.methodObj (.ref f) (.ref y)):=x
  show h'.get? a=Za (W.methodObj (.ref f) (.ref y))
  exact k a _ (.inl rfl) e
 | ext φ=>obtain⟨p,⟨o,e⟩,st⟩:=x;exact⟨st _ _ p λ o q=>k _ _ (.inl rfl) q,⟨o,k _ _ (.inl rfl) e⟩,st⟩
theorem HOk.lt (x:HOk P w H h)(e:H a=Za o):a<h.objs.size:=(x a o e).lt
theorem HOk.fresh (x:HOk P w H h)(e:h.objs.size<=a):H a=Zd:=by
 cases q:H a with
 | none=>rfl
 | some u=>exact absurd (ZI (x.lt q) e) (ZcF _)
theorem HOk.kept (x:HOk P w H h)(k:∀b u,h.get? b=Za u->h'.get? b=Za u):HOk P w H h':=λ a o e =>
 (x a o e).stay (λ b u _ q=>k b u q) (λ _ q=>q) λ _ _ q=>q
theorem HOk.laid (x:HOk P w H h)(k:∀b u,h.get? b=Za u->h'.get? b=Za u)(hp:h.objs.size<=a)(new:JC P w (upd H a o) h' a o):HOk P w (upd H a o) h':=λ b u e=>by
 have hn:=x.fresh hp
 by_cases hb:b=a
 ·subst hb;rw[J0] at e;cases e;exact new
 ·rw[Jo hb] at e
  exact(x b u e).stay (λ c v _ q=>k c v q) (λ c q=>by rw[Jo (Va q hn)];exact q) λ c xs q=>by rw[Jo (Va q hn)];exact q
end
def Rd (H:Hp)(a:Zq)(u:HO):Prop:=H a=Za u∨∃o,H a=Za (.frz o u)
theorem Rd.of {H:Hp}{a:Zq}{u:HO}(h:H a=Za u):Rd H a u:=.inl h
theorem Rd.ok {P:ZC}{w:ZU}{H:Hp}{h:Zar}{a:Zq}{u:HO}(r:Rd H a u)(x:HOk P w H h):JC P w H h a u:=by
 rcases r with r|⟨o,r⟩
 ·exact x a u r
 ·obtain⟨_,q⟩:=x a _ r
  exact q
def Mut:Option HO->Prop
 | some (.lst _)=>True
 | some (.dK _)=>True
 | some (.dT _)=>True
 | some (.set _ _)=>True
 | some (.ins _ _ _)=>True
 | some (.ext _)=>True
 | _=>False
section
variable {P:ZC}{w:ZU}{H:Hp}{h h':Zar}{x e:Zq}{o':HO}
theorem HOk.write (ok:HOk P w H h)(mu:Mut (H x))(he:e=x∨H e=Za (.own x))(k:∀b u,b≠e->h.get? b=Za u->h'.get? b=Za u)(heo:∃u,h'.get? e=Za u)
  (new:JC P w (upd H x o') h' x o'):HOk P w (upd H x o') h':=λ b u q=>by
 have nown:∀c y,H c=Za (.own y)->c≠x:=λ c y r z=>by subst z;rw[r] at mu;exact mu
 have ntup:∀c xs,H c=Za (.tup xs)->c≠x:=λ c xs r z=>by subst z;rw[r] at mu;exact mu
 by_cases hb:b=x
 ·subst hb;rw[J0] at q;cases q;exact new
 ·rw[Jo hb] at q
  by_cases hbe:b=e
  ·have q':H b=Za (.own x):=by
    rcases he with z|z
    ·exact absurd (hbe.trans z) hb
    ·rw[hbe];exact z
   rw[q] at q';cases q'
   obtain⟨v,hv⟩:=heo
   exact⟨v,by rw[hbe];exact hv⟩
  ·refine(ok b u q).stay (λ c v hc r=>k c v ?_ r) (λ c r=>by rw[Jo (nown c b r)];exact r) λ c xs r=>by rw[Jo (ntup c xs r)];exact r
   rcases hc with rfl|hc
   ·exact hbe
   ·rintro rfl
    rcases he with z|z
    ·exact nown c b hc z
    ·rw[hc] at z;cases z;exact hb rfl
end
structure Un (fs ex:List Zq)(H H':Hp)(h h':Zar):Prop where
 keep:∀b o,h.get? b=Za o->H b=Zd->b∉fs->b∉ex->h'.get? b=Za o
 slot:∀b o,h.get? b=Za o->H b=Zd->b∈fs->b∉ex->∃sl,h'.get? b=Za { o with slots:=sl }
 free:∀b o,h.get? b=Za o->H b=Zd->b∉ex->H' b=Zd
 there:∀b o,h.get? b=Za o->b∉ex->∃o',h'.get? b=Za o'
 tups:∀b xs,H b=Za (.tup xs)->H' b=Za (.tup xs)
 frzs:∀b o u,H b=Za (.frz o u)->H' b=Za (.frz o u)
 tbls:∀b ps,H b=Za (.tbl ps)->∃more,H' b=Za (.tbl (ps++more))
section
variable {fs fs' ex ex':List Zq}{H H1 H2:Hp}{h h1 h2 h':Zar}{a x e:Zq}{o:HO}
theorem Un.any (u:Un fs ex H H1 h h1){b:Zq}{ob:Obj}(q:h.get? b=Za ob)(n:H b=Zd)(hx:b∉ex):∃sl,h1.get? b=Za { ob with slots:=sl }:=by
 by_cases hb:b∈fs
 ·exact u.slot b ob q n hb hx
 ·exact⟨ob.slots,u.keep b ob q n hb hx⟩
theorem Un.kept (k:∀b u,h.get? b=Za u->h'.get? b=Za u):Un fs ex H H h h' :=
 ⟨λ b ob q _ _ _=>k b ob q,λ b ob q _ _ _=>⟨ob.slots,k b ob q⟩,λ _ _ _ n _=>n,λ b ob q _=>⟨ob,k b ob q⟩,λ _ _ q=>q,λ _ _ _ q=>q,λ _ ps q=>⟨#[],by rw[q];simp⟩⟩
theorem Un.refl:Un fs ex H H h h:=Un.kept λ _ _ q=>q
theorem Un.laid (k:∀b u,h.get? b=Za u->h'.get? b=Za u)(hp:h.objs.size<=a)(hn:H a=Zd):Un fs ex H (upd H a o) h h' where
 keep:=λ b u q _ _ _=>k b u q
 slot:=λ b u q _ _ _=>⟨u.slots,k b u q⟩
 free:=λ b u q n _=>by rw[Jo (Z3 (ZI (Zz q) hp))];exact n
 there:=λ b u q _=>⟨u,k b u q⟩
 tups:=λ b xs q=>by rw[Jo (Va q hn)];exact q
 frzs:=λ b u xs q=>by rw[Jo (Va q hn)];exact q
 tbls:=λ b ps q=>⟨#[],by rw[Jo (Va q hn),q];simp⟩
theorem Un.write (mu:Mut (H x))(he:e=x∨H e=Za (.own x))(k:∀b u,b≠e->h.get? b=Za u->h'.get? b=Za u)(heo:∃u,h'.get? e=Za u):Un fs ex H (upd H x o) h h':=by
 have hx:∀b,H b=Zd->b≠x:=λ b n z=>by subst z;rw[n] at mu;exact mu
 have hb:∀b,H b=Zd->b≠e:=λ b n z=>by
  subst z
  rcases he with r|r
  ·exact hx b n r
  ·rw[n] at r;cases r
 have hm:∀b u,H b=Za u->¬Mut (Za u)->b≠x:=λ b u q nm z=>by subst z;rw[q] at mu;exact nm mu
 refine⟨λ b u q n _ _=>k b u (hb b n) q,λ b u q n _ _=>⟨u.slots,k b u (hb b n) q⟩,λ b u q n _=>by rw[Jo (hx b n)];exact n,λ b u q _=>?_,
  λ b xs q=>by rw[Jo (hm b _ q λ z=>z)];exact q,λ b u xs q=>by rw[Jo (hm b _ q λ z=>z)];exact q,λ b ps q=>⟨#[],by rw[Jo (hm b _ q λ z=>z),q];simp⟩⟩
 by_cases hbe:b=e
 ·subst hbe;exact heo
 ·exact⟨u,k b u hbe q⟩
end
def trk (h:Zar)(H:Hp):List Zq:=(Z9 h.objs.size).filter λ a=>(H a).isSome
def hidT (h:Zar)(H:Hp):Zar:=W.hideAll h (trk h H)
theorem Jqt (h:Zar)(H:Hp):(hidT h H).objs.size=h.objs.size:=W.hideAll_size _ _
theorem Jtm {h:Zar}{H:Hp}{b:Zq}{o:Obj}(e:h.get? b=Za o)(n:H b=Zd):(hidT h H).get? b=Za o :=
 W.hideAll_get _ e λ hm=>by
  have q:(H b).isSome=Zj:=(Za0.mp hm).2
  rw[n] at q;simp at q
theorem Jx6 {h:Zar}{H:Hp}{b:Zq}{o:Obj}(e:(hidT h H).get? b=Za o):h.get? b=Za o/\H b=Zd:=by
 have e':h.get? b=Za o:=W.of_hideAll (trk h H) e
 refine⟨e',?_⟩
 cases q:H b with
 | none=>rfl
 | some x =>
  have hm:b∈trk h H:=Za0.mpr ⟨ZR.mpr (Zz e'),by simp[q]⟩
  have z:(hidT h H).get? b=Zd:=W.hideAll_none (trk h H) hm
  rw[z] at e;cases e
structure Mod (K:W.Frag)(mg:Str->Option Zh)(base:Zar):Prop where
 kin:K.In base
 glob:base.Ns Z4 mg
 blt:∃mb,base.Ns ZcQ mb/\∀x:Str,x≠"__name__"->mb x=Zc1 x
 nolimit:base.NoLimit
structure Cx where
 prog:ZC
 w:ZU
 K:W.Frag
 mg:Str->Option Zh
 base:Zar
 A:ZJ
 N:List Str
 s₀:Zl
 H₀:Hp
 env:Env
 outer:List Env
 stack:List Env
 ex:List Zq
 fn:Str->Bool
 calm:Bool
 pn:PnT
 xe:QvT
def frs (l:List Env):List Zq:=l.filterMap (·.frame)
abbrev Cx.fs (X:Cx):List Zq:=frs X.outer
def Vis (sc:Zb1)(x:Str):Prop:=sc.names.lookup x=Za .local∨sc.names.lookup x=Za .cell∨sc.names.lookup x=Za .free
def Loc (sc:Zb1)(x:Str):Prop:=sc.names.lookup x=Za .local∨sc.names.lookup x=Za .cell
def Look (env:Env)(h:Zar)(m:Str->Option Zh)(x:Str)(u:Zh):Prop :=
 (env.kindOf x=Za .local/\m x=Za u)∨((env.kindOf x=Za .cell∨env.kindOf x=Za .free)/\∃c,env.cells.lookup x=Za c/\h.IsCell c (Za u))
structure Cx.Ok (X:Cx):Prop where
 mod:Mod X.K X.mg X.base
 kind:X.env.scope.kind=.function
 glob:X.env.globals=Z4
 blt:X.env.builtins=ZcQ
 above:X.s₀.heap.objs.size<=X.env.locals
 inj:∀x y c,X.env.cells.lookup x=Za c->X.env.cells.lookup y=Za c->x=y
 has:∀x,(X.env.kindOf x=Za .cell∨X.env.kindOf x=Za .free)->∃c,X.env.cells.lookup x=Za c
 cab:∀x c,X.fn x=Zj->X.env.cells.lookup x=Za c->X.s₀.heap.objs.size<=c
 hd:X.calm=Zj->X.A.handled=Zd
 frames:X.A.frames=Za X.stack
 stk:X.stack=X.outer∨(X.stack=X.env::X.outer/\X.env.frame=Za X.env.locals)
 exf:∀b∈X.ex,b≠X.env.locals/\∀x c,X.env.cells.lookup x=Za c->c≠b
 bs:∀b o,X.base.get? b=Za o->X.s₀.heap.get? b=Za o/\X.H₀ b=Zd
 bsz:X.base.objs.size<=X.s₀.heap.objs.size
 noex:∀b o,X.base.get? b=Za o->b∉X.ex
 exfs:∀b∈X.ex,b∉X.fs
 funs:X.s₀.heap.FunFrames X.base X.outer
 frf:∀b∈X.fs,X.H₀ b=Zd
structure Inv (X:Cx)(pj:PnT)(σ:List (Option V))(H:Hp)(s:Zl):Prop where
 ok:X.Ok
 os:s.os=X.s₀.os
 bare:ZdG s.gens
 base:Un X.fs X.ex X.H₀ H X.s₀.heap s.heap
 loc:∃m,s.heap.Ns X.env.locals m/\∀(i:Nat)(x:Str)(v:V),X.N[i]?=Za x->σ[i]?=Za (Za v)->Vis X.env.scope x->∃u,RelV v u/\Look X.env s.heap m x u
 cell:∀x c,X.env.cells.lookup x=Za c->∃v,s.heap.IsCell c v
 free:H X.env.locals=Zd
 freeC:∀x c,X.env.cells.lookup x=Za c->H c=Zd
 pin:∀p∈X.pn++pj,s.heap.get? p.1=Za p.2/\H p.1=Zd/\p.1≠X.env.locals/\p.1∉X.fs/\∀v,p.2.data≠.cell v
 hok:HOk X.prog X.w H s.heap
 len:σ.length=X.N.length
section
variable {X:Cx}{pj:PnT}{σ:List (Option V)}{H H':Hp}{s:Zl}{h':Zar}
theorem Cx.Ok.nofr (ok:X.Ok){b:Zq}{o:Obj}(e:X.base.get? b=Za o):b∉X.fs:=λ hb=>by
 have:=(ok.funs.mem hb).1
 rw[e] at this;cases this
theorem Inv.bs (I:Inv X pj σ H s):∀b o,X.base.get? b=Za o->s.heap.get? b=Za o/\H b=Zd:=λ b o e =>
 ⟨I.base.keep b o (I.ok.bs b o e).1 (I.ok.bs b o e).2 (I.ok.nofr e) (I.ok.noex b o e),I.base.free b o (I.ok.bs b o e).1 (I.ok.bs b o e).2 (I.ok.noex b o e)⟩
theorem Inv.bk (I:Inv X pj σ H s):∀b o,X.base.get? b=Za o->s.heap.get? b=Za o:=λ b o e=>(I.bs b o e).1
theorem Inv.mod (I:Inv X pj σ H s):Mod X.K X.mg X.base:=I.ok.mod
theorem Inv.kIn (I:Inv X pj σ H s):X.K.In s.heap:=I.ok.mod.kin.keeps I.bk
theorem Inv.lt (I:Inv X pj σ H s):X.env.locals<s.heap.objs.size:=let ⟨_,hn,_⟩:=I.loc;hn.lt
theorem Inv.sz (I:Inv X pj σ H s):X.s₀.heap.objs.size<=s.heap.objs.size:=Zaf I.ok.above (Zb2 I.lt)
theorem Inv.nofs (I:Inv X pj σ H s){a:Zq}(h:s.heap.objs.size<=a):a∉X.fs:=λ hb=>by
 obtain⟨_,o,ho,_⟩:=I.ok.funs.mem hb
 exact absurd (ZI (Zz ho) (Zaf I.sz h)) (ZcF _)
theorem Inv.cne (I:Inv X pj σ H s):∀x c,X.env.cells.lookup x=Za c->c≠X.env.locals:=λ x c e z=>by
 obtain⟨v,o,ho,hd⟩:=I.cell x c e
 obtain⟨m,⟨o',es,ep,ho',hd',_⟩,_⟩:=I.loc
 rw[z,ho'] at ho;cases ho;rw[hd'] at hd;cases hd
theorem Inv.funs (I:Inv X pj σ H s):s.heap.FunFrames X.base X.outer:=by
 have all:∀(l:List Env),(∀b∈frs l,b∈X.fs)->X.s₀.heap.FunFrames X.base l->s.heap.FunFrames X.base l:=by
  intro l
  induction l with
  | nil=>intro _ _;trivial
  | cons env r ih =>
   intro hs hl
   obtain⟨hk,⟨L,o,hf,hn,ho,hd⟩,hr⟩:=hl
   have hL:L∈X.fs:=hs L (by unfold frs;rw[ZdD,hf];exact Z0)
   obtain⟨sl,e⟩:=I.base.slot L o ho (I.ok.frf L hL) hL λ z=>I.ok.exfs L z hL
   exact⟨hk,⟨L,_,hf,hn,e,hd⟩,ih (λ b hb=>hs b (by unfold frs;rw[ZdD,hf];exact Zi _ hb)) hr⟩
 exact all X.outer (λ _ hb=>hb) I.ok.funs
theorem Inv.stack (I:Inv X pj σ H s):s.heap.FunFrames X.base X.stack:=by
 rcases I.ok.stk with e|⟨e,hf⟩
 ·rw[e];exact I.funs
 ·rw[e]
  obtain⟨m,hn,_⟩:=I.loc
  refine .cons (by rw[I.ok.kind];decide) hf hn ?_ I.funs
  exact Heap.get?_none_of_le (Zaf I.ok.bsz I.ok.above)
theorem Inv.stkSub (I:Inv X pj σ H s):∀b∈frs X.stack,b∈X.env.locals::X.fs:=λ b hb=>by
 rcases I.ok.stk with e|⟨e,hf⟩
 ·rw[e] at hb;exact Zi _ hb
 ·rw[e] at hb
  unfold frs at hb
  rw[ZdD,hf] at hb
  exact hb
theorem Inv.stkFree (I:Inv X pj σ H s):∀b∈frs X.stack,H b=Zd:=λ b hb=>by
 rcases Z2.mp (I.stkSub b hb) with e|hb
 ·rw[e];exact I.free
 ·obtain⟨_,o,ho,_⟩:=I.ok.funs.mem hb
  exact I.base.free b o ho (I.ok.frf b hb) λ z=>I.ok.exfs b z hb
theorem Inv.step {g':Array Zep}{t':Nat}{d':Drawn}{ch:List Zq}(I:Inv X pj σ H s)
  (hch:∀b∈ch,(b∈X.ex∨X.s₀.heap.objs.size<=b)/\b≠X.env.locals/\(∀x c,X.env.cells.lookup x=Za c->c≠b)/\∀p∈X.pn++pj,p.1≠b)
  (keep:∀b o,b≠X.env.locals->b∉X.fs->b∉ch->s.heap.get? b=Za o->H b=Zd->h'.get? b=Za o)
  (slot:∀b o,b≠X.env.locals->b∈X.fs->b∉ch->s.heap.get? b=Za o->H b=Zd->∃sl,h'.get? b=Za { o with slots:=sl })(free:∀b o,b∉ch->s.heap.get? b=Za o->H b=Zd->H' b=Zd)
  (there:∀b o,b∉ch->s.heap.get? b=Za o->∃o',h'.get? b=Za o')
  (tups:∀b xs,H b=Za (.tup xs)->H' b=Za (.tup xs))(frzs:∀b o u,H b=Za (.frz o u)->H' b=Za (.frz o u))(tbls:∀b ps,H b=Za (.tbl ps)->∃more,H' b=Za (.tbl (ps++more)))
  (ns:∀m,s.heap.Ns X.env.locals m->h'.Ns X.env.locals m)(hok:HOk X.prog X.w H' h')(hg:ZdG g') :
  Inv X pj σ H' { s with heap:=h',gens:=g',drawn:=d',toks:=t' }:=by
 have neL:∀b o,X.s₀.heap.get? b=Za o->b≠X.env.locals:=λ b o e=>Z3 (ZI (Zz e) I.ok.above)
 have neC:∀b o,X.s₀.heap.get? b=Za o->b∉X.ex->b∉ch:=λ b o e hx hb=>by
  rcases(hch b hb).1 with z|z
  ·exact hx z
  ·exact absurd (ZI (Zz e) z) (ZcF _)
 have cellK:∀x c,X.env.cells.lookup x=Za c->∀v,s.heap.IsCell c v->h'.IsCell c v:=λ x c e v ⟨o,ho,hd⟩=>by
  have nch:c∉ch:=λ z=>(hch c z).2.2.1 x c e rfl
  by_cases hc:c∈X.fs
  ·obtain⟨sl,q⟩:=slot c o (I.cne x c e) hc nch ho (I.freeC x c e)
   exact⟨_,q,hd⟩
  ·exact⟨o,keep c o (I.cne x c e) hc nch ho (I.freeC x c e),hd⟩
 refine⟨I.ok,I.os,hg,⟨λ b o e n hb hx=>?_,λ b o e n hb hx=>?_,λ b o e n hx=>?_,λ b o e hx=>?_,λ b xs e=>tups b xs (I.base.tups b xs e),λ b o xs e=>frzs b o xs (I.base.frzs b o xs e),λ b ps e=>?_⟩,?_,λ x c e=>?_,?_,λ x c e=>?_,λ p hp=>?_,hok,I.len⟩
 ·exact keep b o (neL b o e) hb (neC b o e hx) (I.base.keep b o e n hb hx) (I.base.free b o e n hx)
 ·obtain⟨sl,e1⟩:=I.base.slot b o e n hb hx
  obtain⟨sl',e2⟩:=slot b _ (neL b o e) hb (neC b o e hx) e1 (I.base.free b o e n hx)
  exact⟨sl',e2⟩
 ·obtain⟨o',e1⟩:=I.base.there b o e hx
  exact free b o' (neC b o e hx) e1 (I.base.free b o e n hx)
 ·obtain⟨o',e1⟩:=I.base.there b o e hx
  exact there b o' (neC b o e hx) e1
 ·obtain⟨m1,e1⟩:=I.base.tbls b ps e
  obtain⟨m2,e2⟩:=tbls b _ e1
  exact⟨m1++m2,by rw[e2,Array.append_assoc]⟩
 ·obtain⟨m,hn,hl⟩:=I.loc
  refine⟨m,ns m hn,λ i x v e1 e2 e3=>?_⟩
  obtain⟨u,r,l⟩:=hl i x v e1 e2 e3
  refine⟨u,r,?_⟩
  rcases l with l|⟨k,c,e,z⟩
  ·exact .inl l
  ·exact .inr ⟨k,c,e,cellK x c e _ z⟩
 ·obtain⟨v,z⟩:=I.cell x c e
  exact⟨v,cellK x c e v z⟩
 ·obtain⟨m,⟨o,_,_,ho,_⟩,_⟩:=I.loc
  exact free _ o (λ z=>(hch _ z).2.1 rfl) ho I.free
 ·obtain⟨v,o,ho,hd⟩:=I.cell x c e
  exact free c o (λ z=>(hch c z).2.2.1 x c e rfl) ho (I.freeC x c e)
 ·obtain⟨e,n,ne,nf,d⟩:=I.pin p hp
  have nch:p.1∉ch:=λ z=>(hch p.1 z).2.2.2 p hp rfl
  exact⟨keep p.1 p.2 ne nf nch e n,free p.1 p.2 nch e n,ne,nf,d⟩
theorem Inv.un {t':Nat}(I:Inv X pj σ H s)(u:Un X.fs [] H H' s.heap h')(hok:HOk X.prog X.w H' h'):Inv X pj σ H' { s with heap:=h',toks:=t' }:=by
 obtain⟨m,⟨o,es,ep,ho,r⟩,_⟩:=id I.loc
 obtain⟨sl,hL⟩:=u.any ho I.free (by simp)
 exact I.step (g':=s.gens) (d':=s.drawn) (ch:=[]) (λ _ z=>nomatch z) (λ b o _ hb _ e n=>u.keep b o e n hb (by simp)) (λ b o _ hb _ e n=>u.slot b o e n hb (by simp)) (λ b o _ e n=>u.free b o e n (by simp)) (λ b o _ e=>u.there b o e (by simp)) u.tups u.frzs u.tbls (λ m' hm=>by
  obtain⟨o',es',ep',ho',r'⟩:=hm
  rw[ho] at ho';cases ho'
  exact⟨_,es',ep',hL,r'⟩) hok I.bare
theorem Inv.call {g':Array Zep}{t':Nat}{d':Drawn}{ch:List Zq}(I:Inv X pj σ H s)(u:Un (frs X.stack) ch H H' s.heap h')(hok:HOk X.prog X.w H' h')(hg:ZdG g')
  (hch:∀b∈ch,(b∈X.ex∨X.s₀.heap.objs.size<=b)/\b≠X.env.locals/\(∀x c,X.env.cells.lookup x=Za c->c≠b)/\∀p∈X.pn++pj,p.1≠b) :
  Inv X pj σ H' { s with heap:=h',gens:=g',drawn:=d',toks:=t' }:=by
 obtain⟨m,⟨o,es,ep,ho,r⟩,_⟩:=id I.loc
 obtain⟨sl,hL⟩:=u.any ho I.free λ z=>(hch _ z).2.1 rfl
 exact I.step (ch:=ch) hch (λ b o hL hb hc e n=>u.keep b o e n (λ z=>(Z2.mp (I.stkSub b z)).elim hL hb) hc) (λ b o _ _ hc e n=>u.any e n hc) (λ b o hc e n=>u.free b o e n hc) (λ b o hc e=>u.there b o e hc) u.tups u.frzs u.tbls (λ m' hm=>by
  obtain⟨o',es',ep',ho',r'⟩:=hm
  rw[ho] at ho';cases ho'
  exact⟨_,es',ep',hL,r'⟩) hok hg
theorem Inv.turned {t':Nat}{it:Zq}(I:Inv X pj σ H s)(k:∀b o,b≠it->s.heap.get? b=Za o->h'.get? b=Za o)(hn:H it=Zd)(hL:it≠X.env.locals)
  (h1:it∈X.ex∨X.s₀.heap.objs.size<=it)(h2:∀x c,X.env.cells.lookup x=Za c->c≠it)(h3:∀p∈X.pn++pj,p.1≠it):Inv X pj σ H { s with heap:=h',toks:=t' }:=by
 have nit:∀b u,H b=Za u->b≠it:=λ b u e z=>by rw[z,hn] at e;cases e
 refine I.step (g':=s.gens) (d':=s.drawn) (ch:=[it]) (λ b hb=>?_) (λ b o _ _ hc e _=>k b o (λ z=>hc (by simp[z])) e) (λ b o _ _ hc e _=>⟨o.slots,k b o (λ z=>hc (by simp[z])) e⟩) (λ _ _ _ _ n=>n)
  (λ b o hc e=>⟨o,k b o (λ z=>hc (by simp[z])) e⟩) (λ _ _ e=>e) (λ _ _ _ e=>e) (λ b ps e=>⟨#[],by rw[e];simp⟩) (λ m hm=>?_) (λ b u e=>?_) I.bare
 ·have e:b=it:=by simpa using hb
  subst e
  exact⟨h1,hL,h2,h3⟩
 ·obtain⟨o,es,ep,ho,r⟩:=hm
  exact⟨o,es,ep,k _ o (ZO hL) ho,r⟩
 ·refine(I.hok b u e).stay (λ c v hc q=>k c v ?_ q) (λ _ q=>q) λ _ _ q=>q
  rcases hc with z|z
  ·rw[z];exact nit b u e
  ·exact nit c _ z
theorem Inv.tok (I:Inv X pj σ H s)(t:Nat):Inv X pj σ H { s with toks:=t }:=I.un (h':=s.heap) (t':=t) Un.refl I.hok
theorem Inv.kept {t':Nat}(I:Inv X pj σ H s)(k:∀b u,s.heap.get? b=Za u->h'.get? b=Za u):Inv X pj σ H { s with heap:=h',toks:=t' }:=I.un (Un.kept k) (I.hok.kept k)
theorem Inv.laid {a:Zq}{o:HO}{t':Nat}(I:Inv X pj σ H s)(k:∀b u,s.heap.get? b=Za u->h'.get? b=Za u)(hp:s.heap.objs.size<=a)(new:JC X.prog X.w (upd H a o) h' a o) :
  Inv X pj σ (upd H a o) { s with heap:=h',toks:=t' }:=I.un (Un.laid k hp (I.hok.fresh hp)) (I.hok.laid k hp new)
theorem Inv.write {x e:Zq}{o:HO}{t':Nat}(I:Inv X pj σ H s)(mu:Mut (H x))(he:e=x∨H e=Za (.own x))(k:∀b u,b≠e->s.heap.get? b=Za u->h'.get? b=Za u)(heo:∃u,h'.get? e=Za u)
  (new:JC X.prog X.w (upd H x o) h' x o):Inv X pj σ (upd H x o) { s with heap:=h',toks:=t' }:=I.un (Un.write mu he k heo) (I.hok.write mu he k heo new)
theorem Inv.pins_of {pj':PnT}(I:Inv X pj σ H s)(h:∀p∈pj',s.heap.get? p.1=Za p.2/\H p.1=Zd/\p.1≠X.env.locals/\p.1∉X.fs/\∀v,p.2.data≠.cell v):Inv X pj' σ H s :=
 ⟨I.ok,I.os,I.bare,I.base,I.loc,I.cell,I.free,I.freeC,λ p hp=>(Zah.mp hp).elim (λ z=>I.pin p (ZY _ z)) (h p),I.hok,I.len⟩
theorem Jmw {N:List Str}(hN:N.Nodup){i j:Nat}{x:Str}(a:N[i]?=Za x)(b:N[j]?=Za x):i=j:=by
 obtain⟨h1,e1⟩:=Zt.mp a
 obtain⟨h2,e2⟩:=Zt.mp b
 exact(Zeq hN).mp (e1.trans e2.symm)
theorem Jse {M:Model}{A:ZJ}{E:QvT}{i:Nat}{x:Str}{v:V}{u:Zh}{Q:Unit->Zl->Prop}(I:Inv X pj σ H s)(hN:X.N.Nodup)(hi:X.N[i]?=Za x)(hx:Loc X.env.scope x)(r:RelV v u)
  (h:∀s',Inv X pj (σ.set i (Za v)) H s'->(∃a,Zb3 a s.heap s'.heap/\(a=X.env.locals∨X.env.cells.lookup x=Za a))->Q () s')(hf:X.fn x=Zj∨X.env.scope.names.lookup x=Za .local:=by assumption):Zu M A (storeName X.env x u) Q E s:=by
 obtain⟨m,hn,hl⟩:=id I.loc
 have hcls:(X.env.scope.kind==.class||(X.env.scope.kind==.module&&X.env.locals != X.env.globals))=Zm:=by rw[I.ok.kind];rfl
 have hiσ:i<σ.length:=by rw[I.len];exact(Zt.mp hi).1
 have cne:=I.cne
 have tracked:∀{a:Zq}{h':Zar},(∃o,s.heap.get? a=Za o/\H a=Zd)->Zb3 a s.heap h'->HOk X.prog X.w H h':=λ {a h'} ha hs b ob e=>by
  obtain⟨_,_,hfree⟩:=ha
  refine(I.hok b ob e).stay (λ c w' hc q=>(hs.2 c ?_).trans q) (λ _ q=>q) λ _ _ q=>q
  rintro rfl
  rcases hc with rfl|hc
  ·rw[hfree] at e;cases e
  ·rw[hfree] at hc;cases hc
 rcases hx with hk|hk
 ·refine wpAny_storeName_local hk hn (λ h' hn' hs=>?_) hcls
  obtain⟨oL,_,_,hoL,_⟩:=id hn
  refine h _ ⟨I.ok,I.os,I.bare,⟨λ b o e n hb hx=>?_,λ b o e n hb hx=>?_,I.base.free,λ b o e hx=>?_,I.base.tups,I.base.frzs,I.base.tbls⟩,⟨_,hn',λ j y v' e1 e2 e3=>?_⟩,λ y c e=>?_,I.free,I.freeC,λ p hp=>?_,tracked ⟨oL,hoL,I.free⟩ hs,by simpa using I.len⟩ ⟨_,hs,.inl rfl⟩
  ·exact(hs.2 b (Z3 (ZI (Zz e) I.ok.above))).trans (I.base.keep b o e n hb hx)
  ·obtain⟨sl,e1⟩:=I.base.slot b o e n hb hx
   exact⟨sl,(hs.2 b (Z3 (ZI (Zz e) I.ok.above))).trans e1⟩
  ·obtain⟨o',e1⟩:=I.base.there b o e hx
   exact⟨o',(hs.2 b (Z3 (ZI (Zz e) I.ok.above))).trans e1⟩
  ·by_cases hj:j=i
   ·subst hj
    rw[hi] at e1;cases e1
    rw[ZZ hiσ] at e2
    cases e2
    exact⟨u,r,.inl ⟨hk,by simp⟩⟩
   ·rw[Zad (ZO hj)] at e2
    obtain⟨u',r',q⟩:=hl j y v' e1 e2 e3
    refine⟨u',r',?_⟩
    rcases q with⟨k,e⟩|⟨k,c,e,z⟩
    ·refine .inl ⟨k,?_⟩
     have:y≠x:=λ e=>hj (Jmw hN e1 (e▸hi))
     simp[this,e]
    ·exact .inr ⟨k,c,e,z.sameBut hs (cne y c e)⟩
  ·obtain⟨w',z⟩:=I.cell y c e
   exact⟨w',z.sameBut hs (cne y c e)⟩
  ·obtain⟨e,n,ne,nf,d⟩:=I.pin p hp
   exact⟨(hs.2 p.1 ne).trans e,n,ne,nf,d⟩
 ·have hfn:X.fn x=Zj:=by
   rcases hf with z|z
   ·exact z
   ·rw[z] at hk;cases hk
  obtain⟨c,hc⟩:=I.ok.has x (.inl hk)
  obtain⟨w',z⟩:=I.cell x c hc
  refine wpAny_storeName_cell I.ok.kind hk hc z (λ h' hc' hs=>?_)
  obtain⟨oc,hoc,hocd⟩:=id z
  refine h { s with heap:=h' } ⟨I.ok,I.os,I.bare,⟨λ b o e n hb hx=>?_,λ b o e n hb hx=>?_,I.base.free,λ b o e hx=>?_,I.base.tups,I.base.frzs,I.base.tbls⟩,⟨m,hn.sameBut hs (ZO (cne x c hc)),λ j y v' e1 e2 e3=>?_⟩,λ y c' e=>?_,I.free,I.freeC,λ p hp=>?_,tracked ⟨oc,hoc,I.freeC x c hc⟩ hs,by simpa using I.len⟩ ⟨c,hs,.inr hc⟩
  ·exact(hs.2 b (Z3 (ZI (Zz e) (I.ok.cab x c hfn hc)))).trans (I.base.keep b o e n hb hx)
  ·obtain⟨sl,e1⟩:=I.base.slot b o e n hb hx
   exact⟨sl,(hs.2 b (Z3 (ZI (Zz e) (I.ok.cab x c hfn hc)))).trans e1⟩
  ·obtain⟨o',e1⟩:=I.base.there b o e hx
   exact⟨o',(hs.2 b (Z3 (ZI (Zz e) (I.ok.cab x c hfn hc)))).trans e1⟩
  ·by_cases hj:j=i
   ·subst hj
    rw[hi] at e1;cases e1
    rw[ZZ hiσ] at e2
    cases e2
    exact⟨u,r,.inr ⟨.inl hk,c,hc,hc'⟩⟩
   ·rw[Zad (ZO hj)] at e2
    obtain⟨u',r',q⟩:=hl j y v' e1 e2 e3
    refine⟨u',r',?_⟩
    rcases q with q|⟨k,c',e,z'⟩
    ·exact .inl q
    ·refine .inr ⟨k,c',e,z'.sameBut hs ?_⟩
     rintro rfl
     exact hj (Jmw hN e1 (I.ok.inj _ _ _ e hc▸hi))
  ·by_cases hcc:c'=c
   ·subst hcc;exact⟨_,hc'⟩
   ·obtain⟨w2,z2⟩:=I.cell y c' e
    exact⟨w2,z2.sameBut hs hcc⟩
  ·obtain⟨e,n,ne,nf,d⟩:=I.pin p hp
   refine⟨(hs.2 p.1 ?_).trans e,n,ne,nf,d⟩
   intro q
   rw[q,hoc] at e
   have q':oc=p.2:=Zao e
   exact d w' (by rw[<- q'];exact hocd)
theorem Jf2 {M:Model}{A:ZJ}{E:QvT}{i:Nat}{x:Str}{v:V}{u:Zh}{Q:Unit->Zl->Prop}(I:Inv X pj σ H s)(hN:X.N.Nodup)(hi:X.N[i]?=Za x)(hx:Loc X.env.scope x)(r:RelV v u)
  (h:∀s',Inv X pj (σ.set i (Za v)) H s'->Q () s')(hf:X.fn x=Zj∨X.env.scope.names.lookup x=Za .local:=by assumption):Zu M A (storeName X.env x u) Q E s :=
 Jse I hN hi hx r (λ s' I' _=>h s' I') hf
theorem Inv.call' {s':Zl}{ch:List Zq}(I:Inv X pj σ H s)(ho:s'.os=s.os)(u:Un (frs X.stack) ch H H' s.heap s'.heap)(hok:HOk X.prog X.w H' s'.heap)(hg:ZdG s'.gens)
  (hch:∀b∈ch,(b∈X.ex∨X.s₀.heap.objs.size<=b)/\b≠X.env.locals/\(∀x c,X.env.cells.lookup x=Za c->c≠b)/\∀p∈X.pn++pj,p.1≠b):Inv X pj σ H' s':=by
 obtain⟨h',g',d',t',o'⟩:=s'
 have e:o'=s.os:=ho
 subst e
 exact I.call (g':=g') (t':=t') (d':=d') u hok hg hch
end
abbrev XK:=Zh->Option Zq->Hp->Prop
abbrev St:=List (Option V)
abbrev VK:=V->Hp->Prop
abbrev TE:=St->Hp->VK->Prop
abbrev TT:=St->Hp->(Bool->Hp->Prop)->Prop
abbrev TA:=St->Hp->(List V->Hp->Prop)->Prop
structure Ends where
 nx:St->Hp->Prop
 rt:VK
 bk:St->Hp->Prop:=λ _ _=>False
 ct:St->Hp->Prop:=λ _ _=>False
abbrev TS:=Ends->St->Hp->Prop
def EP (X:Cx)(pj:PnT)(σ:St)(Q:VK)(u:Zh)(s':Zl):Prop:=∃v H',Inv X pj σ H' s'/\RelV v u/\Q v H'
def TP (X:Cx)(pj:PnT)(σ:St)(Q:Bool->Hp->Prop)(b:Bool)(s':Zl):Prop:=∃H',Inv X pj σ H' s'/\Q b H'
def SP (X:Cx)(pj:PnT)(D:Ends)(f:Flow)(s':Zl):Prop :=
 match f with
 | .next=>∃σ' H',Inv X pj σ' H' s'/\D.nx σ' H'
 | .brk=>∃σ' H',Inv X pj σ' H' s'/\D.bk σ' H'
 | .cont=>∃σ' H',Inv X pj σ' H' s'/\D.ct σ' H'
 | .ret u=>∃v σ' H',Inv X pj σ' H' s'/\RelV v u/\D.rt v H'
def PE (X:Cx)(e:Expr)(t:TE):Prop :=
 ∀(pj:PnT)(s:Zl)(σ:St)(H:Hp)(Q:VK),Inv X pj σ H s->t σ H Q->Zu (Z6 X.prog X.w) X.A (Zbr e X.env) (EP X pj σ Q) X.xe s
def PSs (X:Cx)(st:List ZdP)(t:TS):Prop :=
 ∀(pj:PnT)(s:Zl)(σ:St)(H:Hp)(D:Ends),Inv X pj σ H s->t D σ H->Zu (Z6 X.prog X.w) X.A (execs st X.env) (SP X pj D) X.xe s
theorem thn {α:Type}{t:Sem α}{Q Q':α->Zl->Prop}{M:Model}{A:ZJ}{E:QvT}{s:Zl}(h:Zu M A t Q E s)(hQ:∀a s,Q a s->Q' a s):Zu M A t Q' E s:=Zas h hQ λ _ _ x=>x
section
variable {X:Cx}
def tVar (i:Nat):TE:=λ σ H Q=>∃v,σ[i]?=Za (Za v)/\Q v H
def tC (v:V):TE:=λ _ H Q=>Q v H
theorem J04 {i:Nat}{x:Str}{pos:Pos}(hN:X.N[i]?=Za x)(hv:Vis X.env.scope x)(hd:(x==("__debug__":Str))=Zm:=by decide)(hcd:(x==("__classdict__":Str))=Zm:=by decide):PE X (.Name x pos) (tVar i):=by
 intro pj s σ H Q I h
 obtain⟨v,e,h⟩:=h
 obtain⟨m,hn,hl⟩:=I.loc
 obtain⟨u,r,l⟩:=hl i x v hN e hv
 have fin:EP X pj σ Q u s:=⟨v,H,I,r,h⟩
 rcases l with⟨hk,hm⟩|⟨hk,c,hc,hcell⟩
 ·exact wpAny_Name (wpAny_loadName_local I.ok.kind hk hn hm fin) hd
 ·rcases hk with hk|hk
  ·exact wpAny_Name (wpAny_loadName_cell I.ok.kind hk hc hcell fin) hd
  ·exact wpAny_Name (wpAny_loadName_free I.ok.kind hk hc hcell fin hcd) hd
theorem J01 {i j pos}:PE X (.Constant (.int i) j pos) (tC (.int i)):=λ _ _ _ H _ I h=>wpAny_Constant_int ⟨.int i,H,I.tok _,⟨_,rfl⟩,h⟩
theorem J3j {b j pos}:PE X (.Constant (.bool b) j pos) (tC (.bl b)):=λ _ _ _ H _ I h=>Constant_bool ⟨.bl b,H,I,rfl,h⟩
theorem J02 {j pos}:PE X (.Constant .none j pos) (tC .non):=λ _ _ _ H _ I h=>Constant_none ⟨.non,H,I,rfl,h⟩
theorem J03 {x j pos}:PE X (.Constant (.str x) j pos) (tC (.str x)):=λ _ _ _ H _ I h=>Calls.Constant_str ⟨.str x,H,I.tok _,⟨_,rfl⟩,h⟩
def Gl (X:Cx)(x:Str):Prop:=X.env.kindOf x=Za .globalImplicit
theorem VT {E:QvT}{pj:PnT}{s:Zl}{σ:St}{H:Hp}{x:Str}{u:Zh}{pos:Pos}{Q:QvT}(I:Inv X pj σ H s)(hg:Gl X x)(hm:X.mg x=Za u)(h:Q u s)
  (hd:(x==("__debug__":Str))=Zm:=by decide):Zu (Z6 X.prog X.w) X.A (Zbr (.Name x pos) X.env) Q E s :=
 ZdQ I.ok.kind hg (Calls.loadGlobal_global (by rw[I.ok.glob];exact I.mod.glob.keeps I.bk) hm h) hd
theorem Qh {E:QvT}{pj:PnT}{s:Zl}{σ:St}{H:Hp}{x:Str}{u:Zh}{pos:Pos}{Q:QvT}(I:Inv X pj σ H s)(hg:Gl X x)(hm:X.mg x=Zd)(hv:Zc1 x=Za u)(h:Q u s)
  (hn:x≠"__name__":=by decide)(hd:(x==("__debug__":Str))=Zm:=by decide):Zu (Z6 X.prog X.w) X.A (Zbr (.Name x pos) X.env) Q E s:=by
 obtain⟨mb,h1,h2⟩:=I.mod.blt
 exact ZdQ I.ok.kind hg (Calls.loadGlobal_builtin (by rw[I.ok.glob];exact I.mod.glob.keeps I.bk) hm (by rw[I.ok.blt];exact h1.keeps I.bk) ((h2 x hn).trans hv) h) hd
theorem Jya {x:Str}{v:V}{u:Zh}{pos:Pos}(hg:Gl X x)(hm:X.mg x=Za u)(r:RelV v u)(hd:(x==("__debug__":Str))=Zm:=by decide):PE X (.Name x pos) (tC v) :=
 λ _ _ _ H _ I h=>VT I hg hm ⟨v,H,I,r,h⟩ hd
variable {a b:Expr}{ta tb:TE}{pos:Pos}
variable {tA tB':TT}{rest:List Expr}
end
def SqL (K:W.Frag)(H:Hp)(a:Zq)(xs:List V):Prop :=
 Rd H a (.lst xs) ∨
  ∃(o:Obj) (its:Array Zh) (n:Nat),K.lookup a=Za o/\o.cls=.type "list"/\o.dict=Zd/\o.data=.seq its n/\its.size<=sizeLine/\Vals xs its.toList
def SqT (K:W.Frag)(H:Hp)(a:Zq)(xs:List V):Prop :=
 Rd H a (.tup xs) ∨
  ∃(o:Obj) (its:Array Zh) (n:Nat),K.lookup a=Za o/\o.cls=.type "tuple"/\o.data=.seq its n/\its.size<=sizeLine/\Vals xs its.toList
def absV:Zh->Option V
 | .none=>Za .non
 | .bool b=>Za (.bl b)
 | .int i _=>Za (.int i)
 | .str x _=>Za (.str x)
 | .bytes b _=>Za (.byt b)
 | .float b _=>Za (.flt b)
 | .ref a=>Za (.ref a)
 | .type n=>Za (.ty n)
 | _=>Zd
theorem RelV.abs {x:V}{u:Zh}(r:RelV x u):absV u=Za x:=by
 cases x with
 | non=>cases r;rfl
 | bl _=>cases r;rfl
 | int _=>obtain⟨t,rfl⟩:=r;rfl
 | str _=>obtain⟨t,rfl⟩:=r;rfl
 | byt _=>obtain⟨t,rfl⟩:=r;rfl
 | flt _=>obtain⟨t,rfl⟩:=r;rfl
 | ref _=>cases r;rfl
 | ty _=>cases r;rfl
theorem RelV.inj {x y:V}{u:Zh}(r:RelV x u)(q:RelV y u):x=y:=Zao (r.abs.symm.trans q.abs)
theorem Vals.inj:∀{xs ys:List V}{us:List Zh},Vals xs us->Vals ys us->xs=ys
 | _,_,_,.nil,.nil=>rfl
 | _,_,_,.cons r t,.cons r' t'=>by rw[r.inj r',Vals.inj t t']
section
variable {X:Cx}{pj:PnT}{σ:St}{H:Hp}{s:Zl}{a:Zq}{xs ys:List V}
theorem SqL.of {K:W.Frag}(h:H a=Za (.lst xs)):SqL K H a xs:=.inl (.inl h)
theorem SqT.of {K:W.Frag}(h:H a=Za (.tup xs)):SqT K H a xs:=.inl (.inl h)
theorem Inv.list (I:Inv X pj σ H s)(h:SqL X.K H a xs):∃its:List Zh,Vals xs its/\PlainL s.heap a its.toArray/\xs.length<=sizeLine:=by
 rcases h with h|⟨o,its,n,hk,hc,hd,hs,hz,r⟩
 ·obtain⟨z,its,n,r,e⟩:=h.ok I.hok
  exact⟨its,r,⟨_,n,e,rfl,rfl,rfl⟩,z⟩
 ·refine⟨its.toList,r,⟨o,n,I.kIn a o hk,hc,hd,by simpa using hs⟩,?_⟩
  have e:=r.length
  simp only[ZP] at e
  omega
theorem Inv.tuple (I:Inv X pj σ H s)(h:SqT X.K H a xs):∃its:List Zh,Vals xs its/\IsTup s.heap a its.toArray/\xs.length<=sizeLine:=by
 rcases h with h|⟨o,its,n,hk,hc,hs,hz,r⟩
 ·obtain⟨z,its,r,p⟩:=h.ok I.hok
  exact⟨its,r,p,z⟩
 ·refine⟨its.toList,r,⟨o,I.kIn a o hk,hc,n,by simpa using hs⟩,?_⟩
  have e:=r.length
  simp only[ZP] at e
  omega
theorem Inv.list_inj (I:Inv X pj σ H s)(h:SqL X.K H a xs)(h':SqL X.K H a ys):xs=ys:=by
 obtain⟨its,r,⟨o,n,e,_,_,d⟩,_⟩:=I.list h
 obtain⟨its',r',⟨o',n',e',_,_,d'⟩,_⟩:=I.list h'
 rw[e] at e';cases e'
 rw[d] at d'
 injection d' with d1 _
 have:its=its':=by simpa using congrArg Array.toList d1
 subst this
 exact r.inj r'
theorem Inv.tuple_inj (I:Inv X pj σ H s)(h:SqT X.K H a xs)(h':SqT X.K H a ys):xs=ys:=by
 obtain⟨its,r,⟨o,e,_,n,d⟩,_⟩:=I.tuple h
 obtain⟨its',r',⟨o',e',_,n',d'⟩,_⟩:=I.tuple h'
 rw[e] at e';cases e'
 rw[d] at d'
 injection d' with d1 _
 have:its=its':=by simpa using congrArg Array.toList d1
 subst this
 exact r.inj r'
end
abbrev Cx.wish (X:Cx)(E:QvT):Cx:={ X with xe:=E }
abbrev Cx.nox (X:Cx):Cx:=X.wish λ _ _=>False
theorem Cx.Ok.wish {X:Cx}(ok:X.Ok)(E:QvT):(X.wish E).Ok :=
 ⟨ok.mod,ok.kind,ok.glob,ok.blt,ok.above,ok.inj,ok.has,ok.cab,ok.hd,ok.frames,ok.stk,ok.exf,ok.bs,ok.bsz,ok.noex,ok.exfs,ok.funs,ok.frf⟩
theorem Cx.Ok.unwish {X:Cx}{E:QvT}(ok:(X.wish E).Ok):X.Ok :=
 ⟨ok.mod,ok.kind,ok.glob,ok.blt,ok.above,ok.inj,ok.has,ok.cab,ok.hd,ok.frames,ok.stk,ok.exf,ok.bs,ok.bsz,ok.noex,ok.exfs,ok.funs,ok.frf⟩
section
variable {X:Cx}{pj:PnT}{σ:St}{H:Hp}{s:Zl}{E:QvT}
theorem Inv.wish (I:Inv X pj σ H s)(E:QvT):Inv (X.wish E) pj σ H s:=⟨I.ok.wish E,I.os,I.bare,I.base,I.loc,I.cell,I.free,I.freeC,I.pin,I.hok,I.len⟩
theorem Inv.unwish (I:Inv (X.wish E) pj σ H s):Inv X pj σ H s:=⟨I.ok.unwish,I.os,I.bare,I.base,I.loc,I.cell,I.free,I.freeC,I.pin,I.hok,I.len⟩
end
section
variable {X:Cx}{st:ZdP}{rest:List ZdP}{t u:TS}{e:Expr}{te:TE}{pos:Pos}
theorem Inv.quiet {pj:PnT}{σ:St}{H:Hp}{s:Zl}(I:Inv X pj σ H s):interactive X.env=Zm:=by simp[interactive,I.ok.kind]
end
abbrev TSet:=V->V->V->Hp->(Hp->Prop)->Prop
def PSet (X:Cx)(t:TSet):Prop :=
 ∀(pj:PnT)(s:Zl)(σ:St)(H:Hp)(o i v:V)(ov iv u:Zh)(Q:Hp->Prop),Inv X pj σ H s->RelV o ov->RelV i iv->RelV v u->t o i v H Q ->
  Zu (Z6 X.prog X.w) X.A (setItem ov iv u) (λ _ s'=>∃H',Inv X pj σ H' s'/\Q H') X.xe s
section
variable {X:Cx}{pos:Pos}
end
structure It where
 go:Nat->Hp->Prop
 yld:Nat->Hp->V->Hp->Prop
 stop:Nat->Hp->Prop
def FpOk (X:Cx)(pj:PnT)(H:Hp)(b:Zq):Prop :=
 H b=Zd/\b≠X.env.locals/\b∉X.fs/\(b∈X.ex∨X.s₀.heap.objs.size<=b)/\(∀x c,X.env.cells.lookup x=Za c->c≠b)/\∀p∈X.pn++pj,p.1≠b
theorem Inv.fpOk {X:Cx}{pj:PnT}{σ:St}{H H':Hp}{s:Zl}{b:Zq}(I:Inv X pj σ H s)(hb:s.heap.objs.size<=b)(hn:H' b=Zd):FpOk X pj H' b:=by
 refine⟨hn,ZaA (ZI I.lt hb),I.nofs hb,.inr (Zaf I.sz hb),λ x c e z=>?_,λ p hp z=>?_⟩
 ·obtain⟨v,q⟩:=I.cell x c e
  exact absurd (ZI q.lt (by rw[z];exact hb)) (ZcF _)
 ·exact absurd (ZI (Zz (I.pin p hp).1) (by rw[z];exact hb)) (ZcF _)
structure Turn (P:ZC)(w:ZU)(K:W.Frag)(tg:Expr)(J:It)(fp:List Zq)(it:Zq)(tn:Nat->Zar->Prop):Prop where
 mem:it∈fp
 obj:∀i h,tn i h->∀b∈fp,∃o,h.get? b=Za o/\∀v,o.data≠.cell v
 keep:∀i h h',tn i h->(∀b∈fp,∀o,h.get? b=Za o->h'.get? b=Za o)->tn i h'
 item:∀(X:Cx),X.prog=P->X.w=w->X.K=K->X.calm=Zj->∀(i:Nat)(pj:PnT)(s:Zl)(σ:St)(H:Hp)(E:QvT),Inv X pj σ H s->(∀b∈fp,FpOk X pj H b)->tn i s.heap->J.go i H ->
  Zu (Z6 P w) X.A (Zbv (.ref it)) (λ r s1=>∃u,r=Za u /\
   Zu (Z6 P w) X.A (ZcK tg (.ref it) u) (λ _ s2=>∃x H',Inv X pj σ H' s2/\RelV x u/\J.yld i H x H'/\tn (i+1) s2.heap/\∀b∈fp,H' b=Zd) E s1) E s
 done:∀(X:Cx),X.prog=P->X.w=w->X.K=K->X.calm=Zj->∀(i:Nat)(pj:PnT)(s:Zl)(σ:St)(H:Hp)(E:QvT),Inv X pj σ H s->(∀b∈fp,FpOk X pj H b)->tn i s.heap->J.stop i H ->
  Zu (Z6 P w) X.A (Zbv (.ref it)) (λ r s1=>r=Zd/\Inv X pj σ H s1) E s
 self:∀(A:ZJ)(i:Nat)(s:Zl)(Q:QvT)(E:QvT),tn i s.heap->Q (.ref it) s->Zu (Z6 P w) A (Zeg (.ref it)) Q E s
def PIE (X:Cx)(pj:PnT)(σ:St)(tg:Expr)(R:It->Hp->Prop)(itv:Zh)(s2:Zl):Prop :=
 ∃(it:Zq)(fp:List Zq)(tn:Nat->Zar->Prop)(J:It)(H':Hp),itv=.ref it/\Inv X pj σ H' s2/\Turn X.prog X.w X.K tg J fp it tn/\tn 0 s2.heap/\(∀b∈fp,FpOk X pj H' b)/\R J H'
theorem Jtk {M:Model}{A:ZJ}{E:QvT}{s:Zl}{tg:Expr}{it:Zq}{u:Zh}{o:Obj}{n:String}{vs:Array Zh}{Q:Unit->Zl->Prop}(ho:s.heap.get? it=Za o)(hc:o.cls=.type n)(hd:o.data=.fields vs)
  (hn:["enumerate","zip","dict_itemiterator","dict_reverseitemiterator","odict_iterator","itertools.zip_longest","itertools.pairwise"].contains n=Zm)(hQ:Q () s):Zu M A (ZcK tg (.ref it) u) Q E s:=by
 unfold ZcK
 cases tg<;>first
  | exact Zk hQ
  | (cases u<;>first
    | exact Zk hQ
    | (refine Zc (wpAny_load ho ?_)
       rw[hc,hd]
       show Zu M A (if (["enumerate","zip","dict_itemiterator","dict_reverseitemiterator","odict_iterator","itertools.zip_longest","itertools.pairwise"].contains n&&vs[0]?==Za (Za4 _))=Zj then _ else _) Q E s
       rw[if_neg (by intro h;rw[hn,ZdR] at h;cases h)]
       exact Zk hQ))
def Itl (K:W.Frag)(a:Zq):It :=
 ⟨λ i H=>∃xs x,SqL K H a xs/\xs[i]?=Za x,λ i H x H'=>H'=H/\∀xs,SqL K H a xs->xs[i]?=Za x,λ i H=>∃xs,SqL K H a xs/\xs.length<=i⟩
def Itt (K:W.Frag)(a:Zq):It :=
 ⟨λ i H=>∃xs x,SqT K H a xs/\xs[i]?=Za x,λ i H x H'=>H'=H/\∀xs,SqT K H a xs->xs[i]?=Za x,λ i H=>∃xs,SqT K H a xs/\xs.length<=i⟩
def Itr (lo:Int)(n:Nat):It:=⟨λ i _=>i<n,λ i H x H'=>H'=H/\x=.int (lo+i),λ i _=>n<=i⟩
theorem Jld {P:ZC}{w:ZU}{K:W.Frag}{tg:Expr}(a it:Zq):Turn P w K tg (Itl K a) [it] it (λ i h=>h.IsListIter it a i) where
 mem:=by simp
 obj:=λ i h st b hb=>by
  have e:b=it:=by simpa using hb
  subst e
  obtain⟨o,e,c,d⟩:=st
  exact⟨o,e,λ v z=>by rw[d] at z;cases z⟩
 keep:=λ i h h' st k=>st.at λ o e=>k it (by simp) o e
 item:=by
  intro X hP hw hK hc i pj s σ H E I hf st hg
  subst hP hw hK
  obtain⟨xs,x,hq,hx⟩:=hg
  obtain⟨its,rv,p,hz⟩:=I.list hq
  obtain⟨u,hu,ru⟩:=rv.get hx
  obtain⟨f0,f1,f2,f3,f4,f5⟩:=hf it (by simp)
  refine Ze7 st p.isList (x:=u) (by simpa using hu) λ h' st' sb=>?_
  have I1:Inv X pj σ H { s with heap:=h' }:=I.turned (t':=s.toks) (λ b o hb e=>(sb.2 b hb).trans e) f0 f1 f3 f4 f5
  obtain⟨o,e,c,d⟩:=id st'
  exact⟨u,rfl,Jtk (s:={ s with heap:=h' }) e c d (by decide) ⟨x,H,I1,ru,⟨rfl,λ ys hy=>by rw[I.list_inj hy hq];exact hx⟩,st',λ b hb=>(hf b hb).1⟩⟩
 done:=by
  intro X hP hw hK hc i pj s σ H E I hf st hg
  subst hP hw hK
  obtain⟨xs,hq,hx⟩:=hg
  obtain⟨its,rv,p,hz⟩:=I.list hq
  obtain⟨f0,f1,f2,f3,f4,f5⟩:=hf it (by simp)
  have hl:=rv.length
  exact ZeQ (I.ok.hd hc) st p.isList (by simp;omega) λ h' eb=>⟨rfl,I.turned (t':=s.toks) (λ b o hb e=>eb b o hb e) f0 f1 f3 f4 f5⟩
 self:=λ _ _ _ _ _ st h=>wpAny_pyIter_listiter st h
theorem Jpf {P:ZC}{w:ZU}{K:W.Frag}{tg:Expr}(a it:Zq):Turn P w K tg (Itt K a) [it] it (λ i h=>h.IsTupleIter it a i) where
 mem:=by simp
 obj:=λ i h st b hb=>by
  have e:b=it:=by simpa using hb
  subst e
  obtain⟨o,e,c,d⟩:=st
  exact⟨o,e,λ v z=>by rw[d] at z;cases z⟩
 keep:=λ i h h' st k=>st.at λ o e=>k it (by simp) o e
 item:=by
  intro X hP hw hK hc i pj s σ H E I hf st hg
  subst hP hw hK
  obtain⟨xs,x,hq,hx⟩:=hg
  obtain⟨its,rv,p,hz⟩:=I.tuple hq
  obtain⟨u,hu,ru⟩:=rv.get hx
  obtain⟨f0,f1,f2,f3,f4,f5⟩:=hf it (by simp)
  refine wpAny_pyNext_tuple_item st (show s.heap.IsTuple a its.toArray from p) (x:=u) (by simpa using hu) λ h' st' sb=>?_
  have I1:Inv X pj σ H { s with heap:=h' }:=I.turned (t':=s.toks) (λ b o hb e=>(sb.2 b hb).trans e) f0 f1 f3 f4 f5
  obtain⟨o,e,c,d⟩:=id st'
  exact⟨u,rfl,Jtk (s:={ s with heap:=h' }) e c d (by decide) ⟨x,H,I1,ru,⟨rfl,λ ys hy=>by rw[I.tuple_inj hy hq];exact hx⟩,st',λ b hb=>(hf b hb).1⟩⟩
 done:=by
  intro X hP hw hK hc i pj s σ H E I hf st hg
  subst hP hw hK
  obtain⟨xs,hq,hx⟩:=hg
  obtain⟨its,rv,p,hz⟩:=I.tuple hq
  obtain⟨f0,f1,f2,f3,f4,f5⟩:=hf it (by simp)
  have hl:=rv.length
  exact wpAny_pyNext_tuple_end (I.ok.hd hc) st (show s.heap.IsTuple a its.toArray from p) (by simp;omega) λ h' eb=>⟨rfl,I.turned (t':=s.toks) (λ b o hb e=>eb b o hb e) f0 f1 f3 f4 f5⟩
 self:=λ _ _ _ _ _ st h=>wpAny_pyIter_tupleiter st h
theorem Jpe {P:ZC}{w:ZU}{K:W.Frag}{tg:Expr}(it:Zq)(lo:Int)(n:Nat):Turn P w K tg (Itr lo n) [it] it (λ i h=>IsRangeIter h it (lo+(i:Nat)*1) ((n:Int)-(i:Nat)) 1) where
 mem:=by simp
 obj:=λ i h st b hb=>by
  have e:b=it:=by simpa using hb
  subst e
  exact⟨_,st,λ v z=>by
   have z':Data.fields _=Zf9 v:=z
   cases z'⟩
 keep:=λ i h h' st k=>k it (by simp) _ st
 item:=by
  intro X hP hw hK hc i pj s σ H E I hf st hg
  subst hP hw hK
  obtain⟨f0,f1,f2,f3,f4,f5⟩:=hf it (by simp)
  have W:=Walks.range (prog:=X.prog) (w:=X.w) (I.ok.hd hc) it lo 1 n
  refine W.item i s _ _ hg st λ v h' tk hv st' kk=>?_
  obtain⟨t,rfl⟩:=hv
  have I1:Inv X pj σ H { s with heap:=h',toks:=tk }:=I.turned (λ b o hb e=>kk b o (by simpa using hb) e) f0 f1 f3 f4 f5
  refine⟨_,rfl,Jtk (s:={ s with heap:=h',toks:=tk }) (n:="range_iterator") st' rfl rfl (by decide) ⟨.int (lo+i),H,I1,⟨t,?_⟩,⟨rfl,rfl⟩,st',λ b hb=>(hf b hb).1⟩⟩
  rw[Int.mul_one]
 done:=by
  intro X hP hw hK hc i pj s σ H E I hf st hg
  subst hP hw hK
  obtain⟨f0,f1,f2,f3,f4,f5⟩:=hf it (by simp)
  exact wpAny_pyNext_range_end (I.ok.hd hc) st (by have:n<=i:=hg;omega) λ h' eb=>⟨rfl,I.turned (t':=s.toks) (λ b o hb e=>eb b o hb e) f0 f1 f3 f4 f5⟩
 self:=λ _ _ _ _ _ st h=>wpAny_pyIter_rangeiter st h
section
variable {X:Cx}{tg:Expr}
theorem Juh {pj:PnT}{σ:St}{H:Hp}{s:Zl}{R:It->Hp->Prop}{E:QvT}{lo hi:Int}{t u v:Tok}{tk:Nat}(I:Inv X pj σ H s)(h1: -(2^62)<=lo)(h2:lo<2^62)(h3: -(2^62)<=hi)(h4:hi<2^62)
  (q:R (Itr lo (hi-lo).toNat) H):Zu (Z6 X.prog X.w) X.A (Zeg (.ref s.heap.objs.size)) (PIE X pj σ tg R) E { s with heap:=s.heap.push { cls:=.type "range",data:=.fields #[.int lo t,.int hi u,.int 1 v] },toks:=tk }:=by
 refine wpAny_pyIter_range (IsRange.new ..) (small_one h1 h2 h3 h4) ?_
 have I1:Inv X pj σ H { s with heap:=s.heap.push { cls:=.type "range",data:=.fields #[.int lo t,.int hi u,.int 1 v] },toks:=tk }:=I.kept λ b o e=>Ze _ e
 refine⟨(s.heap.push { cls:=.type "range",data:=.fields #[.int lo t,.int hi u,.int 1 v] }).objs.size,[(s.heap.push { cls:=.type "range",data:=.fields #[.int lo t,.int hi u,.int 1 v] }).objs.size],_,_,H,rfl,
  I1.kept (t':=tk) λ b o e=>Ze _ e,Jpe _ lo (hi-lo).toNat,?_,λ b hb=>?_,q⟩
 ·have e1:lo+((0:Nat):Int)*1=lo:=by simp
  have e2:(((hi-lo).toNat:Nat):Int)-((0:Nat):Int)=Zer lo hi 1:=by rw[rangeSize_one];split<;>omega
  show IsRangeIter _ _ (lo+((0:Nat):Int)*1) ((((hi-lo).toNat:Nat):Int)-((0:Nat):Int)) 1
  rw[e1,e2]
  exact Zv _ rfl
 ·have e:b=(s.heap.push { cls:=.type "range",data:=.fields #[.int lo t,.int hi u,.int 1 v] }).objs.size:=by simpa using hb
  subst e
  exact I1.fpOk (Zr _) (I1.hok.fresh (Zr _))
def Q9 (fp:List Zq)(h:Zar):PnT:=fp.filterMap λ b=>(h.get? b).map λ o=>(b,o)
theorem Yi {fp:List Zq}{h:Zar}{b:Zq}{o:Obj}(hb:b∈fp)(e:h.get? b=Za o):(b,o)∈Q9 fp h:=List.mem_filterMap.mpr ⟨b,hb,by rw[e];rfl⟩
theorem Jrn {fp:List Zq}{h:Zar}{p:Zq×Obj}(hp:p∈Q9 fp h):p.1∈fp/\h.get? p.1=Za p.2:=by
 obtain⟨b,hb,e⟩:=List.mem_filterMap.mp hp
 cases q:h.get? b with
 | none=>rw[q] at e;cases e
 | some o =>
  rw[q] at e
  have e':(b,o)=p:=Zao e
  subst e'
  exact⟨hb,q⟩
theorem Inv.pinned {pj:PnT}{σ:St}{H:Hp}{s:Zl}{fp:List Zq}(I:Inv X pj σ H s)(hf:∀b∈fp,FpOk X pj H b)(ho:∀b∈fp,∃o,s.heap.get? b=Za o/\∀v,o.data≠.cell v):Inv X (pj++Q9 fp s.heap) σ H s :=
 I.pins_of λ p hp=>(Zah.mp hp).elim (λ z=>I.pin p (Zo _ z)) λ z=>by
  obtain⟨hb,e⟩:=Jrn z
  obtain⟨f0,f1,f2,_⟩:=hf p.1 hb
  obtain⟨o,e',d⟩:=ho p.1 hb
  rw[e] at e';cases e'
  exact⟨e,f0,f1,f2,d⟩
theorem Inv.unpinned {pj pl:PnT}{σ:St}{H:Hp}{s:Zl}(I:Inv X (pj++pl) σ H s):Inv X pj σ H s:=I.pins_of λ p hp=>I.pin p (Zo _ (ZY _ hp))
end
abbrev R2:=V->V->Hp->VK->Prop
def OpR (X:Cx)(f:Zh->Zh->Sem Zh)(r:R2):Prop :=
 ∀(pj:PnT)(s:Zl)(σ:St)(H:Hp)(x y:V)(v u:Zh)(Q:VK),Inv X pj σ H s->RelV x v->RelV y u->r x y H Q ->
  Zu (Z6 X.prog X.w) X.A (f v u) (EP X pj σ Q) X.xe s
def UnR (X:Cx)(f:Zh->Sem Zh)(r:V->Hp->VK->Prop):Prop :=
 ∀(pj:PnT)(s:Zl)(σ:St)(H:Hp)(x:V)(v:Zh)(Q:VK),Inv X pj σ H s->RelV x v->r x H Q ->
  Zu (Z6 X.prog X.w) X.A (f v) (EP X pj σ Q) X.xe s
def Xh (X:Cx)(f:Zh)(r:List V->Hp->VK->Prop):Prop :=
 ∀(pj:PnT)(s:Zl)(σ:St)(H:Hp)(xs:List V)(us:List Zh)(Q:VK),Inv X pj σ H s->Vals xs us->r xs H Q ->
  Zu (Z6 X.prog X.w) X.A (call f us) (EP X pj σ Q) X.xe s
def TruR (X:Cx)(r:V->Hp->(Bool->Hp->Prop)->Prop):Prop :=
 ∀(pj:PnT)(s:Zl)(σ:St)(H:Hp)(x:V)(v:Zh)(Q:Bool->Hp->Prop),Inv X pj σ H s->RelV x v->r x H Q ->
  Zu (Z6 X.prog X.w) X.A (truthy v) (TP X pj σ Q) X.xe s
def rI (C:Int->Int->Prop)(g:Int->Int->V):R2:=λ x y H Q=>∃i j,x=.int i/\y=.int j/\C i j/\Q (g i j) H
def rI0 (g:Int->Int->V):R2:=λ x y H Q=>∃i j,x=.int i/\y=.int j/\Q (g i j) H
def rU (g:Int->V):V->Hp->VK->Prop:=λ x H Q=>∃i,x=.int i/\Q (g i) H
section
variable {X:Cx}{a b c:Expr}{ta tb tc:TE}{pos:Pos}
theorem opI {f:Zh->Zh->Sem Zh}{C:Int->Int->Prop}{g:Int->Int->Int}
  (rule:∀(i j:Int)(t u:Tok)(s:Zl)(Q:QvT)(E:QvT),C i j->Q (.int (g i j) s.toks) { s with toks:=s.toks+1 }->Zu (Z6 X.prog X.w) X.A (f (.int i t) (.int j u)) Q E s) :
  OpR X f (rI C λ i j=>.int (g i j)):=by
 intro pj s σ H x y v u Q I rx ry h
 obtain⟨i,j,rfl,rfl,hc,q⟩:=h
 obtain⟨t,rfl⟩:=rx
 obtain⟨t',rfl⟩:=ry
 exact rule i j t t' s _ _ hc ⟨.int (g i j),H,I.tok _,⟨_,rfl⟩,q⟩
theorem opI0 {f:Zh->Zh->Sem Zh}{g:Int->Int->Int}
  (rule:∀(i j:Int)(t u:Tok)(s:Zl)(Q:QvT)(E:QvT),Q (.int (g i j) s.toks) { s with toks:=s.toks+1 }->Zu (Z6 X.prog X.w) X.A (f (.int i t) (.int j u)) Q E s) :
  OpR X f (rI0 λ i j=>.int (g i j)):=by
 intro pj s σ H x y v u Q I rx ry h
 obtain⟨i,j,rfl,rfl,q⟩:=h
 obtain⟨t,rfl⟩:=rx
 obtain⟨t',rfl⟩:=ry
 exact rule i j t t' s _ _ ⟨.int (g i j),H,I.tok _,⟨_,rfl⟩,q⟩
theorem opB0 {f:Zh->Zh->Sem Zh}{g:Int->Int->Bool}
  (rule:∀(i j:Int)(t u:Tok)(s:Zl)(Q:QvT)(E:QvT),Q (.bool (g i j)) s->Zu (Z6 X.prog X.w) X.A (f (.int i t) (.int j u)) Q E s) :
  OpR X f (rI0 λ i j=>.bl (g i j)):=by
 intro pj s σ H x y v u Q I rx ry h
 obtain⟨i,j,rfl,rfl,q⟩:=h
 obtain⟨t,rfl⟩:=rx
 obtain⟨t',rfl⟩:=ry
 exact rule i j t t' s _ _ ⟨.bl (g i j),H,I,rfl,q⟩
def CPow (i j:Int):Prop:=0<=j/\j<=1000000/\i.natAbs<2^64
theorem J0t:OpR X (Zbc .Add) (rI0 λ i j=>.int (i+j)):=opI0 λ _ _ _ _ _ _ _ q=>add_int q
theorem J0y:OpR X (Zbc .Sub) (rI0 λ i j=>.int (i-j)):=opI0 λ _ _ _ _ _ _ _ q=>sub_int q
theorem J0v:OpR X (Zbc .Mod) (rI (λ _ j=>0<j) λ i j=>.int (i%j)):=opI λ i j _ _ _ _ _ hc q=>by
 have h1:(0:Int)<j:=hc
 exact mod_int' (by omega) (by rw[Int.fmod_eq_emod_of_nonneg i (by omega)];exact q)
theorem J0w:OpR X (Zbc .Pow) (rI CPow λ i j=>.int (i^j.toNat)):=opI λ _ _ _ _ _ _ _ hc q=>pow_int_small hc.1 hc.2.1 hc.2.2 q
theorem unI {f:Zh->Sem Zh}{g:Int->Int}
  (rule:∀(i:Int)(t:Tok)(s:Zl)(Q:QvT)(E:QvT),Q (.int (g i) s.toks) { s with toks:=s.toks+1 }->Zu (Z6 X.prog X.w) X.A (f (.int i t)) Q E s) :
  UnR X f (rU λ i=>.int (g i)):=by
 intro pj s σ H x v Q I rx h
 obtain⟨i,rfl,q⟩:=h
 obtain⟨t,rfl⟩:=rx
 exact rule i t s _ _ ⟨.int (g i),H,I.tok _,⟨_,rfl⟩,q⟩
theorem J1z:UnR X (unaryOp .USub) (rU λ i=>.int (-i)):=unI λ _ _ _ _ _ q=>neg_int q
end
def scal:V->V->Bool
 | .non,.non=>Zj|.non,.int _=>Zj|.int _,.non=>Zj|.non,.bl _=>Zj|.bl _,.non=>Zj|.non,.str _=>Zj|.str _,.non=>Zj
 | .int _,.int _=>Zj|.bl _,.bl _=>Zj|.str _,.str _=>Zj|.byt _,.byt _=>Zj
 | .int _,.str _=>Zj|.str _,.int _=>Zj|.bl _,.str _=>Zj|.str _,.bl _=>Zj
 | _,_=>Zm
def rEq:R2:=λ x y H Q=>scal x y=Zj/\Q (.bl (decide (x=y))) H
def rNe:R2:=λ x y H Q=>scal x y=Zj/\Q (.bl (!decide (x=y))) H
theorem Jp8 {i j:Int}:decide (V.int i=V.int j)=(i==j):=by
 rw[ZcL]
 simp
theorem Jvu {i j:Bool}:decide (V.bl i=V.bl j)=(i==j):=by
 rw[ZcL]
 simp
theorem Jp9 {i j:Str}:decide (V.str i=V.str j)=(i==j):=by
 rw[ZcL]
 simp
theorem Jp7 {i j:Array UInt8}:decide (V.byt i=V.byt j)=(i.toList==j.toList):=by
 rw[ZcL]
 cases i
 cases j
 simp
section
variable {X:Cx}{a b c:Expr}{ta tb tc:TE}{pos:Pos}
theorem J4 {pj:PnT}{σ:St}{H:Hp}{s:Zl}{Q:VK}{k k':Bool}(I:Inv X pj σ H s)(q:Q (.bl k) H)(e:k=k'):EP X pj σ Q (.bool k') s:=by
 subst e
 exact⟨.bl k,H,I,rfl,q⟩
theorem J3d:OpR X (Za5 .Eq) rEq:=by
 intro pj s σ H x y v u Q I rx ry h
 obtain⟨hs,q⟩:=h
 cases x with
 | non =>
  cases rx
  cases y with
  | non=>cases ry;exact PySem.EqNone.eq_none_none (J4 I q (by simp))
  | bl j=>cases ry;exact PySem.EqNone.eq_none_bool (J4 I q (by simp))
  | int j=>obtain⟨t',rfl⟩:=ry;exact PySem.EqNone.eq_none_int (J4 I q (by simp))
  | str j=>obtain⟨t',rfl⟩:=ry;exact PySem.EqNone.eq_none_str (J4 I q (by simp))
  | _=>exact absurd (show Zm=Zj from hs) Zs
 | bl i =>
  cases rx
  cases y with
  | non=>cases ry;exact PySem.EqNone.eq_bool_none (J4 I q (by simp))
  | bl j=>cases ry;exact eq_bool (J4 I q Jvu)
  | str j=>obtain⟨t',rfl⟩:=ry;exact PySem.EqMixed.eq_bool_str (J4 I q (by simp))
  | _=>exact absurd (show Zm=Zj from hs) Zs
 | int i =>
  obtain⟨t,rfl⟩:=rx
  cases y with
  | non=>cases ry;exact PySem.EqNone.eq_int_none (J4 I q (by simp))
  | int j=>obtain⟨t',rfl⟩:=ry;exact eq_int (J4 I q Jp8)
  | str j=>obtain⟨t',rfl⟩:=ry;exact PySem.EqMixed.eq_int_str (J4 I q (by simp))
  | _=>exact absurd (show Zm=Zj from hs) Zs
 | str i =>
  obtain⟨t,rfl⟩:=rx
  cases y with
  | non=>cases ry;exact PySem.EqNone.eq_str_none (J4 I q (by simp))
  | bl j=>cases ry;exact PySem.EqMixed.eq_str_bool (J4 I q (by simp))
  | int j=>obtain⟨t',rfl⟩:=ry;exact PySem.EqMixed.eq_str_int (J4 I q (by simp))
  | str j=>obtain⟨t',rfl⟩:=ry;exact eq_str (J4 I q Jp9)
  | _=>exact absurd (show Zm=Zj from hs) Zs
 | byt i =>
  obtain⟨t,rfl⟩:=rx
  cases y with
  | byt j=>obtain⟨t',rfl⟩:=ry;exact W.eq_bytes (J4 I q Jp7)
  | _=>exact absurd (show Zm=Zj from hs) Zs
 | _=>cases y<;>exact absurd (show Zm=Zj from hs) Zs
theorem J3i:OpR X (Za5 .NotEq) rNe:=by
 intro pj s σ H x y v u Q I rx ry h
 obtain⟨hs,q⟩:=h
 cases x with
 | non =>
  cases rx
  cases y with
  | non=>cases ry;exact PySem.EqNone.ne_none_none (J4 I q (by simp))
  | bl j=>cases ry;exact PySem.EqNone.ne_none_bool (J4 I q (by simp))
  | int j=>obtain⟨t',rfl⟩:=ry;exact PySem.EqNone.ne_none_int (J4 I q (by simp))
  | str j=>obtain⟨t',rfl⟩:=ry;exact PySem.EqNone.ne_none_str (J4 I q (by simp))
  | _=>exact absurd (show Zm=Zj from hs) Zs
 | bl i =>
  cases rx
  cases y with
  | non=>cases ry;exact PySem.EqNone.ne_bool_none (J4 I q (by simp))
  | bl j=>cases ry;exact ne_bool (J4 I q (congrArg not Jvu))
  | str j=>obtain⟨t',rfl⟩:=ry;exact PySem.EqMixed.ne_bool_str (J4 I q (by simp))
  | _=>exact absurd (show Zm=Zj from hs) Zs
 | int i =>
  obtain⟨t,rfl⟩:=rx
  cases y with
  | non=>cases ry;exact PySem.EqNone.ne_int_none (J4 I q (by simp))
  | int j=>obtain⟨t',rfl⟩:=ry;exact ne_int (J4 I q (congrArg not Jp8))
  | str j=>obtain⟨t',rfl⟩:=ry;exact PySem.EqMixed.ne_int_str (J4 I q (by simp))
  | _=>exact absurd (show Zm=Zj from hs) Zs
 | str i =>
  obtain⟨t,rfl⟩:=rx
  cases y with
  | non=>cases ry;exact PySem.EqNone.ne_str_none (J4 I q (by simp))
  | bl j=>cases ry;exact PySem.EqMixed.ne_str_bool (J4 I q (by simp))
  | int j=>obtain⟨t',rfl⟩:=ry;exact PySem.EqMixed.ne_str_int (J4 I q (by simp))
  | str j=>obtain⟨t',rfl⟩:=ry;exact ne_str (J4 I q (congrArg not Jp9))
  | _=>exact absurd (show Zm=Zj from hs) Zs
 | byt i =>
  obtain⟨t,rfl⟩:=rx
  cases y with
  | byt j=>obtain⟨t',rfl⟩:=ry;exact W.ne_bytes (J4 I q (congrArg not Jp7))
  | _=>exact absurd (show Zm=Zj from hs) Zs
 | _=>cases y<;>exact absurd (show Zm=Zj from hs) Zs
theorem J3h:OpR X (Za5 .Lt) (rI0 λ i j=>.bl (decide (i<j))):=opB0 λ _ _ _ _ _ _ _ q=>lt_int q
theorem J3g:OpR X (Za5 .LtE) (rI0 λ i j=>.bl (decide (i<=j))):=opB0 λ _ _ _ _ _ _ _ q=>le_int q
theorem J3f:OpR X (Za5 .Gt) (rI0 λ i j=>.bl (decide (j<i))):=opB0 λ _ _ _ _ _ _ _ q=>gt_int q
theorem J3e:OpR X (Za5 .GtE) (rI0 λ i j=>.bl (decide (j<=i))):=opB0 λ _ _ _ _ _ _ _ q=>ge_int q
theorem Jro:OpR X (Za5 .Lt) (λ x y H Q=>∃i j,x=.str i/\y=.str j/\Q (.bl (decide (i.cps.toList<j.cps.toList))) H):=by
 intro pj s σ H x y v u Q I rx ry h
 obtain⟨i,j,rfl,rfl,q⟩:=h
 obtain⟨t,rfl⟩:=rx
 obtain⟨t',rfl⟩:=ry
 exact lt_str (J4 I q rfl)
def TruV (K:W.Frag)(x:V)(H:Hp)(k:Bool):Prop :=
 match x with
 | .non=>k=Zm
 | .bl b=>k=b
 | .int i=>k=(i != 0)
 | .str y=>y.length<=sizeLine/\k=((y.length:Int) != 0)
 | .byt y=>y.size<=sizeLine/\k=((y.size:Int) != 0)
 | .ref p=>(∃xs,SqL K H p xs/\k=!xs.isEmpty)∨(∃xs,SqT K H p xs/\k=!xs.isEmpty)∨∃kvs,H p=Za (.dK kvs)/\k=!kvs.isEmpty
 | _=>False
theorem Jor {κ:Type}{kvs:List (κ×V)}{vs:List (κ×Zh)}(r:KV kvs vs):(!vs.isEmpty)=!kvs.isEmpty:=by
 cases r<;>rfl
theorem Jhu {xs:List V}{its:List Zh}(r:Vals xs its):(!its.toArray.isEmpty)=!xs.isEmpty:=by
 cases r<;>simp
theorem VU:(sizeLine:Nat)<2^63:=by rw[ZaL];decide
theorem VA:TruR X (λ x H Q=>∃k,TruV X.K x H k/\Q k H):=by
 intro pj s σ H x v Q I rx h
 obtain⟨k,e,q⟩:=h
 have hl:=VU
 have hs:sizeLine=16777216:=ZaL
 cases x with
 | non =>
  cases rx
  have e':k=Zm:=e
  subst e'
  exact truthy_none ⟨H,I,q⟩
 | bl b =>
  cases rx
  have e':k=b:=e
  subst e'
  exact Zbg ⟨H,I,q⟩
 | int i =>
  obtain⟨t,rfl⟩:=rx
  have e':k=(i != 0):=e
  subst e'
  exact PySem.P.truthy_int ⟨H,I,q⟩
 | str y =>
  obtain⟨t,rfl⟩:=rx
  obtain⟨hy,e'⟩:y.length<=sizeLine/\k=((y.length:Int) != 0):=e
  subst e'
  exact PySem.P.truthy_str (by omega) ⟨H,I.tok _,q⟩
 | byt y =>
  obtain⟨t,rfl⟩:=rx
  obtain⟨hy,e'⟩:y.size<=sizeLine/\k=((y.size:Int) != 0):=e
  subst e'
  exact W.truthy_bytes (by omega) ⟨H,I.tok _,q⟩
 | ref p =>
  cases rx
  have e':(∃xs,SqL X.K H p xs/\k=!xs.isEmpty)∨(∃xs,SqT X.K H p xs/\k=!xs.isEmpty)∨∃kvs,H p=Za (.dK kvs)/\k=!kvs.isEmpty:=e
  rcases e' with⟨xs,hx,e'⟩|⟨xs,hx,e'⟩|⟨kvs,hx,e'⟩
  ·subst e'
   obtain⟨its,r,pl,hz⟩:=I.list hx
   have hlen:=r.length
   exact wpAny_truthy_list pl.isList (by simp only[Zx];omega) ⟨H,I.tok _,by rw[Jhu r];exact q⟩
  ·subst e'
   obtain⟨its,r,pl,hz⟩:=I.tuple hx
   have hlen:=r.length
   exact truthy_tuple pl (by simp only[Zx];omega) ⟨H,I.tok _,by rw[Jhu r];exact q⟩
  ·subst e'
   obtain⟨hz,hS,vs,r,m⟩:kvs.length<=sizeLine/\(p==ZcP)=Zm/\∃vs,KV kvs vs/\s.heap.DictOf (QZ X.prog X.w) p vs:=I.hok p _ hx
   have hlen:kvs.length=vs.length:=Zfp r
   exact wpAny_truthy_dict hS m (by omega) ⟨H,I.tok _,by rw[Jor r];exact q⟩
 | _=>exact Zf e
theorem Jo1:OpR X (Zbc .Add) (λ x y H Q=>∃i j,x=.str i/\y=.str j/\i.length+j.length<=sizeLine/\Q (.str (i++j)) H):=by
 intro pj s σ H x y v u Q I rx ry h
 obtain⟨i,j,rfl,rfl,hz,q⟩:=h
 obtain⟨t,rfl⟩:=rx
 obtain⟨t',rfl⟩:=ry
 exact add_str (λ t' tk=>⟨.str (i++j),H,I.tok _,⟨_,rfl⟩,q⟩) hz
theorem QE {x:V}{us:List Zh}(r:Vals [x] us):∃u,us=[u]/\RelV x u:=by
 cases r with
 | cons r1 r2=>cases r2;exact⟨_,rfl,r1⟩
theorem J11 {x y:V}{us:List Zh}(r:Vals [x,y] us):∃u w',us=[u,w']/\RelV x u/\RelV y w':=by
 cases r with
 | cons r1 r2 =>
  cases r2 with
  | cons r3 r4=>cases r4;exact⟨_,_,rfl,r1,r3⟩
theorem Jpz (hc:X.calm=Zj):Xh X (.builtin "max") (λ xs H Q=>∃i j,xs=[.int i,.int j]/\Q (.int (if j>i then j else i)) H):=by
 intro pj s σ H xs us Q I r h
 obtain⟨i,j,rfl,q⟩:=h
 obtain⟨u,w',rfl,⟨t,rfl⟩,⟨t',rfl⟩⟩:=J11 r
 refine max_two_ints (I.ok.hd hc) λ h' tk k=>⟨_,H,I.kept k,?_,q⟩
 by_cases hj:j>i
 ·rw[if_pos hj,if_pos hj];exact⟨_,rfl⟩
 ·rw[if_neg hj,if_neg hj];exact⟨_,rfl⟩
theorem Jp0 (hc:X.calm=Zj):Xh X (.builtin "min") (λ xs H Q=>∃i j,xs=[.int i,.int j]/\Q (.int (if j<i then j else i)) H):=by
 intro pj s σ H xs us Q I r h
 obtain⟨i,j,rfl,q⟩:=h
 obtain⟨u,w',rfl,⟨t,rfl⟩,⟨t',rfl⟩⟩:=J11 r
 refine min_two_ints (I.ok.hd hc) λ h' tk k=>⟨_,H,I.kept k,?_,q⟩
 by_cases hj:j<i
 ·rw[if_pos hj,if_pos hj];exact⟨_,rfl⟩
 ·rw[if_neg hj,if_neg hj];exact⟨_,rfl⟩
def LenV (K:W.Frag)(x:V)(H:Hp)(n:Nat):Prop :=
 match x with
 | .str y=>y.length<=sizeLine/\n=y.length
 | .byt y=>y.size<=sizeLine/\n=y.size
 | .ref p=>(∃xs,SqL K H p xs/\n=xs.length)∨∃xs,SqT K H p xs/\n=xs.length
 | _=>False
theorem Jfr:Xh X (.builtin "len") (λ xs H Q=>∃x n,xs=[x]/\LenV X.K x H n/\Q (.int n) H):=by
 intro pj s σ H xs us Q I r h
 obtain⟨x,n,rfl,e,q⟩:=h
 obtain⟨u,rfl,rx⟩:=QE r
 have hl:=VU
 have hs:sizeLine=16777216:=ZaL
 cases x with
 | str y =>
  obtain⟨t,rfl⟩:=rx
  obtain⟨hy,e'⟩:y.length<=sizeLine/\n=y.length:=e
  subst e'
  exact len_str (by omega) ⟨.int _,H,I.tok _,⟨_,rfl⟩,q⟩
 | byt y =>
  obtain⟨t,rfl⟩:=rx
  obtain⟨hy,e'⟩:y.size<=sizeLine/\n=y.size:=e
  subst e'
  exact W.len_bytes (by omega) ⟨.int _,H,I.tok _,⟨_,rfl⟩,q⟩
 | ref p =>
  cases rx
  have e':(∃xs,SqL X.K H p xs/\n=xs.length)∨∃xs,SqT X.K H p xs/\n=xs.length:=e
  rcases e' with⟨xs,hx,e'⟩|⟨xs,hx,e'⟩
  ·subst e'
   obtain⟨its,r',pl,hz⟩:=I.list hx
   have hlen:=r'.length
   exact Calls.call_len_list pl.isList (by simp only[Zx];omega) ⟨.int xs.length,H,I.tok _,⟨_,by simp only[Zx];rw[hlen]⟩,q⟩
  ·subst e'
   obtain⟨its,r',pl,hz⟩:=I.tuple hx
   have hlen:=r'.length
   exact len_tuple pl (by simp only[Zx];omega) ⟨.int xs.length,H,I.tok _,⟨_,by simp only[Zx];rw[hlen]⟩,q⟩
 | _=>exact Zf e
end
structure ObjM (h:Zar)(x dx C:Zq)(mA:Str->Option Zh):Prop where
 obj:h.get? x=Za (W.instObj C dx)
 ns:h.Ns1 dx mA
 ne:dx≠x
theorem Jrf {h:Zar}{dx:Zq}{mA:Str->Option Zh}(n:h.Ns1 dx mA):∃od,h.get? dx=Za od/\∀name,W.lookIn name od=Za (mA name):=by
 obtain⟨o,es,ep,ho,hd,hk,_,hm⟩:=n
 refine⟨o,ho,λ name=>?_⟩
 have e:=hm name
 unfold nsFind findBy at e
 rw[<- Array.find?_toList] at e
 unfold W.lookIn
 rw[hd]
 dsimp only
 split
 ·rename_i y q
  rw[q] at e
  exact congrArg Za e
 ·rename_i q
  rw[q] at e
  have a:es.toList.any (·.refKey)=Zm:=by
   rw[List.any_eq_false]
   intro y hy
   obtain⟨z,t,hkey⟩:=hk y (Array.mem_toList_iff.mp hy)
   simp[DictEntry.refKey,hkey]
  have a':¬es.toList.any (·.refKey)=Zj:=by rw[a];exact Zs
  rw[if_neg a']
  exact congrArg Za e
theorem ObjM.look {h:Zar}{x dx C:Zq}{mA:Str->Option Zh}(I:ObjM h x dx C mA):∃od,W.InstAt h x (W.instObj C dx) C (Za od)/\∀name,W.lookIn name od=Za (mA name) :=
 let ⟨od,ho,hl⟩:=Jrf I.ns
 ⟨od,⟨I.obj,rfl,rfl,ho⟩,hl⟩
section
variable {prog:ZC}{w:ZU}{A:ZJ}{E:QvT}{s:Zl}{K:W.Frag}{x dx C f:Zq}{mA:Str->Option Zh}{name:Str}{v:Zh}
theorem Jxi {expr:Bool}{Q:QvT}(X:K.In s.heap)(I:ObjM s.heap x dx C mA)(hg:W.plainGet K C name=Zj)(hh:W.hasDictIn K C=Zj)
  (ha:W.findIn K (.ref C) name=Za Zd)(hv:mA name=Za v)(hv':W.handedIn v=Zj)(h:Q v { s with toks:=s.toks+1 }) :
  Zu (Z6 prog w) A (getAttr (.ref x) name expr) Q E s:=by
 obtain⟨od,J,hl⟩:=I.look
 exact W.get_value X J (W.plainGet_of hg).1 (W.findObj_own hh ha rfl (by rw[hl,hv])) hv' h
theorem Jtj {pl:Sem Bool}{Q:Zh×List Zh->Zl->Prop}(X:K.In s.heap)(I:ObjM s.heap x dx C mA)(hg:W.plainGet K C name=Zj)
  (hf:W.findIn K (.ref C) name=Za (Za (.ref f)))(ht:W.isFn K (.ref f)=Zj)(hv:mA name=Zd)(h:Q (.ref f,[.ref x]) s) :
  Zu (Z6 prog w) A (Zes (.ref x) name pl) Q E s:=by
 obtain⟨od,J,hl⟩:=I.look
 exact W.method_fn X J (W.plainGet_of hg).1 (W.plainGet_of hg).2 hf (beq_iff_eq.mp ht) (by show(W.lookIn name od).map (·.isSome)=Za Zm;rw[hl,hv];rfl) h
theorem Jyo {ns:List Str}{Q:Unit->Zl->Prop}(X:K.In s.heap)(I:ObjM s.heap x dx C mA)
  (hs:W.findIn K (.ref C) "__setattr__"=Za (Za (.builtin "object.__setattr__")))(hp:W.plainOver K C=Zj)(ht:W.takerIn K C name=Za Zd)(hh:W.hasDictIn K C=Zj)
  (hw:Zfw mA ns)(hsz:ns.length<=sizeLine)
  (h:∀h',ObjM h' x dx C (λ y=>if y=name then Za v else mA y)->Zb3 dx s.heap h'->Q () { s with heap:=h',toks:=s.toks+2 }) :
  Zu (Z6 prog w) A (setAttr (.ref x) name v) Q E s:=by
 obtain⟨od,J,hl⟩:=I.look
 refine W.set_plain X J hs (W.osa_open (s:={ s with toks:=s.toks+1 }) (r:=Zd) X J hp ht λ b=>?_)
 obtain⟨cd,hc,hd'⟩:=W.any_some hh
 have hx:s.heap.get? x=Za ⟨.ref C,Za dx,.plain,#[]⟩:=I.obj
 refine Zc (Zk (Zc (Zc (wpAny_loadPart hx (Zc (W.Looks.here (s:={ s with toks:=s.toks+1 }) (W.looks_clsIn X hc) ?_))))))
 rw[hd']
 refine Zk (a:=Za dx) (Zc (Zk (Zc ?_)))
 refine wpAny_nsSet1 (s:={ s with toks:=s.toks+1 }) I.ns λ h' hn2 hs2=>?_
 obtain⟨oD,esD,epD,hoD,hdD,hcD⟩:=hn2.count (PySem.Within.cons name v hw)
 refine Zc (wpAny_lookBehind hoD (by rw[hdD];exact pastItsLine_dict (Zaf hcD (by rw[ZN];omega))) ?_)
 exact Zk (h _ ⟨(hs2.2 _ (ZO I.ne)).trans I.obj,hn2,I.ne⟩ hs2)
theorem Jt9 {R:Zeh->Zl->Prop}{vs:List Zh}{kw:List (Str×Zh)}(X:K.In s.heap)(hm:W.makesIn K C=Zj)
  (hi:W.findIn K (.ref C) "__init__"=Za (Za (.ref f)))(hf:W.typeIn K (.ref f)=Za (.type "function"))
  (h:Zc2 (Z6 prog w) (A.under (.builtin "type.__call__" ⟨.ref C::vs,kw⟩)) (.call (.ref f) ⟨.ref (s.heap.objs.size+1)::vs,kw⟩) (W.InitBack (s.heap.objs.size+1) R)
   { s with heap:=(s.heap.push W.emptyDict).push (W.instObj C s.heap.objs.size) }) :
  Zc2 (Z6 prog w) A (.call (.ref C) ⟨vs,kw⟩) R s:=by
 obtain⟨hh,g,d,t,os⟩:=s
 exact W.make_core (W.makes_of X hm) (W.looks_findIn X hi) (λ self=>W.bind_fn X self hf) (.inl rfl) h
end
def putF (f:Str)(v:V):List (Str×V)->List (Str×V)
 | []=>[(f,v)]
 | (g,x)::r=>if g=f then(g,v)::r else(g,x)::putF f v r
theorem Jgu (f g:Str)(v:V):∀fs:List (Str×V),(putF f v fs).lookup g=if g=f then Za v else fs.lookup g
 | []=>by
  show ZbJ g [(f,v)]=_
  by_cases h:g=f
  ·have hb:(g==f)=Zj:=beq_iff_eq.mpr h
   simp only[ZbJ,hb,if_pos h]
  ·have hb:(g==f)=Zm:=beq_eq_false_iff_ne.mpr h
   simp only[ZbJ,hb,if_neg h]
 | (k,x)::r=>by
  have ih:=Jgu f g v r
  rw[show putF f v ((k,x)::r)=(if k=f then(k,v)::r else(k,x)::putF f v r) from rfl]
  by_cases hk:k=f
  ·rw[if_pos hk]
   by_cases h:g=k
   ·have hb:(g==k)=Zj:=beq_iff_eq.mpr h
    simp only[ZbJ,hb,if_pos (h.trans hk)]
   ·have hb:(g==k)=Zm:=beq_eq_false_iff_ne.mpr h
    simp only[ZbJ,hb,if_neg (λ e:g=f=>h (e.trans hk.symm))]
  ·rw[if_neg hk]
   by_cases h:g=k
   ·have hb:(g==k)=Zj:=beq_iff_eq.mpr h
    simp only[ZbJ,hb,if_neg (λ e:g=f=>hk (h.symm.trans e))]
   ·have hb:(g==k)=Zm:=beq_eq_false_iff_ne.mpr h
    simp only[ZbJ,hb]
    exact ih
theorem Jgs (f:Str)(v:V):∀fs:List (Str×V),f∈(putF f v fs).map (·.1)/\∀g,g∈fs.map (·.1)->g∈(putF f v fs).map (·.1)
 | []=>⟨by simp[putF],λ g h=>by simp at h⟩
 | (k,x)::r=>by
  obtain⟨i1,i2⟩:=Jgs f v r
  rw[show putF f v ((k,x)::r)=(if k=f then(k,v)::r else(k,x)::putF f v r) from rfl]
  by_cases hk:k=f
  ·rw[if_pos hk]
   subst hk
   exact⟨by simp,λ g h=>by simpa using h⟩
  ·rw[if_neg hk]
   refine⟨?_,λ g h=>?_⟩
   ·rw[Z7]
    exact Zi _ i1
   ·rw[Z7] at h ⊢
    rcases Z2.mp h with e|e
    ·exact Z2.mpr (.inl e)
    ·exact Zi _ (i2 g e)
theorem Jgt (f:Str)(v:V):∀fs:List (Str×V),(putF f v fs).length<=fs.length+1
 | []=>by simp[putF]
 | (k,x)::r=>by
  have ih:=Jgt f v r
  rw[show putF f v ((k,x)::r)=(if k=f then(k,v)::r else(k,x)::putF f v r) from rfl]
  by_cases hk:k=f
  ·rw[if_pos hk,ZN,ZN];omega
  ·rw[if_neg hk,ZN,ZN];omega
theorem RelO.some_of {v:V}{o:Option Zh}(r:RelO (Za v) o):∃u,o=Za u/\RelV v u:=by
 cases o with
 | none=>exact Zf r
 | some u=>exact⟨u,rfl,r⟩
theorem RelO.none_of {o:Option Zh}(r:RelO Zd o):o=Zd:=by
 cases o with
 | none=>rfl
 | some u=>exact Zf r
theorem Jqr {v:V}{u:Zh}(r:RelV v u):W.handedIn u=Zj:=by
 cases v with
 | non=>cases (show u=ZV from r);rfl
 | bl b=>cases (show u=Zdv b from r);rfl
 | int i=>obtain⟨t,e⟩:=(show ∃t,u=ZbI i t from r);cases e;rfl
 | str x=>obtain⟨t,e⟩:=(show ∃t,u=Zfk x t from r);cases e;rfl
 | byt b=>obtain⟨t,e⟩:=(show ∃t,u=Value.bytes b t from r);cases e;rfl
 | flt b=>obtain⟨t,e⟩:=(show ∃t,u=Value.float b t from r);cases e;rfl
 | ref a=>cases (show u=ZdL a from r);rfl
 | ty n=>cases (show u=ZdO n from r);rfl
section
variable {P:ZC}{w:ZU}{H H':Hp}{h h':Zar}{a C dx:Zq}{fs fs':List (Str×V)}
theorem Jiq (hok:HOk P w H h)(e:H a=Za (.ins C dx fs)):∃mA,ObjM h a dx C mA/\(∀f,RelO (fs.lookup f) (mA f))/\Zfw mA (fs.map (·.1))/\fs.length<=1000/\H dx=Za (.own a):=by
 obtain⟨d,z,ne,ob,mA,n,r,q⟩:=(show JC P w H h a (.ins C dx fs) from hok a _ e)
 exact⟨mA,⟨ob,n,ne⟩,r,q,z,d⟩
end
structure Cls (K:W.Frag)(C:Zq):Prop where
 pg:W.plainGet K C Str.empty=Zj
 hd:W.hasDictIn K C=Zj
 po:W.plainOver K C=Zj
 sa:W.findIn K (.ref C) "__setattr__"=Za (Za (.builtin "object.__setattr__"))
theorem Cls.get {K:W.Frag}{C:Zq}(c:Cls K C)(f:Str):W.plainGet K C f=Zj:=c.pg
def Q0 (K:W.Frag)(C:Zq)(f:Str):Prop:=W.findIn K (.ref C) f=Za Zd
theorem Q0.taker {K:W.Frag}{C:Zq}{f:Str}(n:Q0 K C f):W.takerIn K C f=Za Zd:=by
 unfold W.takerIn
 rw[show W.findIn K (.ref C) f=Za Zd from n]
 rfl
structure Meth (K:W.Frag)(C:Zq)(m:Str)(f:Zq):Prop where
 at_:W.findIn K (.ref C) m=Za (Za (.ref f))
 fn:W.isFn K (.ref f)=Zj
 kp:W.keepIn K (.ref f)=Zj
section
variable {X:Cx}{pj:PnT}{σ:St}{H:Hp}{s:Zl}{a C dx:Zq}{fs:List (Str×V)}{f:Str}{v:V}{A:ZJ}{E:QvT}
theorem Jhs {b:Bool}{Q:QvT}(I:Inv X pj σ H s)(e:H a=Za (.ins C dx fs))(c:Cls X.K C)(n:Q0 X.K C f)(l:fs.lookup f=Za v)
  (h:∀u s',Inv X pj σ H s'->RelV v u->Q u s'):Zu (Z6 X.prog X.w) A (getAttr (.ref a) f b) Q E s:=by
 obtain⟨mA,O,r,_,_,_⟩:=Jiq I.hok e
 obtain⟨u,hu,ru⟩:=RelO.some_of (v:=v) (o:=mA f) (by rw[<- l];exact r f)
 exact Jxi I.kIn O (c.get f) c.hd n hu (Jqr ru) (h u _ (I.tok _) ru)
theorem Jht {m:Str}{g:Zq}{pl:Sem Bool}{Q:Zh×List Zh->Zl->Prop}(I:Inv X pj σ H s)(e:H a=Za (.ins C dx fs))(c:Cls X.K C)(k:Meth X.K C m g)(l:fs.lookup m=Zd)
  (h:Q (.ref g,[.ref a]) s):Zu (Z6 X.prog X.w) A (Zes (.ref a) m pl) Q E s:=by
 obtain⟨mA,O,r,_,_,_⟩:=Jiq I.hok e
 have hn:mA m=Zd:=RelO.none_of (by rw[<- l];exact r m)
 exact Jtj I.kIn O (c.get m) k.at_ k.fn hn h
theorem Jhx {y:V}{u:Zh}{Q:Unit->Zl->Prop}(I:Inv X pj σ H s)(e:H a=Za (.ins C dx fs))(c:Cls X.K C)(n:Q0 X.K C f)(hl:fs.length<1000)(ry:RelV y u)
  (h:∀s',Inv X pj σ (upd H a (.ins C dx (putF f y fs))) s'->Q () s'):Zu (Z6 X.prog X.w) A (setAttr (.ref a) f u) Q E s:=by
 obtain⟨mA,O,r,wi,_,ho⟩:=Jiq I.hok e
 have hz:(fs.map (·.1)).length<=sizeLine:=by rw[Zn,ZaL];omega
 refine Jyo I.kIn O c.sa c.po n.taker c.hd wi hz λ h' O' sb=>h _ ?_
 have hd:∃o,h'.get? dx=Za o:=let ⟨o,_,_,e',_⟩:=O'.ns;⟨o,e'⟩
 refine I.write (x:=a) (e:=dx) (by rw[e];exact Zaz) (.inr ho) (λ b q hb z=>(sb.2 b hb).trans z) hd ?_
 refine⟨by rw[Jo O.ne];exact ho,?_,O.ne,O'.obj,_,O'.ns,λ g=>?_,λ g hg=>?_⟩
 ·have:=Jgt f y fs;omega
 ·show RelO ((putF f y fs).lookup g) (if g=f then Za u else mA g)
  rw[Jgu]
  by_cases q:g=f
  ·rw[if_pos q,if_pos q];exact ry
  ·rw[if_neg q,if_neg q];exact r g
 ·by_cases q:g=f
  ·rw[q];exact(Jgs f y fs).1
  ·refine(Jgs f y fs).2 g (wi g λ z=>hg ?_)
   show(if g=f then Za u else mA g)=Zd
   rw[if_neg q];exact z
theorem Inv.made (I:Inv X pj σ H s):Inv X pj σ (upd (upd H s.heap.objs.size (.own (s.heap.objs.size+1))) (s.heap.objs.size+1) (.ins C s.heap.objs.size []))
  { s with heap:=(s.heap.push W.emptyDict).push (W.instObj C s.heap.objs.size) }:=by
 have e1:(s.heap.push W.emptyDict).get? s.heap.objs.size=Za W.emptyDict:=Zv s.heap rfl
 have e2:((s.heap.push W.emptyDict).push (W.instObj C s.heap.objs.size)).get? (s.heap.objs.size+1)=Za (W.instObj C s.heap.objs.size):=by
  have:=Zv (s.heap.push W.emptyDict) (o:=W.instObj C s.heap.objs.size) rfl
  rwa [ZbG] at this
 have e3:(s.heap.push W.emptyDict).Ns s.heap.objs.size (λ _=>Zd):=⟨W.emptyDict,#[],_,e1,rfl,(λ e he=>absurd he (by simp)),λ _=>rfl⟩
 have I1:=I.laid (a:=s.heap.objs.size) (o:=.own (s.heap.objs.size+1)) (h':=s.heap.push W.emptyDict) (t':=s.toks) (λ b u q=>Ze _ q) (Zr _) ⟨_,e1⟩
 refine I1.laid (a:=s.heap.objs.size+1) (o:=.ins C s.heap.objs.size []) (t':=s.toks) (λ b u q=>Ze _ q) (Zde (ZbG _ _)) ?_
 have ne:s.heap.objs.size≠s.heap.objs.size+1:=Z3 (Zax _)
 refine⟨by rw[Jo ne,J0],ZK _,ne,e2,λ _=>Zd,(Heap.Ns1.of_empty e3).at λ o q=>Ze _ q,λ _=>Zaz,λ y hy=>absurd rfl hy⟩
theorem Jwy {prog:ZC}{w:ZU}{env:Env}{e:Expr}{f:Str}{pos:Pos}{s:Zl}{Q:QvT}(hb:Zd1 e f env (Zbr e env)=Zbr e env)
  (h:Zu (Z6 prog w) A (Zbr e env) (λ o s₁=>Zu (Z6 prog w) A (getAttr o f Zj) Q E s₁) E s):Zu (Z6 prog w) A (Zbr (.Attribute e f pos) env) Q E s :=
 Attribute_any_ h (by rw[arm_eval_Attribute,hb])
end
section
variable {X:Cx}{o e value:Expr}{f:Str}{pos pos' tpos:Pos}{ta tv:TE}
end
section
variable {X:Cx}{pj:PnT}{σ:St}{H:Hp}{s:Zl}{A:ZJ}{E:QvT}{Q:QvT}{c:Zh}{b:Bool}
end
structure Room (k:Nat)(A:ZJ):Prop where
 hd:A.handled=Zd
 dp:A.depth+3*k+5<recursionLimit
 un:A.units+16*k+200<cLine
theorem Room.mono {j k:Nat}{A:ZJ}(r:Room k A)(h:j<=k):Room j A:=⟨r.hd,by have:=r.dp;omega,by have:=r.un;omega⟩
theorem Room.deeper {k:Nat}{A:ZJ}(r:Room (k+1) A)(env:Env):Room k (A.deeper env) :=
 ⟨r.hd,by have:=r.dp;show A.depth+1+3*k+5<_;omega,by have:=r.un;show A.units+3+16*k+200<_;omega⟩
theorem Room.in1 {k:Nat}{A:ZJ}(r:Room (k+1) A):Room k A.in1 :=
 ⟨r.hd,by have:=r.dp;show A.depth+3*k+5<_;omega,by have:=r.un;show A.units+1+16*k+200<_;omega⟩
theorem Jox {A:ZJ}{C:Zq}{us:List Zh}{kw:List (Str×Zh)}:(A.under (.builtin "type.__call__" ⟨.ref C::us,kw⟩)).depth=A.depth+1:=by
 first|rfl|simp[Zfx,Code.weight,Code.isCreation,Code.isGuard,Code.isCaller,Code.frames,Zfy,guardIds]
theorem Joy {A:ZJ}{C:Zq}{us:List Zh}{kw:List (Str×Zh)}:(A.under (.builtin "type.__call__" ⟨.ref C::us,kw⟩)).units=A.units+1:=by
 first|rfl|simp[Zfx,Code.cUnits,Code.frames,Zfy]
theorem Room.make {k:Nat}{A:ZJ}(r:Room (k+1) A)(C:Zq)(us:List Zh)(kw:List (Str×Zh)):Room k (A.under (.builtin "type.__call__" ⟨.ref C::us,kw⟩)) :=
 ⟨r.hd,by have:=r.dp;rw[Jox];omega,by have:=r.un;rw[Joy];omega⟩
theorem Room.depth {k:Nat}{A:ZJ}(r:Room k A):A.depth<recursionLimit:=by have:=r.dp;omega
theorem Room.units {k:Nat}{A:ZJ}(r:Room k A):A.units+64<cLine:=by have:=r.un;omega
section
variable {X:Cx}{e:Expr}{es:List Expr}{te:TE}{t:TA}{pos:Pos}
end
abbrev Sp:=List V->Hp->VK->XK->Prop
abbrev CXT:=List Env->Hp->Zl->XK->QvT
structure Env0 (P:ZC)(w:ZU)(K:W.Frag)(mg:Str->Option Zh)(base:Zar)(A:ZJ)(outer:List Env)(s:Zl)(H:Hp):Prop where
 frames:A.frames=Za outer
 mod:Mod K mg base
 bs:∀b o,base.get? b=Za o->s.heap.get? b=Za o/\H b=Zd
 bsz:base.objs.size<=s.heap.objs.size
 funs:s.heap.FunFrames base outer
 frf:∀b∈frs outer,H b=Zd
 hok:HOk P w H s.heap
 bare:ZdG s.gens
def CE (outer:List Env)(P:ZC)(w:ZU)(H:Hp)(s:Zl)(Q:VK)(u:Zh)(s':Zl):Prop :=
 ∃v H',s'.os=s.os/\ZdG s'.gens/\Un (frs outer) [] H H' s.heap s'.heap/\HOk P w H' s'.heap/\RelV v u/\Q v H'
def CR (CX:CXT)(outer:List Env)(P:ZC)(w:ZU)(H:Hp)(s:Zl)(Q:VK)(E:XK)(r:Zeh)(s':Zl):Prop :=
 match r with
 | .ok (.ret u)=>CE outer P w H s Q u s'
 | .ok _=>False
 | .error e=>CX outer H s E e s'
structure FnOk (P:ZC)(w:ZU)(K:W.Frag)(mg:Str->Option Zh)(base:Zar)(CX:CXT)(k:Nat)(f:Zq)(fd:ZaP)(ps:List Str)(sp:Sp):Prop where
 len:∀vs H Q E,sp vs H Q E->vs.length=ps.length
 run:∀(A:ZJ)(outer:List Env)(s:Zl)(H:Hp)(args:Args)(us:List Zh)(vs:List V)(Q:VK)(E:XK),Room k A->Env0 P w K mg base A outer s H->Zdf s fd args (ps.zip us)->Vals vs us->sp vs H Q E ->
  Zc2 (Z6 P w) A (.call (.ref f) args) (CR CX outer P w H s Q E) s
theorem FnOk.imp {P:ZC}{w:ZU}{K:W.Frag}{mg:Str->Option Zh}{base:Zar}{CX:CXT}{k:Nat}{f:Zq}{fd:ZaP}{ps:List Str}{sp sp':Sp}(F:FnOk P w K mg base CX k f fd ps sp)
  (h:∀vs H Q E,sp' vs H Q E->sp vs H Q E):FnOk P w K mg base CX k f fd ps sp' :=
 ⟨λ vs H Q E q=>F.len vs H Q E (h _ _ _ _ q),λ A outer s H args us vs Q E hr he hb hv hs=>F.run A outer s H args us vs Q E hr he hb hv (h _ _ _ _ hs)⟩
theorem Env0.make {P:ZC}{w:ZU}{K:W.Frag}{mg:Str->Option Zh}{base:Zar}{A:ZJ}{outer:List Env}{s:Zl}{H:Hp}(e:Env0 P w K mg base A outer s H)(C:Zq)(us:List Zh)(kw:List (Str×Zh)) :
  Env0 P w K mg base (A.under (.builtin "type.__call__" ⟨.ref C::us,kw⟩)) outer s H:=⟨by first|exact e.frames|(simpa [Zfx,Code.envs,Zfy,pushEnvs] using e.frames),e.mod,e.bs,e.bsz,e.funs,e.frf,e.hok,e.bare⟩
section
variable {X:Cx}{pj:PnT}{σ:St}{H:Hp}{s s':Zl}
theorem Inv.env0 (I:Inv X pj σ H s):Env0 X.prog X.w X.K X.mg X.base X.A X.stack s H :=
 ⟨I.ok.frames,I.ok.mod,I.bs,Zaf I.ok.bsz I.sz,I.stack,I.stkFree,I.hok,I.bare⟩
theorem Inv.after {Q:VK}{u:Zh}(I:Inv X pj σ H s)(h:CE X.stack X.prog X.w H s Q u s'):EP X pj σ Q u s':=by
 obtain⟨v,H',os,bare,un,hok,r,q⟩:=h
 obtain⟨hh,g,d,t,os'⟩:=s'
 obtain rfl:os'=s.os:=os
 exact⟨v,H',I.call (h':=hh) (g':=g) (d':=d) (t':=t) (ch:=[]) un hok bare (λ b z=>absurd z (by simp)),r,q⟩
end
def Qc (K:W.Frag)(fd:ZaP)(ps:List Str)(ds:List Zh):Prop :=
 ∀(s:Zl)(us:List Zh),K.In s.heap->(us++ds).length=ps.length->Zdf s fd ⟨us,[]⟩ (ps.zip (us++ds))
theorem Qc.all {K:W.Frag}{fd:ZaP}{ps:List Str}(h:∀us:List Zh,us.length=ps.length->Zfa fd ⟨us,[]⟩=pure (ps.zip us)):Qc K fd ps []:=λ s us _ hl=>by
 rw[ZaC] at hl ⊢
 exact .of_eq (h us hl)
section
variable {X:Cx}{CX:CXT}{k:Nat}{f C:Zq}{fd:ZaP}{ps:List Str}{sp:Sp}{dvs:List V}{ds:List Zh}{E:XK}{x m:Str}{p pos apos:Pos}{e o:Expr}{es:List Expr}{ta:TE}{t:TA}
structure Mk (K:W.Frag)(C f:Zq):Prop where
 makes:W.makesIn K C=Zj
 init:W.findIn K (.ref C) "__init__"=Za (Za (.ref f))
 fn:W.isFn K (.ref f)=Zj
 kp:W.keepIn K (.ref C)=Zj
end
section
variable {X:Cx}{CX:CXT}{k:Nat}{f C:Zq}{fd:ZaP}{ps ks:List Str}{sp:Sp}{E:XK}{x m:Str}{p pos apos kpos:Pos}{e o:Expr}{es:List Expr}{kws:List Zfl}{te ta:TE}{t tk:TA}{nm:Option Str}
variable {g:List Zh->List Zh->List Zh}{gV:List V->List V->List V}
end
structure FnScope (N P:List Str)(sc:Zb1):Prop where
 kind:sc.kind=.function
 co:sc.isCoroutine=Zm
 gen:sc.isGenerator=Zm
 nd:N.Nodup
 pre:N.take P.length=P
 par:∀x∈P,sc.names.lookup x=Za .local∨sc.names.lookup x=Za .cell
 nofree:∀y∈sc.names,y.2≠.free
theorem Jjz {kindOf:Str->Option Zbt}{x:Str}:∀{binds:List (Str×Zh)}{m:Str->Option Zh},(∀v,(x,v)∉binds)->bindL kindOf binds m x=m x
 | [],_,_=>rfl
 | (n,v)::r,m,h=>by
  unfold bindL
  rw[Jjz λ w hw=>h w (Zi _ hw)]
  split
  ·have:x≠n:=by rintro rfl;exact h v Z0
   simp[this]
  ·rfl
theorem Jjx {kindOf:Str->Option Zbt}{x:Str}:∀{binds:List (Str×Zh)}{m:Str->Option Zh},(∀v,(x,v)∉binds)->bindC kindOf binds m x=m x
 | [],_,_=>rfl
 | (n,v)::r,m,h=>by
  unfold bindC
  rw[Jjx λ w hw=>h w (Zi _ hw)]
  split
  ·rfl
  ·have:x≠n:=by rintro rfl;exact h v Z0
   simp[this]
theorem Jjy {kindOf:Str->Option Zbt}{x:Str}{v:Zh}:∀{P:List Str}{vs:List Zh}{i:Nat}{m:Str->Option Zh},P.Nodup->P[i]?=Za x->vs[i]?=Za v->kindOf x=Za .local ->
  bindL kindOf (P.zip vs) m x=Za v
 | [],_,_,_,_,h,_,_=>by simp at h
 | _::_,[],_,_,_,_,h,_=>by simp at h
 | p::P,w::vs,0,m,nd,h1,h2,hk=>by
  simp at h1 h2;subst h1;subst h2
  show bindL kindOf ((p,w)::P.zip vs) m p=_
  unfold bindL
  rw[Jjz λ v hv=>(Zco.mp nd).1 (ZeK hv).1,if_pos hk]
  simp
 | p::P,w::vs,i+1,m,nd,h1,h2,hk=>by
  show bindL kindOf ((p,w)::P.zip vs) m x=_
  unfold bindL
  exact Jjy (i:=i) (Zco.mp nd).2 (by simpa using h1) (by simpa using h2) hk
theorem Jjw {kindOf:Str->Option Zbt}{x:Str}{v:Zh}:∀{P:List Str}{vs:List Zh}{i:Nat}{m:Str->Option Zh},P.Nodup->P[i]?=Za x->vs[i]?=Za v->kindOf x≠Za .local ->
  bindC kindOf (P.zip vs) m x=Za v
 | [],_,_,_,_,h,_,_=>by simp at h
 | _::_,[],_,_,_,_,h,_=>by simp at h
 | p::P,w::vs,0,m,nd,h1,h2,hk=>by
  simp at h1 h2;subst h1;subst h2
  show bindC kindOf ((p,w)::P.zip vs) m p=_
  unfold bindC
  rw[Jjx λ v hv=>(Zco.mp nd).1 (ZeK hv).1,if_neg hk]
  simp
 | p::P,w::vs,i+1,m,nd,h1,h2,hk=>by
  show bindC kindOf ((p,w)::P.zip vs) m x=_
  unfold bindC
  exact Jjw (i:=i) (Zco.mp nd).2 (by simpa using h1) (by simpa using h2) hk
def start (N:List Str)(vs:List V):St:=vs.map Za++ZS (N.length-vs.length) Zd
def cxOf (CX:CXT)(P:ZC)(w:ZU)(K:W.Frag)(mg:Str->Option Zh)(base:Zar)(N:List Str)(qual:Str)(scope:Zb1)(f:Zq)(cd:Zh)(A:ZJ)(outer:List Env)(s:Zl)(H:Hp)(E:XK):Cx where
 prog:=P
 w:=w
 K:=K
 mg:=mg
 base:=base
 A:=A.deeper (Zfb qual scope s.heap.objs.size f cd)
 N:=N
 s₀:=s
 H₀:=H
 env:=Zfb qual scope s.heap.objs.size f cd
 outer:=outer
 stack:=Zfb qual scope s.heap.objs.size f cd::outer
 ex:=[]
 calm:=Zj
 fn:=λ _=>Zj
 pn:=[]
 xe:=λ e s'=>Zu (Z6 P w) (A.deeper (Zfb qual scope s.heap.objs.size f cd)) (leaving (Zfb qual scope s.heap.objs.size f cd) e) (λ _ s''=>CX outer H s E e s'') (λ e' s''=>CX outer H s E e' s'') s'
theorem Jmm {sc:Zb1}{n:Nat}{x:Str}(h:sc.names.lookup x=Za .cell):∃c,(cellsFrom n sc.names []).lookup x=Za c:=by
 have q:=W.cellsFrom_some sc.names n [] (.inl h)
 exact Zb4.mp q
theorem Jq0 {CX:CXT}{P:ZC}{w:ZU}{K:W.Frag}{mg:Str->Option Zh}{base:Zar}{N ps:List Str}{qual:Str}{scope:Zb1}{f:Zq}{cd:Zh}{A:ZJ}{outer:List Env}{s s1:Zl}{H:Hp}{E:XK}{us:List Zh}{vs:List V}
  (S:FnScope N ps scope)(hd:A.handled=Zd)(e0:Env0 P w K mg base A outer s H)(hl:vs.length=ps.length)(r:Vals vs us)
  (x:InCallC s s.heap.objs.size (bindL (Zfb qual scope s.heap.objs.size f cd).kindOf (ps.zip us) λ _=>Zd) (cellsFrom (s.heap.objs.size+1) scope.names []) (bindC (Zfb qual scope s.heap.objs.size f cd).kindOf (ps.zip us) λ _=>Zd) s1) :
  Inv (cxOf CX P w K mg base N qual scope f cd A outer s H E) [] (start N vs) H s1:=by
 have hpl:ps.length<=N.length:=by have:=congrArg List.length S.pre;rw[Zc3] at this;omega
 obtain⟨h1,tk,rfl,hk⟩:=x.done
 have noA:∀b:Zq,b∉(cxOf CX P w K mg base N qual scope f cd A outer s H E).ex:=λ b z=>absurd (show b∈([]:List Zq) from z) (by simp)
 refine⟨⟨e0.mod,S.kind,rfl,rfl,Zr _,λ y z c h1 h2=>?_,λ y hy=>?_,λ y c _ h=>?_,λ _=>hd,Around.frames_deeper e0.frames,.inr ⟨rfl,rfl⟩,λ b z=>absurd z (noA b),e0.bs,e0.bsz,λ b _ _=>noA b,λ b z=>absurd z (noA b),e0.funs,e0.frf⟩,
  rfl,e0.bare,Un.kept hk,⟨_,x.toInCall.ns,λ i y v h1 h2 h3=>?_⟩,λ y c h=>⟨_,x.cell y c h⟩,e0.hok.fresh (Zr _),λ y c h=>?_,λ p hp=>absurd (show p∈([]:PnT) from hp) (by simp),e0.hok.kept hk,?_⟩
 ·exact name_of_addr x.apart (Zaj h1) (Zaj h2)
 ·have hy:scope.names.lookup y=Za .cell∨scope.names.lookup y=Za .free:=hy
  rcases hy with hy|hy
  ·exact Jmm hy
  ·exact absurd rfl (S.nofree _ (Zaj hy))
 ·exact Zb2 (x.above y c (Zaj h))
 ·have hi:i<vs.length:=by
   unfold start at h2
   by_cases hi:i<vs.length
   ·exact hi
   ·rw[ZA (by simpa using hi)] at h2
    rw[ZbY] at h2
    split at h2<;>cases h2
  have ha:vs[i]?=Za v:=by
   unfold start at h2
   rw[ZH (by simpa using hi),Zy] at h2
   cases e:vs[i]? with
   | none=>rw[e] at h2;cases h2
   | some a=>rw[e] at h2;cases h2;rfl
  obtain⟨u,hu,rv⟩:=r.get ha
  have hp:ps[i]?=Za y:=by
   rw[<- S.pre,List.getElem?_take_of_lt (by omega)];exact h1
  have ndP:ps.Nodup:=by rw[<- S.pre];exact S.nd.sublist (List.take_sublist _ _)
  refine⟨u,rv,?_⟩
  rcases S.par y (ZbK hp) with k|k
  ·exact .inl ⟨k,Jjy ndP hp hu k⟩
  ·obtain⟨c,e⟩:=Jmm (n:=s.heap.objs.size+1) k
   refine .inr ⟨.inl k,c,e,?_⟩
   have q:=x.cell y c e
   rw[Jjw ndP hp hu (by show scope.names.lookup y≠_;rw[k];decide)] at q
   exact q
 ·exact e0.hok.fresh (Zb2 (x.above y c (Zaj h)))
 ·unfold start
  show _=N.length
  rw[Z1,Zn,ZbH]
  omega
theorem J2m {CX:CXT}{P:ZC}{w:ZU}{K:W.Frag}{mg:Str->Option Zh}{base:Zar}{k:Nat}{f:Zq}{name qual:Str}{params:Zcr}{body:List ZdP}{scope:Zb1}{dV kV doc pm cdv ct oc:Zh}{an od:Option Zq}
  {osl:Array (Option Zh)}{N ps:List Str}{sp:Sp}(lk:K.lookup f=Za ⟨oc,od,.func (W.fnOf name qual params body scope dV kV doc pm an cdv ct),osl⟩)(hcd:W.codeIn K cdv qual=Zj)(S:FnScope N ps scope)
  (len:∀vs H Q E,sp vs H Q E->vs.length=ps.length)
  (hbody:∀(A:ZJ)(outer:List Env)(s:Zl)(H:Hp)(vs:List V)(Q:VK)(E:XK),Room k (A.deeper (Zfb qual scope s.heap.objs.size f cdv))->sp vs H Q E ->
   ∃t,PSs (cxOf CX P w K mg base N qual scope f cdv A outer s H E) body t/\t { nx:=λ _ H'=>Q .non H',rt:=Q } (start N vs) H) :
  FnOk P w K mg base CX (k+1) f (W.fnOf name qual params body scope dV kV doc pm an cdv ct) ps sp:=by
 refine⟨len,λ A outer s H args us vs Q E hr e0 hb r hsp=>?_⟩
 have hl:=len _ _ _ _ hsp
 have KX:K.In s.heap:=e0.mod.kin.keeps λ b o e=>(e0.bs b o e).1
 have lim:s.heap.NoLimit:=e0.mod.nolimit.keeps λ b o e=>(e0.bs b o e).1
 have hkind:∀y∈ps.zip us,scope.names.lookup y.1=Za .local∨(scope.names.lookup y.1=Za .cell/\((cellsFrom (s.heap.objs.size+1) scope.names []).lookup y.1).isSome=Zj):=λ ⟨n,v⟩ hy=>by
  rcases S.par n (ZeK hy).1 with q|q
  ·exact .inl q
  ·exact .inr ⟨q,W.cellsFrom_some _ _ _ (.inl q)⟩
 refine codeAny_call_function hr.depth (KX _ _ lk) rfl S.co S.gen rfl (W.codeRec_of KX hcd) (hb _ _ _ _ ?_)
 refine wpAny_newFunctionEnv_cells S.kind hkind λ env he s1 x=>?_
 subst he
 refine⟨lim.keeps x.toInCall.keep,codeAny_func ?_⟩
 obtain⟨t,ht,hq⟩:=hbody A outer s H vs Q E (hr.deeper _) hsp
 have I:Inv (cxOf CX P w K mg base N qual scope f cdv A outer s H E) [] (start N vs) H s1:=Jq0 S hr.hd e0 hl r x
 refine Zas (ht [] s1 (start N vs) H _ I hq) (λ fl s' hs=>?_) λ e s' hs=>hs
 have fin:∀{σ':St}{H':Hp}{v:V}{u:Zh},Inv (cxOf CX P w K mg base N qual scope f cdv A outer s H E) [] σ' H' s'->RelV v u->Q v H'->CE outer P w H s Q u s' :=
  λ {σ' H' v u} J rv q=>⟨v,H',J.os,J.bare,J.base,J.hok,rv,q⟩
 cases fl with
 | ret u =>
  obtain⟨v,σ',H',J,rv,q⟩:=hs
  exact fin J rv q
 | next =>
  obtain⟨σ',H',J,q⟩:=hs
  exact fin (v:=V.non) (u:=ZV) J rfl q
 | brk =>
  obtain⟨_,_,_,q⟩:=hs
  exact ZbA q
 | cont =>
  obtain⟨_,_,_,q⟩:=hs
  exact ZbA q
section
variable {X:Cx}{x:Str}{p pos:Pos}{e:Expr}{es:List Expr}{t:TA}{id T:String}{r:List V->Hp->VK->Prop}
end
end L2
namespace HT
open PySem PyProof.Rows
section
open PySem.SeqAt
open PySem.AutoSeq1 (wpAny_loadPart')
open PySem.MeetsSeq PySem.MeetsSeq2 PySem.MeetsSeq3
end
section
variable {prog:ZC}{w:ZU}{A:ZJ}{E:QvT}{s:Zl}
theorem cat_tup {t b:Zq}{vs ws:List Zh}{Q:QvT}(ht:IsTup s.heap t vs.toArray)(hb:IsTup s.heap b ws.toArray)(hv:vs≠[])
  (h1:ws=[]->Q (.ref t) s)(h2:ws≠[]->Q (.ref s.heap.objs.size) { s with heap:=s.heap.push { cls:=.type "tuple",data:=.seq (vs++ws).toArray } })
  (hsz:vs.length+ws.length<=sizeLine):Zu (Z6 prog w) A (Zbc .Add (.ref t) (.ref b)) Q E s:=by
 obtain⟨⟨cls,dd,data,sl⟩,ho,hc,n,hd⟩:=id ht
 obtain⟨⟨cls2,dd2,data2,sl2⟩,ho2,hc2,n2,hd2⟩:=id hb
 simp only at hc hd hc2 hd2
 subst hc hd hc2 hd2
 have e:vs.toArray++ws.toArray=(vs++ws).toArray:=by simp
 by_cases hw:ws=[]
 ·exact concat_meets ⟨_,ho,rfl⟩ ⟨_,ho2,rfl⟩ noFill_tuple_add seq_tuple_add Ze8 Zet (Zei _ _)
   (tuple_addW1 t b vs.toArray ws.toArray n n2 dd dd2 sl sl2 (by simpa using hv) (by simp[hw])) ⟨ho,ho2,h1 hw⟩
 ·refine concat_meets ⟨_,ho,rfl⟩ ⟨_,ho2,rfl⟩ noFill_tuple_add seq_tuple_add Ze8 Zet (Zei _ _)
   (tuple_addW2 t b vs.toArray ws.toArray n n2 dd dd2 sl sl2 (by simpa using hv) (by simpa using hw) (by rw[Zx,Zx];exact hsz)) ⟨ho,ho2,?_⟩
  rw[e]
  exact h2 hw
def sIx (n d:Nat):Option Int->Nat
 | none=>d
 | some v=>if v<0 then(v+(n:Int)).toNat else min v.toNat n
theorem sIx_none (n d:Nat):sIx n d Zd=d:=rfl
theorem sIx_nat (n d k:Nat):sIx n d (Za (k:Int))=min k n:=by
 show(if (k:Int)<0 then((k:Int)+(n:Int)).toNat else min (k:Int).toNat n)=min k n
 rw[if_neg (by omega),Za7]
end
end HT
namespace L2
open PySem PySem.Spec PyProof.Rows
abbrev TO:=St->Hp->(Option Int->Hp->Prop)->Prop
section
variable {X:Cx}{e:Expr}{te:TE}{lo hi:Option Expr}{tl th:TO}{pos p2:Pos}
def SlR (X:Cx)(r:V->Option Int->Option Int->Hp->VK->Prop):Prop :=
 ∀(pj:PnT)(s:Zl)(σ:St)(H:Hp)(x:V)(v vl vu:Zh)(lo hi:Option Int)(sl:Zq)(Q:VK),Inv X pj σ H s->RelV x v->s.heap.IsSliceOf sl vl vu .none->ZfA vl lo->ZfA vu hi->r x lo hi H Q ->
  ∃T id,Zfs (.type T) "__getitem__"=pure (Za (.builtin id))/\s.TypeIs v T/\Zu (Z6 X.prog X.w) X.A (Ze9 v (.ref sl)) (EP X pj σ Q) X.xe s
def cutV (xs:List V)(lo hi:Option Int):List V:=(xs.drop (HT.sIx xs.length 0 lo)).take (HT.sIx xs.length xs.length hi-HT.sIx xs.length 0 lo)
theorem Jlp (xs:List V)(lo hi:Option Int):(cutV xs lo hi).length<=xs.length:=by
 unfold cutV
 rw[Zc3,List.length_drop]
 omega
def J3o (K:W.Frag):R2:=λ x y H Q=>∃a b xs ys,x=.ref a/\y=.ref b/\SqT K H a xs/\SqT K H b ys/\xs≠[]/\xs.length+ys.length<=sizeLine /\
 (ys=[]->Q (.ref a) H)/\(ys≠[]->∀p,H p=Zd->Q (.ref p) (upd H p (.tup (xs++ys))))
theorem Vals.nil_iff {xs:List V}{us:List Zh}(r:Vals xs us):us=[]↔xs=[]:=by
 cases r with
 | nil=>simp
 | cons _ _=>simp
theorem Jx7:OpR X (Zbc .Add) (J3o X.K):=by
 intro pj s σ H x y v u Q I rx ry h
 obtain⟨a,b,xs,ys,rfl,rfl,ha,hb,hx,hz,q1,q2⟩:=h
 cases rx
 cases ry
 obtain⟨its,r1,p1,_⟩:=I.tuple ha
 obtain⟨its2,r2,p2,_⟩:=I.tuple hb
 refine HT.cat_tup p1 p2 (λ z=>hx (r1.nil_iff.mp z)) (λ z=>⟨.ref a,H,I,rfl,q1 (r2.nil_iff.mp z)⟩) (λ z=>?_) (by rw[<- r1.length,<-r2.length];exact hz)
 refine⟨.ref s.heap.objs.size,_,I.laid (t':=s.toks) (o:=.tup (xs++ys)) (λ b ob q=>Ze _ q) (Zr _) ?_,rfl,q2 (λ w=>z (r2.nil_iff.mpr w)) _ (I.hok.fresh (Zr _))⟩
 exact⟨by rw[Z1];exact hz,_,r1.append r2,IsTup.new _ _⟩
end
noncomputable def ixN (n:Nat)(i:Int):Option Nat:=if 0<=i then(if i<n then Za i.toNat else Zd) else if -(n:Int)<=i then Za (i+n).toNat else Zd
noncomputable def atI {α:Type}(xs:List α)(i:Int):Option α:=(ixN xs.length i).bind λ j=>xs[j]?
theorem Jq4 {n:Nat}{i:Int}{j:Nat}(h:ixN n i=Za j):seqIndex? i n=Za j/\j<n/\ -(n:Int)<=i/\i<n:=by
 unfold ixN at h
 by_cases h0:0<=i
 ·rw[if_pos h0] at h
  by_cases h1:i<n
  ·rw[if_pos h1] at h
   have e:i.toNat=j:=Zao h
   exact⟨by rw[Zfc h0 h1,e],by omega,by omega,h1⟩
  ·rw[if_neg h1] at h;cases h
 ·rw[if_neg h0] at h
  by_cases h1: -(n:Int)<=i
  ·rw[if_pos h1] at h
   have e:(i+n).toNat=j:=Zao h
   exact⟨by rw[Zfz (by omega) h1,e],by omega,h1,by omega⟩
  ·rw[if_neg h1] at h;cases h
theorem Jh2 {α:Type}{xs:List α}{i:Int}{v:α}(h:atI xs i=Za v):∃j,seqIndex? i xs.length=Za j/\xs[j]?=Za v/\j<xs.length/\ -(xs.length:Int)<=i/\i<xs.length:=by
 unfold atI at h
 cases e:ixN xs.length i with
 | none=>rw[e] at h;cases h
 | some j =>
  rw[e] at h
  obtain⟨h1,h2,h3,h4⟩:=Jq4 e
  exact⟨j,h1,h,h2,h3,h4⟩
def Jpl (b:Expr):Prop:=∀o i,Zfd b Zm o i=operate [o,i] (Ze9 o i)
def IxR (X:Cx)(r:R2):Prop :=
 ∀(value slice:Expr)(pj:PnT)(s:Zl)(σ:St)(H:Hp)(x y:V)(v u:Zh)(Q:VK),Inv X pj σ H s->RelV x v->RelV y u->r x y H Q ->
  Zfd slice Zm v u=operate [v,u] (Ze9 v u)->Zu (Z6 X.prog X.w) X.A (Zej value slice v u) (EP X pj σ Q) X.xe s
section
variable {X:Cx}{a b:Expr}{ta tb:TE}{pos:Pos}
def rIxL (K:W.Frag):R2:=λ x y H Q=>∃p xs i v,x=.ref p/\y=.int i/\SqL K H p xs/\atI xs i=Za v/\Q v H
def rIxT (K:W.Frag):R2:=λ x y H Q=>∃p xs i v,x=.ref p/\y=.int i/\SqT K H p xs/\atI xs i=Za v/\Q v H
def rIxS:R2:=λ x y H Q=>∃z i c,x=.str z/\y=.int i/\z.length<=sizeLine/\atI z.cps.toList i=Za c/\Q (.str ⟨#[c]⟩) H
theorem Jq5:IxR X (rIxL X.K):=by
 intro value slice pj s σ H x y v u Q I rx ry h hs
 obtain⟨p,xs,i,z,rfl,rfl,hq,he,q⟩:=h
 cases rx
 obtain⟨t,rfl⟩:=ry
 obtain⟨its,r,pl,hz⟩:=I.list hq
 obtain⟨j,h1,h2,h3,h4,h5⟩:=Jh2 he
 obtain⟨w,ew,rw'⟩:=r.get h2
 have hl:=r.length
 have hn:=VU
 have fin:EP X pj σ Q w s:=⟨z,H,I,rw',q⟩
 by_cases h0:0<=i
 ·have hj:i.toNat=j:=by
   rw[Zfc h0 h5] at h1
   exact Zao h1
  exact item_listR pl.isList h0 (by omega) (by rw[hj];simpa using ew) fin hs
 ·have hj:(i+(its.toArray.size:Int)).toNat=j:=by
   rw[Zfz (by omega) h4] at h1
   rw[Zx,<-hl]
   exact Zao h1
  exact Zdg (x:=w) pl.isList.typeIs slot_list_getitem.lookup
   (wpAny_getItem_list_neg (Q:=λ r s'=>r=w/\EP X pj σ Q r s') pl.isList (by omega) (by rw[Zx]<;>omega) (by omega) (by rw[hj];simpa using ew) ⟨rfl,fin⟩) hs
theorem J0c:IxR X (rIxT X.K):=by
 intro value slice pj s σ H x y v u Q I rx ry h hs
 obtain⟨p,xs,i,z,rfl,rfl,hq,he,q⟩:=h
 cases rx
 obtain⟨t,rfl⟩:=ry
 obtain⟨its,r,pl,hz⟩:=I.tuple hq
 obtain⟨j,h1,h2,h3,h4,h5⟩:=Jh2 he
 obtain⟨w,ew,rw'⟩:=r.get h2
 have hl:=r.length
 have hn:=VU
 have fin:EP X pj σ Q w s:=⟨z,H,I,rw',q⟩
 exact Zdg (x:=w) pl.typeIs slot_tuple_getitem.lookup
  (getItem_tuple (j:=j) (Q:=λ r s'=>r=w/\EP X pj σ Q r s') pl (by omega) (by omega) (by rw[Zx,<-hl];exact h1) (by simpa using ew) ⟨rfl,fin⟩) hs
theorem J0b:IxR X rIxS:=by
 intro value slice pj s σ H x y v u Q I rx ry h hs
 obtain⟨z,i,c,rfl,rfl,hz,he,q⟩:=h
 obtain⟨t,rfl⟩:=rx
 obtain⟨t',rfl⟩:=ry
 obtain⟨j,h1,h2,h3,h4,h5⟩:=Jh2 he
 have hl:z.cps.toList.length=z.length:=by simp[Str.length]
 rw[hl] at h1 h4 h5
 have hn:=VU
 exact tail_any (typeIs_str s z t) slot_str_getitem.lookup (getItem_str (c:=c) (by
  have e1:decide (i< -(2^63:Int))=Zm:=decide_eq_false (by omega)
  have e2:decide (i ≥ 2^63)=Zm:=decide_eq_false (by omega)
  rw[e1,e2,Bool.or_false]) (by rw[h1];simpa using h2) ⟨.str ⟨#[c]⟩,H,I.tok _,⟨_,rfl⟩,q⟩) hs
theorem Joz (its:List Zh)(n j:Nat)(u:Zh):ZW (·.setIfInBounds j u) { cls:=.type "list",data:=.seq its.toArray n }={ cls:=.type "list",data:=.seq (its.set j u).toArray n }:=by
 simp[ZW]
theorem Inv.lst {pj:PnT}{σ:St}{H:Hp}{s:Zl}{p:Zq}{xs:List V}(I:Inv X pj σ H s)(h:H p=Za (.lst xs)) :
  ∃(its:List Zh) (n:Nat),Vals xs its/\s.heap.get? p=Za { cls:=.type "list",data:=.seq its.toArray n }/\xs.length<=sizeLine:=by
 obtain⟨z,its,n,r,e⟩:=I.hok p _ h
 exact⟨its,n,r,e,z⟩
theorem Inv.lstUpd {pj:PnT}{σ:St}{H:Hp}{s:Zl}{p:Zq}{xs ys:List V}{its its':List Zh}{n n':Nat}{f:Obj->Obj}(I:Inv X pj σ H s)(h:H p=Za (.lst xs))
  (ho:s.heap.get? p=Za { cls:=.type "list",data:=.seq its.toArray n })(hf:f { cls:=.type "list",data:=.seq its.toArray n }={ cls:=.type "list",data:=.seq its'.toArray n' })(r:Vals ys its')(hz:ys.length<=sizeLine)(t:Nat) :
  Inv X pj σ (upd H p (.lst ys)) { s with heap:=s.heap.update p f,toks:=t }:=by
 have e:(s.heap.update p f).get? p=Za { cls:=.type "list",data:=.seq its'.toArray n' }:=by
  rw[Zae f ho (by rw[hf]<;>rfl),hf]
 refine I.write (x:=p) (e:=p) (by rw[h];trivial) (.inl rfl) (λ b u hb q=>(Zw _ _ (ZO hb)).trans q) ⟨_,e⟩ ?_
 exact⟨hz,its',n',r,e⟩
def J3p:V->V->V->Hp->(Hp->Prop)->Prop:=λ o i v H Q=>∃p xs k j,o=.ref p/\i=.int k/\H p=Za (.lst xs)/\ixN xs.length k=Za j/\Q (upd H p (.lst (xs.set j v)))
theorem Juo:PSet X J3p:=by
 intro pj s σ H o i v ov iv u Q I ro ri rv h
 obtain⟨p,xs,k,j,rfl,rfl,hp,hj,q⟩:=h
 cases ro
 obtain⟨t,rfl⟩:=ri
 obtain⟨its,n,r,ho,hz⟩:=I.lst hp
 obtain⟨h1,h2,h3,h4⟩:=Jq4 hj
 have hl:=r.length
 have hn:=VU
 have I':Inv X pj σ (upd H p (.lst (xs.set j v))) { s with heap:=s.heap.update p (ZW (·.setIfInBounds j u)) } :=
  I.lstUpd hp ho (Joz its n j u) (r.set rv j) (by rw[ZbB];exact hz) s.toks
 by_cases h0:0<=k
 ·have hk:k.toNat=j:=by
   rw[Zfc h0 h4] at h1
   exact Zao h1
  exact W.ki_setAt ho h0 (by omega) (by rw[Zx,<-hl];exact h4) (by rw[hk];exact⟨_,I',q⟩)
 ·have hk:(k+(its.toArray.size:Int)).toNat=j:=by
   rw[Zfz (by omega) h3] at h1
   rw[Zx,<-hl]
   exact Zao h1
  exact W.ki_setBack ho (by omega) (by rw[Zx,<-hl];exact h3) (by omega) (by rw[hk];exact⟨_,I',q⟩)
theorem Jlb (lo hi:Option Int)(n:Nat):(ZcV lo hi Zd n).1=((HT.sIx n 0 lo:Nat):Int)/\(ZcV lo hi Zd n).2.1=((HT.sIx n n hi:Nat):Int)/\(ZcV lo hi Zd n).2.2=1:=by
 refine⟨?_,?_,rfl⟩
 ·cases lo with
  | none=>simp[ZcV,HT.sIx]
  | some i =>
   simp only[ZcV,HT.sIx,Option.getD_none,show(1:Int)>0 by decide,if_true]
   by_cases h:i<0
   ·simp only[h,if_true]<;>omega
   ·simp only[h,if_false]<;>omega
 ·cases hi with
  | none=>simp[ZcV,HT.sIx]
  | some i =>
   simp only[ZcV,HT.sIx,Option.getD_none,show(1:Int)>0 by decide,if_true]
   by_cases h:i<0
   ·simp only[h,if_true]<;>omega
   ·simp only[h,if_false]<;>omega
theorem Ji9 (its:List Zh)(lo hi:Option Int):slicePick its.toArray lo hi Zd=((its.drop (HT.sIx its.length 0 lo)).take (HT.sIx its.length its.length hi-HT.sIx its.length 0 lo)).toArray:=by
 obtain⟨h1,h2,h3⟩:=Jlb lo hi its.toArray.size
 unfold slicePick
 rw[h1,h2,h3]
 simp only[sliceRange_one,pick_run,Zx]<;>rfl
def rSlL (K:W.Frag):V->Option Int->Option Int->Hp->VK->Prop:=λ x lo hi H Q=>∃a xs,x=.ref a/\SqL K H a xs/\∀p,H p=Zd->Q (.ref p) (upd H p (.lst (cutV xs lo hi)))
theorem Jr9:SlR X (rSlL X.K):=by
 intro pj s σ H x v vl vu lo hi sl Q I rx hs pl pu h
 obtain⟨a,xs,rfl,hx,q⟩:=h
 cases rx
 obtain⟨its,r,ht,hz⟩:=I.list hx
 have hlen:=r.length
 refine⟨"list",_,slot_list_getitem.lookup,ht.isList.typeIs,?_⟩
 refine wpAny_getItem_list_slice ht.isList hs pl pu .none (by simp) ?_ (by rw[Zx]<;>omega)
 rw[Ji9,<-hlen]
 refine⟨.ref s.heap.objs.size,_,I.laid (t':=s.toks) (o:=.lst (cutV xs lo hi)) (λ b ob q=>Ze _ q) (Zr _) ?_,rfl,q _ (I.hok.fresh (Zr _))⟩
 exact⟨Zaf (Jlp xs lo hi) hz,_,0,(r.drop (HT.sIx xs.length 0 lo)).take (HT.sIx xs.length xs.length hi-HT.sIx xs.length 0 lo),Zv _ rfl⟩
theorem Jcl:Xh X (.type "list") (λ xs H Q=>∃p ys,xs=[.ref p]/\(SqL X.K H p ys∨SqT X.K H p ys)/\∀l,H l=Zd->Q (.ref l) (upd H l (.lst ys))):=by
 intro pj s σ H xs us Q I r h
 obtain⟨p,ys,rfl,hq,q⟩:=h
 obtain⟨u,rfl,rx⟩:=QE r
 cases rx
 have fin:∀(its:List Zh),Vals ys its->ys.length<=sizeLine->∀(h':Zar)(c':Nat),(∀b o',s.heap.get? b=Za o'->h'.get? b=Za o') ->
   h'.get? s.heap.objs.size=Za { cls:=.type "list",dict:=Zd,data:=.seq its.toArray c',slots:=#[] }->EP X pj σ Q (.ref s.heap.objs.size) { s with heap:=h' }:=λ its r' hz h' c' kp e =>
  ⟨.ref s.heap.objs.size,_,I.laid (t':=s.toks) kp (Zr _) (show JC X.prog X.w _ h' _ (.lst ys) from⟨hz,its,c',r',e⟩),rfl,q _ (I.hok.fresh (Zr _))⟩
 rcases hq with hq|hq
 ·obtain⟨its,r',pl,hz⟩:=I.list hq
  have hlen:=r'.length
  obtain⟨o,ho,hc,n,hd⟩:=pl.isList
  exact call_list_seq p (.inl rfl) ho hc hd (λ h' c' kp e=>fin its r' hz h' c' kp e) (by simp only[Zx]<;>omega)
 ·obtain⟨its,r',pl,hz⟩:=I.tuple hq
  have hlen:=r'.length
  obtain⟨o,ho,hc,n,hd⟩:=pl
  exact call_list_seq p (.inr rfl) ho hc hd (λ h' c' kp e=>fin its r' hz h' c' kp e) (by simp only[Zx]<;>omega)
theorem Jd8:Xh X (.type "tuple") (λ xs H Q=>∃p ys,xs=[.ref p]/\((SqL X.K H p ys/\∀l,H l=Zd->Q (.ref l) (upd H l (.tup ys)))∨(SqT X.K H p ys/\Q (.ref p) H))):=by
 intro pj s σ H xs us Q I r h
 obtain⟨p,ys,rfl,h⟩:=h
 obtain⟨u,rfl,rx⟩:=QE r
 cases rx
 rcases h with⟨hq,q⟩|⟨hq,q⟩
 ·obtain⟨its,r',pl,hz⟩:=I.list hq
  have hlen:=r'.length
  refine call_tuple_list pl.isList (λ h' kp=>?_) (by simp only[Zx]<;>omega)
  have I1:Inv X pj σ H { s with heap:=h' }:=I.kept (t':=s.toks) kp
  have I2:Inv X pj σ (upd H h'.objs.size (.tup ys)) { s with heap:=h'.push { cls:=.type "tuple",data:=.seq its.toArray } } :=
   I1.laid (t':=s.toks) (λ b o e=>Ze _ e) (Zr _) (show JC X.prog X.w _ _ _ (.tup ys) from⟨hz,its,r',IsTup.new _ _⟩)
  exact⟨.ref h'.objs.size,_,I2,rfl,q _ (I1.hok.fresh (Zr _))⟩
 ·obtain⟨its,r',pl,hz⟩:=I.tuple hq
  exact call_tuple_same pl ⟨.ref p,H,I,rfl,q⟩
def tyV (K:W.Frag)(T:String)(x:V)(H:Hp):Prop:=match x with
 | .str _=>T="str"
 | .int _=>T="int"
 | .ref p=>(T="list"/\∃xs,SqL K H p xs)∨(T="tuple"/\∃o,K.lookup p=Za o/\o.cls=.type "tuple"/\o.dict=Zd) ∨
   (T="dict"/\((∃kvs,H p=Za (.dK kvs))∨∃kvs,H p=Za (.dT kvs)))∨(T="set"/\∃S n,H p=Za (.set S n))
 | _=>False
theorem Jwp {pj:PnT}{σ:St}{H:Hp}{s:Zl}{T:String}{x:V}{v:Zh}(I:Inv X pj σ H s)(r:RelV x v)(ty:tyV X.K T x H) :
  s.TypeIs v T/\∀a,v=.ref a->∃ob,s.heap.get? a=Za ob/\ob.dict=Zd:=by
 cases x with
 | str z =>
  obtain⟨t,rfl⟩:=r
  cases (show T="str" from ty)
  exact⟨typeIs_str s z t,λ _ e=>nomatch e⟩
 | int i =>
  obtain⟨t,rfl⟩:=r
  cases (show T="int" from ty)
  exact⟨typeIs_int s i t,λ _ e=>nomatch e⟩
 | ref p =>
  cases r
  rcases ty with⟨rfl,xs,hq⟩|⟨rfl,o,hk,hc,hd⟩|⟨rfl,hk⟩|⟨rfl,S,n,hk⟩
  ·obtain⟨its,_,pl,_⟩:=I.list hq
   refine⟨pl.isList.typeIs,λ a e=>?_⟩
   cases e
   obtain⟨o,n,e,c,hd,_⟩:=pl
   exact⟨o,e,hd⟩
  ·refine⟨⟨o,I.kIn p o hk,hc⟩,λ a e=>?_⟩
   cases e
   exact⟨o,I.kIn _ o hk,hd⟩
  ·have z:∃o,s.heap.get? p=Za o/\o.ExactDict:=by
    rcases hk with⟨kvs,hk⟩|⟨kvs,hk⟩
    ·obtain⟨_,_,_,_,o,_,_,e,ex,_⟩:=I.hok p _ hk
     exact⟨o,e,ex⟩
    ·obtain⟨_,_,_,_,o,_,_,e,ex,_⟩:=I.hok p _ hk
     exact⟨o,e,ex⟩
   obtain⟨o,e,ex⟩:=z
   refine⟨⟨o,e,ex.1⟩,λ a e2=>?_⟩
   cases e2
   exact⟨o,e,ex.2.1⟩
  ·obtain⟨o,_,_,_,e,ex,_⟩:=I.hok p _ hk
   refine⟨⟨o,e,ex.1⟩,λ a e2=>?_⟩
   cases e2
   exact⟨o,e,ex.2.1⟩
 | _=>exact ZbA ty
variable {o e:Expr}{es:List Expr}{to:TE}{t:TA}{name:Str}{apos cpos:Pos}{T id:String}{r:V->List V->Hp->VK->Prop}
end
def MtM (X:Cx)(id:String)(r:V->List V->Hp->VK->Prop):Prop :=
 ∀(pj:PnT)(s:Zl)(σ:St)(H:Hp)(x:V)(xs:List V)(v:Zh)(us:List Zh)(Q:VK),Inv X pj σ H s->RelV x v->Vals xs us->r x xs H Q ->
  Zu (Z6 X.prog X.w) X.A (call (.builtin id) (v::us)) (EP X pj σ Q) X.xe s
theorem Vals.one:∀{x:V}{us:List Zh},Vals [x] us->∃u,us=[u]/\RelV x u
 | _,_,.cons r .nil=>⟨_,rfl,r⟩
theorem Vals.zero:∀{us:List Zh},Vals [] us->us=[]
 | _,.nil=>rfl
theorem Vals.dropLast {xs:List V}{us:List Zh}(h:Vals xs us):Vals xs.dropLast us.dropLast:=by
 induction h with
 | nil=>exact .nil
 | cons r t ih =>
  cases t with
  | nil=>exact .nil
  | cons q t'=>exact .cons r ih
theorem Vals.eraseIdx:∀{xs:List V}{us:List Zh}(i:Nat),Vals xs us->Vals (xs.eraseIdx i) (us.eraseIdx i)
 | _,_,_,.nil=>.nil
 | _,_,0,.cons _ t=>t
 | _,_,i+1,.cons r t=>.cons r (Vals.eraseIdx i t)
theorem Vals.reverse {xs:List V}{us:List Zh}(h:Vals xs us):Vals xs.reverse us.reverse:=by
 induction h with
 | nil=>exact .nil
 | cons r t ih=>rw[ZbL,ZbL];exact Vals.append ih (.cons r .nil)
theorem Vals.rep {xs:List V}{us:List Zh}(h:Vals xs us):∀k:Nat,Vals (ZS k xs).flatten (ZS k us).flatten
 | 0=>.nil
 | k+1=>by
  rw[Zbl,Zbl,ZbM,ZbM]
  exact Vals.append h (Vals.rep h k)
theorem Joj {α:Type}(l:List α):l.eraseIdx (l.length-1)=l.dropLast:=by
 induction l with
 | nil=>rfl
 | cons a r ih =>
  cases r with
  | nil=>rfl
  | cons b r =>
   have e:(a::b::r).length-1=((b::r).length-1)+1:=by
    have h1:(a::b::r).length=r.length+2:=rfl
    have h2:(b::r).length=r.length+1:=rfl
    omega
   rw[e,List.eraseIdx_cons_succ,ih]
   all_goals rfl
theorem Jkr {α:Type}:∀(l:List α)(i:Nat),(l.eraseIdx i).length<=l.length
 | [],_=>Zr _
 | _::_,0=>ZaG _
 | _::r,i+1=>Zdw (Jkr r i)
theorem Jkc (its:List Zh):∀(k:Nat)(acc:List Zh),
  List.foldl (λ x1 x2=>x1++x2) acc.toArray (ZS k its.toArray)=(acc++(ZS k its).flatten).toArray
 | 0,acc=>by simp
 | k+1,acc=>by
  have e:acc.toArray++its.toArray=(acc++its).toArray:=by simp
  have e2:(acc++its)++(ZS k its).flatten=acc++(ZS (k+1) its).flatten:=by
   rw[Zbl,ZbM,Zag]
  rw[<- e2,<-Jkc its k (acc++its),<-e,Zbl,List.foldl_cons]
section
variable {X:Cx}{pj:PnT}{σ:St}{H:Hp}{s:Zl}{l b:Zq}{xs ys zs:List V}
theorem Inv.lset {its its':List Zh}{n:Nat}{f:Array Zh->Array Zh}{t':Nat}(I:Inv X pj σ H s)(hH:H l=Za (.lst xs))
  (e:s.heap.get? l=Za { cls:=.type "list",data:=.seq its.toArray n })(hf:f its.toArray=its'.toArray)(hv:Vals ys its')(hz:ys.length<=sizeLine) :
  Inv X pj σ (upd H l (.lst ys)) { s with heap:=s.heap.update l (ZW f),toks:=t' }:=by
 have q:=PySem.IsL.update e f
 rw[hf] at q
 refine I.write (x:=l) (e:=l) (by rw[hH];exact trivial) (.inl rfl) (λ b' u hb hu=>(Zw s.heap (ZW f) (ZO hb)).trans hu) ⟨_,q⟩ ?_
 exact⟨hz,its',_,hv,q⟩
theorem Inv.lnew {its:List Zh}{t':Nat}(I:Inv X pj σ H s)(hv:Vals ys its)(hz:ys.length<=sizeLine) :
  Inv X pj σ (upd H s.heap.objs.size (.lst ys)) { s with heap:=s.heap.push { cls:=.type "list",data:=.seq its.toArray },toks:=t' } :=
 I.laid (λ _ _ q=>Ze _ q) (Zr _) ⟨hz,its,0,hv,Zv _ rfl⟩
theorem Inv.fresh (I:Inv X pj σ H s):H s.heap.objs.size=Zd:=I.hok.fresh (Zr _)
theorem Inv.lstM (I:Inv X pj σ H s)(hH:H l=Za (.lst xs)):xs.length<=sizeLine/\∃(its:List Zh) (n:Nat),Vals xs its/\xs.length=its.length/\s.heap.get? l=Za { cls:=.type "list",data:=.seq its.toArray n }:=by
 obtain⟨z,its,n,r,e⟩:=I.hok l _ hH
 exact⟨z,its,n,r,r.length,e⟩
theorem Jmx {n:Nat}(h:n<=sizeLine):ZbS n=Zm:=by
 unfold ZbS
 exact decide_eq_false (by omega)
end
section
variable {X:Cx}
def Jyc:V->List V->Hp->VK->Prop:=λ x vs H Q=>∃l xs y,x=.ref l/\vs=[y]/\H l=Za (.lst xs)/\xs.length<sizeLine/\Q .non (upd H l (.lst (xs++[y])))
theorem Jku:MtM X "list.append" Jyc:=by
 intro pj s σ H x vs v us Q I rx rv h
 obtain⟨l,xs,y,rfl,rfl,hH,hz,q⟩:=h
 cases rx
 obtain⟨u,rfl,ru⟩:=rv.one
 obtain⟨z,its,n,r,hl,e⟩:=I.lstM hH
 refine ZdS F.slot_list_append ⟨_,e,rfl⟩ F.entry_list_append (F.args_list_append_2 _ _) (PySem.list_append l its.toArray n u (by rw[Zx];omega)) ⟨e,?_⟩
 refine⟨.non,_,I.lset (its':=its++[u]) hH e (by simp) (r.append (.cons ru .nil)) ?_,rfl,q⟩
 rw[Z1,ZaI]
 omega
def Jyd:V->List V->Hp->VK->Prop:=λ x vs H Q=>∃l b xs zs,x=.ref l/\vs=[.ref b]/\H l=Za (.lst xs)/\H b=Za (.lst zs)/\xs.length+zs.length<=sizeLine/\Q .non (upd H l (.lst (xs++zs)))
theorem J0o:MtM X "list.extend" Jyd:=by
 intro pj s σ H x vs v us Q I rx rv h
 obtain⟨l,b,xs,zs,rfl,rfl,hH,hB,hz,q⟩:=h
 cases rx
 obtain⟨u,rfl,ru⟩:=rv.one
 cases ru
 obtain⟨z,its,n,r,hl,e⟩:=I.lstM hH
 obtain⟨z2,its2,n2,r2,hl2,e2⟩:=I.lstM hB
 have hsz:its.toArray.size+its2.toArray.size<=sizeLine:=by rw[Zx,Zx];omega
 have hlong:¬(!its.toArray.isEmpty&&ZbS (its.toArray.size+its2.toArray.size))=Zj:=by
  rw[Jmx hsz,Zfe]
  exact Zs
 refine ZdS F.slot_list_extend ⟨_,e,rfl⟩ F.entry_list_extend (F.args_list_extend_2 _ _)
  (AutoSeq1.list_extend_list_list_0 l its.toArray n b its2.toArray n2 hlong (by rw[Zx];omega) (by omega)) ⟨e,e2,?_⟩
 refine⟨.non,_,I.lset (its':=its++its2) hH e (by simp) (r.append r2) ?_,rfl,q⟩
 rw[Z1]
 omega
def rPop:V->List V->Hp->VK->Prop:=λ x vs H Q=>∃l xs y,x=.ref l/\vs=[]/\H l=Za (.lst xs)/\xs[xs.length-1]?=Za y/\Q y (upd H l (.lst xs.dropLast))
theorem J0p:MtM X "list.pop" rPop:=by
 intro pj s σ H x vs v us Q I rx rv h
 obtain⟨l,xs,y,rfl,rfl,hH,hy,q⟩:=h
 cases rx
 have hus:=rv.zero
 subst hus
 obtain⟨z,its,n,r,hl,e⟩:=I.lstM hH
 obtain⟨u,hu,ru⟩:=r.get hy
 have hy':its.toArray[its.toArray.size-1]?=Za u:=by
  show its.toArray[its.length-1]?=Za u
  rw[<- Zcu,<-hl]
  exact hu
 refine ZdS F.slot_list_pop ⟨_,e,rfl⟩ F.entry_list_pop (F.args_list_pop_1 _) (MeetsSeq.list_pop_last l its.toArray n u hy' (by rw[Zx];omega)) ⟨e,?_⟩
 refine⟨y,_,I.lset (its':=its.dropLast) hH e ?_ r.dropLast ?_,ru,q⟩
 ·show its.toArray.eraseIdxIfInBounds (its.toArray.size-1)=its.dropLast.toArray
  rw[Zx,Zdr,Joj]
 ·rw[List.length_dropLast]
  omega
def rCat:R2:=λ x y H Q=>∃l b xs zs,x=.ref l/\y=.ref b/\H l=Za (.lst xs)/\H b=Za (.lst zs)/\xs.length+zs.length<=sizeLine/\∀p,H p=Zd->Q (.ref p) (upd H p (.lst (xs++zs)))
theorem J0u:OpR X (Zbc .Add) rCat:=by
 intro pj s σ H x y v u Q I rx ry h
 obtain⟨l,b,xs,zs,rfl,rfl,hH,hB,hz,q⟩:=h
 cases rx
 cases ry
 obtain⟨z,its,n,r,hl,e⟩:=I.lstM hH
 obtain⟨z2,its2,n2,r2,hl2,e2⟩:=I.lstM hB
 refine PySem.P.add_list e e2 ?_ (by rw[Zx,Zx];omega)
 have ea:its.toArray++its2.toArray=(its++its2).toArray:=by simp
 rw[ea]
 exact⟨.ref _,_,I.lnew (t':=s.toks) (r.append r2) (by rw[Z1];omega),rfl,q _ I.fresh⟩
def rRep:R2:=λ x y H Q=>∃l k xs,x=.ref l/\y=.int k/\H l=Za (.lst xs)/\ -(2^63)<=k/\k<2^63/\xs.length*k.toNat<=sizeLine /\
 ∀p,H p=Zd->Q (.ref p) (upd H p (.lst (ZS k.toNat xs).flatten))
theorem Jxw {α:Type}(xs:List α)(k:Nat):(ZS k xs).flatten.length=k*xs.length:=by
 induction k with
 | zero=>simp
 | succ k ih=>rw[Zbl,ZbM,Z1,ih,Nat.succ_mul,Nat.add_comm]
theorem J0x:OpR X (Zbc .Mult) rRep:=by
 intro pj s σ H x y v u Q I rx ry h
 obtain⟨l,k,xs,rfl,rfl,hH,h1,h2,hz,q⟩:=h
 cases rx
 obtain⟨t,rfl⟩:=ry
 obtain⟨z,its,n,r,hl,e⟩:=I.lstM hH
 have hlen:its.toArray.size*k.toNat<=sizeLine:=by rw[Zx,<-hl];exact hz
 have hcap:¬its.toArray.size*k.toNat>(2^63-1)/8:=by
  have:(sizeLine:Nat)<=(2^63-1)/8:=by decide
  omega
 have hfit:¬(!Builtin.List.listFitsIndex k)=Zj:=by
  rw[fitsIndex_both h1 h2]
  exact Zs
 have hlong:¬ZbS (its.toArray.size*k.toNat)=Zj:=by
  rw[Jmx hlen]
  exact Zs
 have hnew:List.foldl (λ x1 x2=>x1++x2) #[] (ZS (if its.toArray.isEmpty=Zj then 0 else k.toNat) its.toArray)=(ZS k.toNat its).flatten.toArray:=by
  have f0:∀m:Nat,List.foldl (λ x1 x2=>x1++x2) #[] (ZS m its.toArray)=(ZS m its).flatten.toArray:=λ m=>by
   have:=Jkc its m []
   rw[ZaD] at this
   exact this
  rw[f0]
  cases its with
  | nil=>simp
  | cons a r'=>rw[if_neg (by simp)]
 refine wpAny_binaryOp_repeat_ref (T:="list") (U:="int") (by decide) ⟨_,e,rfl⟩ (λ s'=>typeIs_int s' k t) noFill_list_mul F.fills_int_mul F.slot_int_rmul repeat_list F.slot_int_index.lookup
  (ZdS F.slot_int_rmul (typeIs_int s k t) F.entry_int_rmul (F.args_int_rmul_2 _ _) (int___rmul___int_list k t l its.toArray n)
   ⟨e,rfl,⟨_,e,rfl⟩,ZdS F.slot_list_mul ⟨_,e,rfl⟩ F.entry_list_mul (F.args_list_mul_2 _ _) (AutoListH.list___mul___list_int_3 l its.toArray n k t hfit hcap hlong) ⟨e,?_⟩⟩)
 rw[hnew]
 exact⟨.ref _,_,I.lnew (t':=s.toks) (r.rep k.toNat) (by rw[Jxw,Nat.mul_comm];exact hz),rfl,q _ I.fresh⟩
end
section
variable {prog:ZC}{w:ZU}{A:ZJ}{E:QvT}{s:Zl}
end
section
variable {X:Cx}
end
section
variable {κ:Type}[DecidableEq κ]
def valV (kvs:List (κ×V))(k:κ):Option V:=(kvs.find? λ kv=>decide (kv.1=k)).map (·.2)
def putK (kvs:List (κ×V))(k:κ)(v:V):List (κ×V) :=
 if (kvs.any λ kv=>decide (kv.1=k))=Zj then kvs.map (λ kv=>if kv.1=k then(kv.1,v) else kv) else kvs++[(k,v)]
theorem Jjg {p:κ×V}{r:List (κ×V)}{k:κ}(e:p.1=k):valV (p::r) k=Za p.2:=by simp[valV,Zcp,e]
theorem Jjf {p:κ×V}{r:List (κ×V)}{k:κ}(e:¬p.1=k):valV (p::r) k=valV r k:=by simp[valV,Zcp,e]
theorem Jje (k:κ):∀kvs:List (κ×V),(kvs.any λ kv=>decide (kv.1=k))=(valV kvs k).isSome
 | []=>rfl
 | p::r=>by
  rw[ZcG]
  by_cases e:p.1=k
  ·simp only[Jjg e,decide_eq_true e,Bool.true_or,Option.isSome_some]
  ·rw[Jjf e,decide_eq_false e,Bool.false_or];exact Jje k r
theorem Jlz (kvs:List (κ×V))(k:κ)(v:V):(putK kvs k v).length<=kvs.length+1:=by
 unfold putK
 split
 ·rw[Zn];omega
 ·rw[Z1,ZN,Zbm];omega
theorem Jiw {kvs:List (κ×V)}{k:κ}(v:V)(h:valV kvs k=Zd):putK kvs k v=kvs++[(k,v)]:=by
 unfold putK
 rw[Jje,h]
 exact if_neg (by decide)
theorem RelO.isSome_eq {o:Option V}{u:Option Zh}(r:RelO o u):o.isSome=u.isSome:=by
 cases o with
 | none=>cases u with
  | none=>rfl
  | some _=>exact Zf r
 | some _=>cases u with
  | none=>exact Zf r
  | some _=>rfl
theorem KV.val {kvs:List (κ×V)}{vs:List (κ×Zh)}(r:KV kvs vs)(k:κ):RelO (valV kvs k) (Zf0 vs k):=by
 unfold KV at r
 induction r with
 | nil=>exact Zaz
 | @cons p q ps qs h t ih =>
  obtain⟨h1,h2⟩:=h
  by_cases e:p.1=k
  ·have e':q.1=k:=h1.symm.trans e
   have b:Zf0 (q::qs) k=Za q.2:=by simp[Zf0,Zcp,e']
   rw[Jjg e,b];exact h2
  ·have e':¬q.1=k:=λ z=>e (h1.trans z)
   have b:Zf0 (q::qs) k=Zf0 qs k:=by simp[Zf0,Zcp,e']
   rw[Jjf e,b];exact ih
theorem KV.any {kvs:List (κ×V)}{vs:List (κ×Zh)}(r:KV kvs vs)(k:κ):(kvs.any λ kv=>decide (kv.1=k))=vs.any λ kv=>decide (kv.1=k):=by
 unfold KV at r
 induction r with
 | nil=>rfl
 | cons h t ih=>rw[ZcG,ZcG,ih,h.1]
theorem KV.repl {kvs:List (κ×V)}{vs:List (κ×Zh)}(r:KV kvs vs)(k:κ){y:V}{u:Zh}(ry:RelV y u) :
  KV (kvs.map λ kv=>if kv.1=k then(kv.1,y) else kv) (vs.map λ kv=>if kv.1=k then(kv.1,u) else kv):=by
 unfold KV at r ⊢
 induction r with
 | nil=>exact .nil
 | @cons p q ps qs h t ih =>
  rw[Z7,Z7]
  refine .cons ?_ ih
  obtain⟨h1,h2⟩:=h
  by_cases e:p.1=k
  ·rw[if_pos e,if_pos (h1.symm.trans e)];exact⟨h1,ry⟩
  ·rw[if_neg e,if_neg (λ z=>e (h1.trans z))];exact⟨h1,h2⟩
theorem KV.put {kvs:List (κ×V)}{vs:List (κ×Zh)}(r:KV kvs vs)(k:κ){y:V}{u:Zh}(ry:RelV y u):KV (putK kvs k y) (stored vs k u):=by
 unfold putK stored
 rw[r.any k]
 by_cases e:(vs.any λ kv=>decide (kv.1=k))=Zj
 ·rw[if_pos e,if_pos e];exact r.repl k ry
 ·rw[if_neg e,if_neg e];exact Paired.snoc r ⟨rfl,ry⟩
theorem KV.length {kvs:List (κ×V)}{vs:List (κ×Zh)}(r:KV kvs vs):kvs.length=vs.length:=Zfp r
end
theorem Jt1 {P:ZC}{w:ZU}{k:Key}{u:Zh}(r:RelV (kV k) u):(QZ P w).is k u=Zj:=by
 cases k with
 | inl i=>obtain⟨t,e⟩:=(show ∃t,u=ZbI i t from r);subst e;exact Jl0 P w i t
 | inr x=>obtain⟨t,e⟩:=(show ∃t,u=Zfk x t from r);subst e;exact Jl1 P w x t
section
variable {P:ZC}{w:ZU}{H:Hp}{h:Zar}{a:Zq}
theorem J3q {u:HO}(ok:HOk P w H h)(e:Rd H a u):JC P w H h a u:=e.ok ok
theorem Jzm {kvs:List (Key×V)}(ok:HOk P w H h)(e:Rd H a (.dK kvs)):kvs.length<=sizeLine/\(a==ZcP)=Zm/\∃vs,KV kvs vs/\h.DictOf (QZ P w) a vs :=
 show JC P w H h a (.dK kvs) from J3q ok e
theorem Jtd {kvs:List (Key×V)}(ok:HOk P w H h)(e:H a=Za (.dK kvs)):kvs.length<=sizeLine/\(a==ZcP)=Zm/\∃vs,KV kvs vs/\h.DictOf (QZ P w) a vs:=Jzm ok (.inl e)
end
section
variable {X:Cx}{pj:PnT}{σ:St}{H:Hp}{s:Zl}{a:Zq}{y v:V}{u r:Zh}{o:Option V}{A:ZJ}{E:QvT}
theorem Inv.big (I:Inv X pj σ H s):ZcP<s.heap.objs.size:=by
 have h:Z4<s.heap.objs.size:=(I.mod.glob.keeps I.bk).lt
 exact Zf1 (by decide) h
theorem Jp4 {h':Zar}{t':Nat}{ob:HO}(I:Inv X pj σ H s)(mu:Mut (H a))(hs:Zb3 a s.heap h')(he:∃q,h'.get? a=Za q)(new:JC X.prog X.w (upd H a ob) h' a ob) :
  Inv X pj σ (upd H a ob) { s with heap:=h',toks:=t' } :=
 I.write (x:=a) (e:=a) mu (.inl rfl) (λ b q hb z=>(hs.2 b hb).trans z) he new
theorem Jvx {P:ZC}{w:ZU}{H':Hp}{h':Zar}{kvs:List (Key×V)}{vs:List (Key×Zh)}(z:kvs.length<=sizeLine)(hd:(a==ZcP)=Zm)(rel:KV kvs vs)(dd:h'.DictOf (QZ P w) a vs) :
  JC P w H' h' a (.dK kvs):=⟨z,hd,vs,rel,dd⟩
end
section
variable {X:Cx}{pj:PnT}{σ:St}{H:Hp}{s:Zl}{a:Zq}{kvs:List (Key×V)}{k:Key}{u:Zh}{A:ZJ}{E:QvT}
theorem J2k {Q:QvT}(I:Inv X pj σ H s)(e:Rd H a (.dK kvs))(h:∀t s',Inv X pj σ H s'->Q (.int kvs.length t) s'):Zu (Z6 X.prog X.w) A (call (.builtin "len") [.ref a]) Q E s:=by
 obtain⟨z,hd,vs,rel,dd⟩:=Jzm I.hok e
 refine call_len_dict hd dd (by rw[<- rel.length];rw[ZaL] at z;omega) ?_
 rw[<- rel.length]
 exact h _ _ (I.tok _)
end
section
variable {X:Cx}{o i e value:Expr}{pos pos' tpos:Pos}{td ty tv:TE}
end
theorem Jtc {P:ZC}{w:ZU}{H:Hp}(h:Zar)(hb:ZcP<h.objs.size):JC P w H (h.push { cls:=.type "dict",data:=.dict #[] }) h.objs.size (.dK []) :=
 ⟨ZK _,beq_eq_false_iff_ne.mpr (ZO (Z3 hb)),[],.nil,Heap.DictOf.new h⟩
section
variable {X:Cx}{pos:Pos}
end
section
variable {X:Cx}{pj:PnT}{σ:St}{H:Hp}{s:Zl}{a:Zq}{y d:V}{u r:Zh}{o:Option V}{A:ZJ}{E:QvT}
end
section
variable {X:Cx}{o e f:Expr}{apos cpos:Pos}{td ty tx:TE}
end
section
variable {X:Cx}{pj:PnT}{σ:St}{H:Hp}{s:Zl}{a:Zq}{kvs:List (Key×V)}{A:ZJ}{E:QvT}
end
end L2
namespace Att
open PySem PySem.W PySem.Calls PyProof.Rows
theorem Jgq {P:Params}{h:Zar}:∀(ns:List Int)(vs:List Zh),WellAll P h vs (ns.map WData.int)->Zbh vs ns:=by
 intro ns
 induction ns with
 | nil =>
  intro vs w
  rw[Zb5] at w
  cases w
  exact .nil
 | cons n ns ih =>
  intro vs w
  rw[Z7] at w
  cases w with
  | cons a b =>
   cases a
   exact .cons _ _ (ih _ b)
theorem Jr5 {l:OpenLaw}{n:Nat}(hn:l.most=Za n){P:Params}{h:Zar}{args:List WData}{vals:List Zh}
  (hpre:l.row.toRowW.claim.pre args=Zj)(hwl:WellAll P h vals args) :
  ∃a vs ns,vals=[ZdL a]/\args=[WData.list (ns.map WData.int)]/\h.get? a=Za { cls:=.type "list",data:=.seq vs.toArray }/\Zbh vs ns/\ns.length<=n:=by
 have hsh:WShape.hasAll [] args [.list .int]=Zj:=(pre_splitW hpre).1
 have hc:l.pre.holds [] { args:=args }=Zj:=(pre_splitW hpre).2
 obtain⟨d,r,rfl,h1,h2⟩:=hasAllW_cons hsh
 obtain rfl:=hasAllW_nil h2
 obtain⟨xs,rfl,h3⟩:=hasW_list h1
 obtain⟨ns,rfl⟩:=items_int h3
 have hlen:ns.length<=n:=by
  unfold OpenLaw.pre at hc
  have h4:(WTm.not (.lt (.lit (.int (n:Int))) (.len (.arg 0)))).holds [] { args:=[.list (ns.map .int)] }=Zj:=by
   have h4:=(holds_andW hc).1
   rw[hn] at h4
   exact h4
  have h5:=condW_of h4 (w_not (w_lt w_lit (w_len_list (w_arg rfl))))
  rw[Zn] at h5
  refine Zc4 λ q=>?_
  have q':(n:Int)<((ns.length:Nat):Int):=by omega
  first
   | (rw[decide_eq_true q'] at h5;exact absurd h5 (by decide))
   | (simp at h5;omega)
 cases hwl with
 | cons w1 w2 =>
  cases w2
  cases w1 with
  | list ho hall=>exact⟨_,_,ns,rfl,rfl,ho,Jgq ns _ hall,hlen⟩
theorem Jrt (l:OpenLaw)(args:List WData):l.row.toRowW.claim.post args (.bool Zj) args=Zj :=
 postW_of (r:=l.row.toRowW) (X:=(Zj==Zj))
  (show WShape.has [] (.bool Zj) .bool=Zj by first|rfl|decide|simp[WShape.has,WShape.arms,WShape.armsAll])
  (show(WTm.eq .res (.lit (.bool Zj))).value [] { args:=args,res:=Za (.bool Zj),after:=args }=Za (.bool (Zj==Zj)) from w_eq_bool (w_res rfl) w_lit) rfl
theorem attach_call {l:OpenLaw}{n:Nat}{q:ZC}{loose:List Str}{XP:(Str->Option Zh)->Zar->Prop}{YP:ZU->Zar->Prop}{d:DefRec}
  (hn:l.most=Za n)(hdf:d.params.defaults=[])
  (call:∀(w:ZU)(s₀ s₁:Zl)(mg mb:Str->Option Zh)(fa:Zq)(o:Obj)(pm cd doc:Zh)(a:Zq)(vs:List Zh)(ns:List Int),
   Ground q loose [] XP w s₀ mg mb s₁.heap->YP w s₁.heap ->
   s₁.heap.get? fa=Za o->o.data=.func (docDef d.name d.params d.body d.scope pm cd doc)->s₁.heap.CodeRec cd d.name->mg d.name=Za (.ref fa) ->
   s₁.heap.get? a=Za { cls:=.type "list",data:=.seq vs.toArray }->Zbh vs ns->ns.length<=n->s₁.gens=#[] ->
   Zc2 (Z6 l.prog w) Zfm (.call (.ref fa) ⟨[.ref a],[]⟩) (λ r s'=>r=.ok (.ret (.bool Zj))/\OldK s₁.heap s'.heap/\s'.os=s₁.os/\ZdG s'.gens) s₁) :
  WalkO q loose XP YP l.row.toRowW d [] (λ f vs=>PySem.call f vs):=by
 intro w s₀ s₁ mg mb G Y fa o pm cd doc dV kV ho hd hcd hD hmg hg args vals as hpre hlay hrd hwl hlo
 obtain rfl:dV=.none:=Dflts.none hD hdf
 obtain rfl:kV=.none:=Dflts.noKw hD
 obtain⟨a,vs,ns,rfl,rfl,hobj,hints,hlen⟩:=Jr5 hn hpre hwl
 refine enter_call (Zch (call w s₀ s₁ mg mb fa o pm cd doc a vs ns G Y ho (fd_plain hd) hcd hmg hobj hints hlen hg) λ r s' hq=>?_)
 obtain⟨rfl,h2,h3,h4⟩:=hq
 exact⟨.inl ⟨.bool Zj,.bool Zj,[],rfl,λ _=>rfl,.bool Zj,Jrt l _,λ _=>⟨List.Pairwise.nil,λ _ hm=>(nomatch hm)⟩⟩,h2,h3,h4⟩
section
variable {prog:ZC}{w:ZU}{A:ZJ}{E:QvT}{s:Zl}{K:Frag}
end
end Att
namespace L2
open PySem PySem.Spec PyProof.Rows
theorem XG:∀{vs:List Zh}{ns:List Int},Zbh vs ns->Vals (ns.map V.int) vs
 | _,_,.nil=>.nil
 | _,_,.cons n t h=>.cons ⟨t,rfl⟩ (XG h)
noncomputable def JM (s:ZdP)(j:Nat):ZdP:=match s with
 | .ClassDef _ _ _ body _ _ _ _ _ _ _=>body.getD j (.Pass ⟨0,0,0,0⟩)
 | _=>.Pass ⟨0,0,0,0⟩
def QJ (s:ZdP):Zcr:=match s with
 | .FunctionDef _ a _ _ _ _ _ _ _ _=>a
 | _=>{ posonlyargs:=[],args:=[],vararg:=Zd,kwonlyargs:=[],kw_defaults:=[],kwarg:=Zd,defaults:=[] }
def Qk (s:ZdP):List ZdP:=match s with
 | .FunctionDef _ _ b _ _ _ _ _ _ _=>b
 | _=>[]
def JK (s:ZdP):Zb1:=match s with
 | .FunctionDef _ _ _ _ _ _ sc _ _ _=>sc
 | _=>{ kind:=.function,names:=[],isGenerator:=Zm,isCoroutine:=Zm }
section
variable {P:ZC}{w:ZU}{K:W.Frag}{mg:Str->Option Zh}{base:Zar}
end
section
variable {X:Cx}
end
end L2
set_option maxHeartbeats 4000000
namespace L3
open PySem PySem.Spec PyProof.Rows L2
inductive IV where
 | non|bl (b:Bool)|int (i:Int)|str (x:Str)|tup (xs:List IV)|rol (xs:List IV)|ref (i:Nat)
inductive IX where
 | lst (xs:List IV)
 | ins (c:Str) (fs:List (Str×IV))
 | dct (kvs:List (Key×IV))
 | exc (c:Str) (fs:List (Str×IV))
 | tab (q:Str)
 | hld (c:Str) (fs:List (Str×IV))
abbrev IH:=List IX
abbrev ISt:=List (Option IV)
inductive Res (α:Type) where
 | ok (a:α) (h:IH)|exc (n:Nat) (h:IH)|stuck
noncomputable def Res.bind {α β:Type}:Res α->(α->IH->Res β)->Res β
 | .ok a h,f=>f a h
 | .exc n h,_=>.exc n h
 | .stuck,_=>.stuck
inductive SRes where
 | next (σ:ISt) (h:IH)|ret (v:IV) (h:IH)|brk (σ:ISt) (h:IH)|cont (σ:ISt) (h:IH)|exc (n:Nat) (σ:ISt) (h:IH)|stuck
def SqR (K:W.Frag)(H:Hp)(a:Zq)(xs:List V):Prop :=
 (∃o,H a=Za (.frz o (.lst xs))) ∨
  ∃(o:Obj) (its:Array Zh) (n:Nat),K.lookup a=Za o/\o.cls=.type "list"/\o.dict=Zd/\o.data=.seq its n/\its.size<=sizeLine/\Vals xs its.toList
theorem SqR.sq {K:W.Frag}{H:Hp}{a:Zq}{xs:List V}(h:SqR K H a xs):SqL K H a xs:=by
 rcases h with⟨o,h⟩|h
 ·exact .inl (.inr ⟨o,h⟩)
 ·exact .inr h
mutual
def RV (K:W.Frag)(ι:List Zq)(H:Hp):IV->V->Prop
 | .non,v=>v=.non
 | .bl b,v=>v=.bl b
 | .int i,v=>v=.int i
 | .str x,v=>v=.str x
 | .tup xs,v=>∃a vs,v=.ref a/\SqT K H a vs/\RVs K ι H xs vs
 | .rol xs,v=>∃a vs,v=.ref a/\SqR K H a vs/\RVs K ι H xs vs
 | .ref i,v=>∃a,v=.ref a/\ι[i]?=Za a
def RVs (K:W.Frag)(ι:List Zq)(H:Hp):List IV->List V->Prop
 | [],vs=>vs=[]
 | x::xs,vs=>∃v r,vs=v::r/\RV K ι H x v/\RVs K ι H xs r
end
structure Ext (H H':Hp):Prop where
 tups:∀b xs,H b=Za (.tup xs)->H' b=Za (.tup xs)
 frzs:∀b o u,H b=Za (.frz o u)->H' b=Za (.frz o u)
structure Nxt (ι:List Zq)(H:Hp)(ι':List Zq)(H':Hp):Prop where
 pre:∃m,ι'=ι++m
 ext:Ext H H'
theorem Nxt.refl:Nxt ι H ι H:=⟨⟨[],by simp⟩,⟨λ _ _ h=>h,λ _ _ _ h=>h⟩⟩
theorem Nxt.trans (a:Nxt ι H ι1 H1)(b:Nxt ι1 H1 ι2 H2):Nxt ι H ι2 H2:=by
 obtain⟨⟨m,e⟩,x⟩:=a
 obtain⟨⟨m',e'⟩,y⟩:=b
 exact⟨⟨m++m',by rw[e',e,Zag]⟩,⟨λ b xs h=>y.tups b xs (x.tups b xs h),λ b o u h=>y.frzs b o u (x.frzs b o u h)⟩⟩
theorem Nxt.at (n:Nxt ι H ι' H'){i:Nat}(h:ι[i]?=Za a):ι'[i]?=Za a:=by
 obtain⟨⟨m,e⟩,_⟩:=n
 subst e
 rw[ZH (Zt.mp h).1]
 exact h
theorem Ext.rd (x:Ext H H')(h:Rd H a (.tup xs)):Rd H' a (.tup xs):=by
 rcases h with h|⟨o,h⟩
 ·exact .inl (x.tups _ _ h)
 ·exact .inr ⟨o,x.frzs _ _ _ h⟩
theorem Ext.sqT {K:W.Frag}{H H':Hp}(x:Ext H H'){a:Zq}{xs:List V}(h:SqT K H a xs):SqT K H' a xs:=by
 rcases h with h|h
 ·exact .inl (x.rd h)
 ·exact .inr h
theorem Ext.sqR {K:W.Frag}{H H':Hp}(x:Ext H H'){a:Zq}{xs:List V}(h:SqR K H a xs):SqR K H' a xs:=by
 rcases h with⟨o,h⟩|h
 ·exact .inl ⟨o,x.frzs _ _ _ h⟩
 ·exact .inr h
mutual
theorem RV.mono {K:W.Frag}{ι ι':List Zq}{H H':Hp}(n:Nxt ι H ι' H'):∀(x:IV)(v:V),RV K ι H x v->RV K ι' H' x v
 | .non,_,h=>h
 | .bl _,_,h=>h
 | .int _,_,h=>h
 | .str _,_,h=>h
 | .tup xs,_,h=>by
  obtain⟨a,vs,e,q,r⟩:=h
  exact⟨a,vs,e,n.ext.sqT q,RVs.mono n xs vs r⟩
 | .rol xs,_,h=>by
  obtain⟨a,vs,e,q,r⟩:=h
  exact⟨a,vs,e,n.ext.sqR q,RVs.mono n xs vs r⟩
 | .ref i,_,h=>by
  obtain⟨a,e,q⟩:=h
  exact⟨a,e,n.at q⟩
theorem RVs.mono {K:W.Frag}{ι ι':List Zq}{H H':Hp}(n:Nxt ι H ι' H'):∀(xs:List IV)(vs:List V),RVs K ι H xs vs->RVs K ι' H' xs vs
 | [],_,h=>h
 | x::xs,_,h=>by
  obtain⟨v,r,e,q,t⟩:=h
  exact⟨v,r,e,RV.mono n x v q,RVs.mono n xs r t⟩
end
theorem RVs.length {K:W.Frag}{ι:List Zq}{H:Hp}:∀{xs:List IV}{vs:List V},RVs K ι H xs vs->vs.length=xs.length
 | [],_,h=>by
  have e:_=[]:=h
  subst e
  rfl
 | x::xs,_,h=>by
  obtain⟨v,r,e,_,t⟩:=h
  subst e
  simp[RVs.length t]
theorem RVs.get {K:W.Frag}{ι:List Zq}{H:Hp}:∀{xs:List IV}{vs:List V}{i:Nat}{x:IV},RVs K ι H xs vs->xs[i]?=Za x->∃v,vs[i]?=Za v/\RV K ι H x v
 | [],_,_,_,_,e=>by simp at e
 | x::xs,_,0,y,h,e=>by
  obtain⟨v,r,e1,q,t⟩:=h
  subst e1
  simp at e
  subst e
  exact⟨v,rfl,q⟩
 | x::xs,_,i+1,y,h,e=>by
  obtain⟨v,r,e1,q,t⟩:=h
  subst e1
  obtain⟨u,h1,h2⟩:=RVs.get (i:=i) (x:=y) t (by simpa using e)
  exact⟨u,by simpa using h1,h2⟩
theorem RVs.get' {K:W.Frag}{ι:List Zq}{H:Hp}{xs:List IV}{vs:List V}{i:Nat}{v:V}(h:RVs K ι H xs vs)(e:vs[i]?=Za v):∃x,xs[i]?=Za x/\RV K ι H x v:=by
 have hl:=h.length
 have hi:i<vs.length:=(Zt.mp e).1
 have hx:xs[i]?=Za xs[i]:=Zb (by omega)
 obtain⟨u,h1,h2⟩:=h.get hx
 rw[e] at h1
 cases h1
 exact⟨_,hx,h2⟩
theorem RVs.append {K:W.Frag}{ι:List Zq}{H:Hp}:∀{xs ys:List IV}{vs us:List V},RVs K ι H xs vs->RVs K ι H ys us->RVs K ι H (xs++ys) (vs++us)
 | [],_,_,_,h,g=>by
  have e:_=[]:=h
  subst e
  exact g
 | x::xs,_,_,_,h,g=>by
  obtain⟨v,r,e,q,t⟩:=h
  subst e
  exact⟨v,_,rfl,q,RVs.append t g⟩
theorem RVs.take {K:W.Frag}{ι:List Zq}{H:Hp}:∀{xs:List IV}{vs:List V}(n:Nat),RVs K ι H xs vs->RVs K ι H (xs.take n) (vs.take n)
 | _,_,0,_=>by simp;exact rfl
 | [],_,n+1,h=>by
  have e:_=[]:=h
  subst e
  exact rfl
 | x::xs,_,n+1,h=>by
  obtain⟨v,r,e,q,t⟩:=h
  subst e
  exact⟨v,r.take n,rfl,q,RVs.take n t⟩
theorem RVs.drop {K:W.Frag}{ι:List Zq}{H:Hp}:∀{xs:List IV}{vs:List V}(n:Nat),RVs K ι H xs vs->RVs K ι H (xs.drop n) (vs.drop n)
 | _,_,0,h=>h
 | [],_,n+1,h=>by
  have e:_=[]:=h
  subst e
  exact rfl
 | x::xs,_,n+1,h=>by
  obtain⟨v,r,e,q,t⟩:=h
  subst e
  exact RVs.drop n t
theorem RVs.set {K:W.Frag}{ι:List Zq}{H:Hp}{x:IV}{v:V}(q:RV K ι H x v):∀{xs:List IV}{vs:List V}(i:Nat),RVs K ι H xs vs->RVs K ι H (xs.set i x) (vs.set i v)
 | [],_,_,h=>by
  have e:_=[]:=h
  subst e
  exact rfl
 | y::xs,_,0,h=>by
  obtain⟨u,r,e,_,t⟩:=h
  subst e
  exact⟨v,r,rfl,q,t⟩
 | y::xs,_,i+1,h=>by
  obtain⟨u,r,e,p,t⟩:=h
  subst e
  exact⟨u,r.set i v,rfl,p,RVs.set q i t⟩
theorem RVs.one {K:W.Frag}{ι:List Zq}{H:Hp}{x:IV}{v:V}(q:RV K ι H x v):RVs K ι H [x] [v]:=⟨v,[],rfl,q,rfl⟩
theorem RVs.rev {K:W.Frag}{ι:List Zq}{H:Hp}:∀{xs:List IV}{vs:List V},RVs K ι H xs vs->RVs K ι H xs.reverse vs.reverse
 | [],_,h=>by
  have e:_=[]:=h
  subst e
  exact rfl
 | x::xs,_,h=>by
  obtain⟨v,r,e,q,t⟩:=h
  subst e
  rw[ZbL,ZbL]
  exact RVs.append (RVs.rev t) (RVs.one q)
theorem RVs.ints {K:W.Frag}{ι:List Zq}{H:Hp}:∀(ns:List Int),RVs K ι H (ns.map IV.int) (ns.map V.int)
 | []=>rfl
 | _::ns=>⟨_,_,rfl,rfl,RVs.ints ns⟩
def RPs {κ:Type}(K:W.Frag)(ι:List Zq)(H:Hp):List (κ×IV)->List (κ×V)->Prop
 | [],vs=>vs=[]
 | x::xs,vs=>∃v r,vs=(x.1,v)::r/\RV K ι H x.2 v/\RPs K ι H xs r
theorem RPs.mono {κ:Type}{K:W.Frag}{ι ι':List Zq}{H H':Hp}(n:Nxt ι H ι' H'):∀(xs:List (κ×IV))(vs:List (κ×V)),RPs K ι H xs vs->RPs K ι' H' xs vs
 | [],_,h=>h
 | x::xs,_,h=>by
  obtain⟨v,r,e,q,t⟩:=h
  exact⟨v,r,e,RV.mono n _ v q,RPs.mono n xs r t⟩
theorem RPs.length {κ:Type}{K:W.Frag}{ι:List Zq}{H:Hp}:∀{xs:List (κ×IV)}{vs:List (κ×V)},RPs K ι H xs vs->vs.length=xs.length
 | [],_,h=>by
  have e:_=[]:=h
  subst e
  rfl
 | x::xs,_,h=>by
  obtain⟨v,r,e,_,t⟩:=h
  subst e
  simp[RPs.length t]
theorem RPs.lookup {κ:Type}[BEq κ]{K:W.Frag}{ι:List Zq}{H:Hp}{f:κ}:∀{xs:List (κ×IV)}{vs:List (κ×V)},RPs K ι H xs vs ->
  (∀x,xs.lookup f=Za x->∃v,vs.lookup f=Za v/\RV K ι H x v)/\(xs.lookup f=Zd->vs.lookup f=Zd)
 | [],_,h=>by
  have e:_=[]:=h
  subst e
  exact⟨λ x e=>by simp at e,λ _=>rfl⟩
 | (k,x)::xs,_,h=>by
  obtain⟨v,r,e,q,t⟩:=h
  subst e
  have ih:=RPs.lookup (f:=f) t
  simp only[Zai]
  cases hb:f==k with
  | true=>exact⟨λ y e=>by cases e;exact⟨v,rfl,q⟩,λ e=>by cases e⟩
  | false=>exact ih
def Qz (H:Hp)(q:Str)(cv:Zh):Prop:=∃c oc vs t,cv=.ref c/\H c=Za (.frz oc (.own 0))/\oc.data=.fields vs/\vs[1]?=Za (.str (q++".<locals>."++"<lambda>") t)
def TabO (K:W.Frag)(H:Hp)(q:Str)(a:Zq):Prop:=(∀cdv,W.codeIn K cdv q=Zj->∃c,cdv=.ref c/\W.codeHdIn K c a=Zj) /\
 ∃ps,H a=Za (.tbl ps)/\TriplesOk ps.toList/\∀pos cv,Zeu pos ps.toList=Za cv->Qz H q cv
theorem TabO.mono {K:W.Frag}{H H':Hp}{q:Str}{a:Zq}(fz:∀b o u,H b=Za (.frz o u)->H' b=Za (.frz o u))(k:∀u,H a=Za u->H' a=Za u)(h:TabO K H q a):TabO K H' q a:=by
 obtain⟨h1,ps,e,ht,hc⟩:=h
 refine⟨h1,ps,k _ e,ht,λ pos cv q=>?_⟩
 obtain⟨c,oc,vs,t,e1,e2,r⟩:=hc pos cv q
 exact⟨c,oc,vs,t,e1,fz _ _ _ e2,r⟩
def ExF (a C:Zq)(tv:Zh)(d:Option Zq):HO:=.ext λ h=>∃oe vs,h.get? a=Za oe/\oe.cls=.ref C/\oe.data=.fields vs/\vs[1]?=Za tv/\vs[2]?=Za .none/\oe.dict=d
def XdOk (H:Hp)(d:Option Zq)(fs:List (Str×IV)):Prop:=(fs=[]/\d=Zd)∨∃f i dx od t,fs=[(f,.int i)]/\d=Za dx/\H dx=Za (.frz od (.own 0))/\W.lookIn f od=Za (Za (.int i t))
theorem XdOk.mono (fz:∀b o u,H b=Za (.frz o u)->H' b=Za (.frz o u))(h:XdOk H d fs):XdOk H' d fs:=by
 rcases h with h|⟨f,i,dx,od,t,e,q,r,z⟩
 ·exact .inl h
 ·exact .inr ⟨f,i,dx,od,t,e,q,fz _ _ _ r,z⟩
def TvOk (H:Hp)(tv:Zh):Prop:=tv=.none∨∃T oT ts,tv=.ref T/\H T=Za (.frz oT (.own 0))/\oT.data=.fields ts/\ts[3]?=Za .none
theorem TvOk.mono (fz:∀b o u,H b=Za (.frz o u)->H' b=Za (.frz o u))(h:TvOk H tv):TvOk H' tv:=by
 rcases h with h|⟨T,oT,ts,e,q,r⟩
 ·exact .inl h
 ·exact .inr ⟨T,oT,ts,e,fz _ _ _ q,r⟩
def RO (ce:CeT)(K:W.Frag)(ι:List Zq)(H:Hp)(a:Zq):IX->Prop
 | .lst xs=>∃vs,H a=Za (.lst vs)/\RVs K ι H xs vs
 | .ins c fs=>∃C dx vs,ce c=Za C/\H a=Za (.ins C dx vs)/\RPs K ι H fs vs
 | .dct kvs=>∃vs,H a=Za (.dK vs)/\RPs K ι H kvs vs
 | .exc c fs=>∃C tv d,XdOk H d fs/\W.nsIn K Z4 c=Za (Za (.ref C))/\H a=Za (ExF a C tv d)/\TvOk H tv
 | .tab q=>TabO K H q a
 | .hld c fs=>∃C oe u vs,XdOk H oe.dict fs/\W.nsIn K Z4 c=Za (Za (.ref C))/\H a=Za (.frz oe u)/\oe.cls=.ref C/\oe.data=.fields vs/\vs[2]?=Za .none
theorem RO.some {ce:CeT}{K:W.Frag}{ι:List Zq}{H:Hp}{a:Zq}{o:IX}(h:RO ce K ι H a o):∃u,H a=Za u:=by
 cases o with
 | lst xs=>obtain⟨vs,e,_⟩:=h;exact⟨_,e⟩
 | ins c fs=>obtain⟨_,_,vs,_,e,_⟩:=h;exact⟨_,e⟩
 | dct kvs=>obtain⟨vs,e,_⟩:=h;exact⟨_,e⟩
 | exc c fs=>obtain⟨C,tv,d,_,_,e,_⟩:=h;exact⟨_,e⟩
 | tab q=>obtain⟨_,ps,e,_⟩:=h;exact⟨_,e⟩
 | hld c fs=>obtain⟨_,_,_,_,_,_,e,_⟩:=h;exact⟨_,e⟩
theorem RO.mono {ce:CeT}{K:W.Frag}{ι ι':List Zq}{H H':Hp}{a:Zq}{o:IX}(n:Nxt ι H ι' H')(k:∀u,H a=Za u->H' a=Za u)(h:RO ce K ι H a o):RO ce K ι' H' a o:=by
 cases o with
 | lst xs=>obtain⟨vs,e,r⟩:=h;exact⟨vs,k _ e,RVs.mono n _ _ r⟩
 | ins c fs=>obtain⟨C,dx,vs,c1,e,r⟩:=h;exact⟨C,dx,vs,c1,k _ e,RPs.mono n _ _ r⟩
 | dct kvs=>obtain⟨vs,e,r⟩:=h;exact⟨vs,k _ e,RPs.mono n _ _ r⟩
 | exc c fs=>obtain⟨C,tv,d,e0,c1,e,r⟩:=h;exact⟨C,tv,d,e0.mono n.ext.frzs,c1,k _ e,r.mono n.ext.frzs⟩
 | tab q=>exact TabO.mono n.ext.frzs k h
 | hld c fs=>obtain⟨C,oe,u,vs,e0,c1,e,r⟩:=h;exact⟨C,oe,u,vs,e0.mono n.ext.frzs,c1,k _ e,r⟩
structure Rel (ce:CeT)(K:W.Frag)(ι:List Zq)(h:IH)(H:Hp):Prop where
 len:ι.length=h.length
 nd:ι.Nodup
 at_:∀(i:Nat)(o:IX),h[i]?=Za o->∃a,ι[i]?=Za a/\RO ce K ι H a o
section
variable {ce:CeT}{K:W.Frag}{ι:List Zq}{h:IH}{H:Hp}
theorem Rel.some (R:Rel ce K ι h H){i:Nat}(e:ι[i]?=Za a):∃u,H a=Za u:=by
 have hi:i<h.length:=by rw[<- R.len];exact(Zt.mp e).1
 obtain⟨b,e',r⟩:=R.at_ i _ (Zb hi)
 rw[e] at e'
 cases e'
 exact r.some
theorem Rel.notin (R:Rel ce K ι h H)(e:H l=Zd):l∉ι:=λ hl=>by
 obtain⟨i,hi,q⟩:=ZF.mp hl
 obtain⟨u,hu⟩:=R.some (i:=i) (a:=l) (by rw[Zb hi,q])
 rw[e] at hu
 cases hu
theorem Ext.upd_new (e:H l=Zd):Ext H (upd H l o) :=
 ⟨λ b xs q=>by rw[Jo (Va q e)];exact q,λ b o u q=>by rw[Jo (Va q e)];exact q⟩
theorem Rel.grow (R:Rel ce K ι h H)(e:H l=Zd):Rel ce K ι h (upd H l o)/\Nxt ι H ι (upd H l o):=by
 have n:Nxt ι H ι (upd H l o):=⟨⟨[],by simp⟩,Ext.upd_new e⟩
 refine⟨⟨R.len,R.nd,λ i u q=>?_⟩,n⟩
 obtain⟨a,e1,r⟩:=R.at_ i u q
 exact⟨a,e1,r.mono n λ w hw=>by rw[Jo (Va hw e)];exact hw⟩
theorem Rel.alloc (R:Rel ce K ι h H)(e:H l=Zd)(r:RO ce K (ι++[l]) (upd H l o) l io):Rel ce K (ι++[l]) (h++[io]) (upd H l o)/\Nxt ι H (ι++[l]) (upd H l o):=by
 have n:Nxt ι H (ι++[l]) (upd H l o):=⟨⟨[l],rfl⟩,Ext.upd_new e⟩
 refine⟨⟨by simp[R.len],?_,λ i u q=>?_⟩,n⟩
 ·rw[List.nodup_append]
  refine⟨R.nd,by simp,λ a ha b hb=>?_⟩
  have:b=l:=by simpa using hb
  subst this
  rintro rfl
  exact R.notin e ha
 ·by_cases hi:i<h.length
  ·rw[ZH hi] at q
   obtain⟨a,e1,r1⟩:=R.at_ i u q
   exact⟨a,n.at e1,r1.mono n λ w hw=>by rw[Jo (Va hw e)];exact hw⟩
  ·have hi2:i=h.length:=by
    have:=(Zt.mp q).1
    simp at this
    omega
   subst hi2
   rw[ZA (Zr _)] at q
   simp at q
   subst q
   refine⟨l,?_,r⟩
   rw[<- R.len,ZA (Zr _)]
   simp
theorem Rel.inj (R:Rel ce K ι h H){i j:Nat}(e1:ι[i]?=Za a)(e2:ι[j]?=Za a):i=j:=by
 obtain⟨h1,q1⟩:=Zt.mp e1
 obtain⟨h2,q2⟩:=Zt.mp e2
 exact(Zeq R.nd).mp (q1.trans q2.symm)
theorem Ext.upd_mut (e:H l=Za u)(m:Mut (H l)):Ext H (upd H l o):=by
 refine⟨λ b xs q=>?_,λ b ob w q=>?_⟩
 ·by_cases hb:b=l
  ·subst hb
   rw[q] at m
   exact Zf m
  ·rw[Jo hb];exact q
 ·by_cases hb:b=l
  ·subst hb
   rw[q] at m
   exact Zf m
  ·rw[Jo hb];exact q
theorem Rel.write (R:Rel ce K ι h H)(e:ι[i]?=Za a)(ha:H a=Za u)(m:Mut (H a))(r:RO ce K ι (upd H a o) a io):Rel ce K ι (h.set i io) (upd H a o)/\Nxt ι H ι (upd H a o):=by
 have n:Nxt ι H ι (upd H a o):=⟨⟨[],by simp⟩,Ext.upd_mut ha m⟩
 refine⟨⟨by simp[R.len],R.nd,λ j w q=>?_⟩,n⟩
 by_cases hj:j=i
 ·subst hj
  have hl:j<h.length:=by
   have:=(Zt.mp q).1
   simpa using this
  rw[ZZ hl] at q
  cases q
  exact⟨a,e,r⟩
 ·rw[Zad (ZO hj)] at q
  obtain⟨b,e1,r1⟩:=R.at_ j w q
  refine⟨b,e1,r1.mono n λ v hv=>?_⟩
  have:b≠a:=by
   rintro rfl
   exact hj (R.inj e1 e)
  rw[Jo this]
  exact hv
end
structure RSt (K:W.Frag)(ι:List Zq)(H:Hp)(σi:ISt)(σ:L2.St):Prop where
 len:σi.length=σ.length
 at_:∀(j:Nat)(v:IV),σi[j]?=Za (Za v)->∃u,σ[j]?=Za (Za u)/\RV K ι H v u
theorem RSt.mono {K:W.Frag}{ι ι':List Zq}{H H':Hp}{σi:ISt}{σ:L2.St}(n:Nxt ι H ι' H')(r:RSt K ι H σi σ):RSt K ι' H' σi σ :=
 ⟨r.len,λ j v e=>let ⟨u,e1,q⟩:=r.at_ j v e;⟨u,e1,RV.mono n _ _ q⟩⟩
theorem RSt.set {K:W.Frag}{ι:List Zq}{H:Hp}{σi:ISt}{σ:L2.St}(r:RSt K ι H σi σ)(i:Nat){x:IV}{v:V}(q:RV K ι H x v):RSt K ι H (σi.set i (Za x)) (σ.set i (Za v)):=by
 refine⟨by simp[r.len],λ j w e=>?_⟩
 by_cases hj:j=i
 ·subst hj
  have hl:j<σi.length:=by
   have:=(Zt.mp e).1
   simpa using this
  rw[ZZ hl] at e
  cases e
  exact⟨v,by rw[ZZ (by rw[<- r.len];exact hl)],q⟩
 ·rw[Zad (ZO hj)] at e
  obtain⟨u,e1,q1⟩:=r.at_ j w e
  exact⟨u,by rw[Zad (ZO hj)];exact e1,q1⟩
structure Now (ce:CeT)(X:Cx)(pj:PnT)(ι:List Zq)(σi:ISt)(h:IH)(σ:L2.St)(H:Hp)(s:Zl):Prop where
 inv:Inv X pj σ H s
 rel:Rel ce X.K ι h H
 st:RSt X.K ι H σi σ
def RU (K:W.Frag)(ι:List Zq)(H:Hp)(v:IV)(u:Zh):Prop:=∃x,RelV x u/\RV K ι H v x
theorem RU.mono {K:W.Frag}{ι ι':List Zq}{H H':Hp}{v:IV}{u:Zh}(n:Nxt ι H ι' H')(r:RU K ι H v u):RU K ι' H' v u :=
 let ⟨x,a,b⟩:=r;⟨x,a,RV.mono n _ _ b⟩
def RUs (K:W.Frag)(ι:List Zq)(H:Hp)(vs:List IV)(us:List Zh):Prop:=∃xs,Vals xs us/\RVs K ι H vs xs
theorem RUs.mono {K:W.Frag}{ι ι':List Zq}{H H':Hp}{v:List IV}{u:List Zh}(n:Nxt ι H ι' H')(r:RUs K ι H v u):RUs K ι' H' v u :=
 let ⟨x,a,b⟩:=r;⟨x,a,RVs.mono n _ _ b⟩
abbrev REL (α β:Type):=W.Frag->List Zq->Hp->α->β->Prop
def RB:REL Bool Bool:=λ _ _ _ b c=>c=b
section
variable {α β γ δ:Type}
def Kont (ce:CeT)(X:Cx)(R:REL α β)(pj:PnT)(ι:List Zq)(σi:ISt)(σ:L2.St)(H:Hp)(r:Res α)(Q:β->Zl->Prop)(E:QvT):Prop :=
 match r with
 | .ok v h'=>∀u s' H' ι',Now ce X pj ι' σi h' σ H' s'->Nxt ι H ι' H'->R X.K ι' H' v u->Q u s'
 | .exc n h'=>∀pl a s' H' ι',Now ce X (pj++pl) ι' σi h' σ H' s'->Nxt ι H ι' H'->ι'[n]?=Za a->E (.ref a) s'
 | .stuck=>False
variable {ce:CeT}{X:Cx}{R:REL α β}{R':REL γ δ}{pj:PnT}{ι ι':List Zq}{σi:ISt}{σ:L2.St}{H H':Hp}
theorem Kont.mono (k:Kont ce X R pj ι σi σ H r Q E)(n:Nxt ι H ι' H'):Kont ce X R pj ι' σi σ H' r Q E:=by
 cases r with
 | ok v h'=>exact λ u s' H2 ι2 N n2 q=>k u s' H2 ι2 N (n.trans n2) q
 | exc m h'=>exact λ pl a s' H2 ι2 N n2 q=>k pl a s' H2 ι2 N (n.trans n2) q
 | stuck=>exact k
def PX (ce:CeT)(X:Cx)(R:REL α β)(t:Sem β)(m:ISt->IH->Res α):Prop :=
 ∀(pj:PnT)(s:Zl)(σ:L2.St)(H:Hp)(ι:List Zq)(σi:ISt)(h:IH)(Q:β->Zl->Prop)(E:QvT),Now ce X pj ι σi h σ H s->Kont ce X R pj ι σi σ H (m σi h) Q E ->
  Zu (Z6 X.prog X.w) X.A t Q E s
theorem PX.run (p:PX ce X R t m)(N:Now ce X pj ι σi h σ H s){g:α->IH->Res γ}{Q:δ->Zl->Prop}{E:QvT}{Q1:β->Zl->Prop} 
  (K:Kont ce X R' pj ι σi σ H ((m σi h).bind g) Q E)
  (step:∀x h1 u s1 H1 ι1,Now ce X pj ι1 σi h1 σ H1 s1->Nxt ι H ι1 H1->R X.K ι1 H1 x u->Kont ce X R' pj ι1 σi σ H1 (g x h1) Q E->Q1 u s1):Zu (Z6 X.prog X.w) X.A t Q1 E s:=by
 refine p pj s σ H ι σi h Q1 E N ?_
 cases e:m σi h with
 | ok v h' =>
  rw[e] at K
  exact λ u s' H' ι' N' n' r=>step v h' u s' H' ι' N' n' r (Kont.mono (r:=g v h') K n')
 | exc n h' =>
  rw[e] at K
  exact K
 | stuck =>
  rw[e] at K
  exact K
end
abbrev PEi (ce:CeT)(X:Cx)(e:Expr)(m:ISt->IH->Res IV):Prop:=PX ce X RU (Zbr e X.env) m
abbrev PTi (ce:CeT)(X:Cx)(e:Expr)(m:ISt->IH->Res Bool):Prop:=PX ce X RB (isTrue e X.env (Zbr e X.env)) m
def PWi (ce:CeT)(X:Cx)(e:Expr)(m:ISt->IH->Res Bool):Prop:=∀whole:Sem Zh,PX ce X RB (isTrue e X.env whole) m
def PAi (ce:CeT)(X:Cx)(es:List Expr)(m:ISt->IH->Res (List IV)):Prop:=∀pos:Pos,PX ce X RUs (spliced (Zb6 pos (ZE es X.env))) m
abbrev E1:=ISt->IH->Res IV
abbrev T1:=ISt->IH->Res Bool
abbrev A1:=ISt->IH->Res (List IV)
noncomputable def Ja (i:Nat):E1:=λ σ h=>match σ[i]? with|some (Za v)=>.ok v h|_=>.stuck
noncomputable def eC (v:IV):E1:=λ _ h=>.ok v h
def Jc (f:IV->IV->IH->Res IV)(a b:E1):E1:=λ σ h=>(a σ h).bind λ x h1=>(b σ h1).bind λ y h2=>f x y h2
def eUn (f:IV->IH->Res IV)(a:E1):E1:=λ σ h=>(a σ h).bind λ x h1=>f x h1
def eAnd (a b:E1)(tr:IV->IH->Res Bool):E1:=λ σ h=>(a σ h).bind λ x h1=>(tr x h1).bind λ c h2=>if c then b σ h2 else .ok x h2
def eOr (a b:E1)(tr:IV->IH->Res Bool):E1:=λ σ h=>(a σ h).bind λ x h1=>(tr x h1).bind λ c h2=>if c then .ok x h2 else b σ h2
def eIf (t:T1)(a b:E1):E1:=λ σ h=>(t σ h).bind λ c h1=>if c then a σ h1 else b σ h1
def QD (a b:T1):T1:=λ σ h=>(a σ h).bind λ c h1=>if c then b σ h1 else .ok Zm h1
def tOrI (a b:T1):T1:=λ σ h=>(a σ h).bind λ c h1=>if c then .ok Zj h1 else b σ h1
def JD (a:T1):T1:=λ σ h=>(a σ h).bind λ c h1=>.ok (!c) h1
def Jh (tr:IV->IH->Res Bool)(a:E1):T1:=λ σ h=>(a σ h).bind λ x h1=>tr x h1
noncomputable def Jd:A1:=λ _ h=>.ok [] h
def Jb (a:E1)(r:A1):A1:=λ σ h=>(a σ h).bind λ x h1=>(r σ h1).bind λ xs h2=>.ok (x::xs) h2
def JS (f g:IV->IV->IH->Res IV)(a b c:E1):E1:=λ σ h=>(a σ h).bind λ x h1=>(b σ h1).bind λ y h2=>(f x y h2).bind λ k h3 =>
 match k with
 | .bl Zj=>(c σ h3).bind λ z h4=>g y z h4
 | .bl Zm=>.ok (.bl Zm) h3
 | _=>.stuck
section
variable {ce:CeT}{X:Cx}{a b c:Expr}{ma mb mc:E1}{pos:Pos}
def OpI (ce:CeT)(X:Cx)(f:Zh->Zh->Sem Zh)(g:IV->IV->IH->Res IV):Prop :=
 ∀(pj:PnT)(s:Zl)(σ:L2.St)(H:Hp)(ι:List Zq)(σi:ISt)(h:IH)(x y:IV)(v u:Zh)(Q:QvT)(E:QvT),Now ce X pj ι σi h σ H s->RU X.K ι H x v->RU X.K ι H y u ->
  Kont ce X RU pj ι σi σ H (g x y h) Q E->Zu (Z6 X.prog X.w) X.A (f v u) Q E s
def UnI (ce:CeT)(X:Cx)(f:Zh->Sem Zh)(g:IV->IH->Res IV):Prop :=
 ∀(pj:PnT)(s:Zl)(σ:L2.St)(H:Hp)(ι:List Zq)(σi:ISt)(h:IH)(x:IV)(v:Zh)(Q:QvT)(E:QvT),Now ce X pj ι σi h σ H s->RU X.K ι H x v ->
  Kont ce X RU pj ι σi σ H (g x h) Q E->Zu (Z6 X.prog X.w) X.A (f v) Q E s
def TrI (ce:CeT)(X:Cx)(g:IV->IH->Res Bool):Prop :=
 ∀(pj:PnT)(s:Zl)(σ:L2.St)(H:Hp)(ι:List Zq)(σi:ISt)(h:IH)(x:IV)(v:Zh)(Q:Bool->Zl->Prop)(E:QvT),Now ce X pj ι σi h σ H s->RU X.K ι H x v ->
  Kont ce X RB pj ι σi σ H (g x h) Q E->Zu (Z6 X.prog X.w) X.A (truthy v) Q E s
def Qt (ce:CeT)(X:Cx)(f:Zh)(g:List IV->IH->Res IV):Prop :=
 ∀(pj:PnT)(s:Zl)(σ:L2.St)(H:Hp)(ι:List Zq)(σi:ISt)(h:IH)(xs:List IV)(us:List Zh)(Q:QvT)(E:QvT),Now ce X pj ι σi h σ H s->RUs X.K ι H xs us ->
  Kont ce X RU pj ι σi σ H (g xs h) Q E->Zu (Z6 X.prog X.w) X.A (call f us) Q E s
theorem XF {pj:PnT}{s:Zl}{σ:L2.St}{H:Hp}{Q:QvT}{E:QvT}{e:Expr}{t:TE}(p:PE (X.wish E) e t)(I:Inv X pj σ H s)
  (k:t σ H λ z H'=>∀u s',Inv X pj σ H' s'->RelV z u->Q u s'):Zu (Z6 X.prog X.w) X.A (Zbr e X.env) Q E s :=
 Zas (p pj s σ H _ (I.wish E) k) (λ u s' ⟨_,_,I',r,q⟩=>q u s' I'.unwish r) λ _ _ z=>z
theorem JV {pj:PnT}{s:Zl}{σ:L2.St}{H:Hp}{Q:QvT}{E:QvT}{f:Zh->Zh->Sem Zh}{r:R2}{x y:V}{v u:Zh}(p:OpR (X.wish E) f r)(I:Inv X pj σ H s)(rx:RelV x v)(ry:RelV y u)
  (k:r x y H λ z H'=>∀u s',Inv X pj σ H' s'->RelV z u->Q u s'):Zu (Z6 X.prog X.w) X.A (f v u) Q E s :=
 Zas (p pj s σ H x y v u _ (I.wish E) rx ry k) (λ u s' ⟨_,_,I',r,q⟩=>q u s' I'.unwish r) λ _ _ z=>z
theorem J10 {pj:PnT}{s:Zl}{σ:L2.St}{H:Hp}{Q:QvT}{E:QvT}{f:Zh->Sem Zh}{r:V->Hp->VK->Prop}{x:V}{v:Zh}(p:UnR (X.wish E) f r)(I:Inv X pj σ H s)(rx:RelV x v)
  (k:r x H λ z H'=>∀u s',Inv X pj σ H' s'->RelV z u->Q u s'):Zu (Z6 X.prog X.w) X.A (f v) Q E s :=
 Zas (p pj s σ H x v _ (I.wish E) rx k) (λ u s' ⟨_,_,I',r,q⟩=>q u s' I'.unwish r) λ _ _ z=>z
theorem VB {pj:PnT}{s:Zl}{σ:L2.St}{H:Hp}{Q:Bool->Zl->Prop}{E:QvT}{r:V->Hp->(Bool->Hp->Prop)->Prop}{x:V}{v:Zh}(p:TruR (X.wish E) r)(I:Inv X pj σ H s)(rx:RelV x v)
  (k:r x H λ z H'=>∀s',Inv X pj σ H' s'->Q z s'):Zu (Z6 X.prog X.w) X.A (truthy v) Q E s :=
 Zas (p pj s σ H x v _ (I.wish E) rx k) (λ _ s' ⟨_,I',q⟩=>q s' I'.unwish) λ _ _ z=>z
theorem QP {pj:PnT}{s:Zl}{σ:L2.St}{H:Hp}{Q:QvT}{E:QvT}{f:Zh}{r:List V->Hp->VK->Prop}{xs:List V}{us:List Zh}(p:Xh (X.wish E) f r)(I:Inv X pj σ H s)(rx:Vals xs us)
  (k:r xs H λ z H'=>∀u s',Inv X pj σ H' s'->RelV z u->Q u s'):Zu (Z6 X.prog X.w) X.A (call f us) Q E s :=
 Zas (p pj s σ H xs us _ (I.wish E) rx k) (λ u s' ⟨_,_,I',r,q⟩=>q u s' I'.unwish r) λ _ _ z=>z
theorem J20 (i:Nat){pos:Pos}(hN:X.N[i]?=Za x:=by rfl)(hv:Vis X.env.scope x:=by assumption)(hd:(x==("__debug__":Str))=Zm:=by decide) 
  (hcd:(x==("__classdict__":Str))=Zm:=by decide):PEi ce X (.Name x pos) (Ja i):=by
 intro pj s σ H ι σi h Q E N K
 unfold Ja at K
 cases e:σi[i]? with
 | none =>
  rw[e] at K
  exact Zf K
 | some o =>
  cases o with
  | none =>
   rw[e] at K
   exact Zf K
  | some v =>
   rw[e] at K
   obtain⟨u,e1,q⟩:=N.st.at_ i v e
   exact XF (J04 (X:=X.wish E) hN hv hd hcd) N.inv ⟨u,e1,λ u' s' I' r'=>K u' s' H ι ⟨I',N.rel,N.st⟩ .refl ⟨u,r',q⟩⟩
theorem J2u {i j pos}:PEi ce X (.Constant (.int i) j pos) (eC (.int i)):=λ _ _ _ H ι _ _ _ E N K=>XF (J01 (X:=X.wish E)) N.inv λ u' s' I' r'=>K u' s' H ι ⟨I',N.rel,N.st⟩ .refl ⟨_,r',rfl⟩
theorem i_bl {i j pos}:PEi ce X (.Constant (.bool i) j pos) (eC (.bl i)):=λ _ _ _ H ι _ _ _ E N K=>XF (J3j (X:=X.wish E)) N.inv λ u' s' I' r'=>K u' s' H ι ⟨I',N.rel,N.st⟩ .refl ⟨_,r',rfl⟩
theorem J2x {j pos}:PEi ce X (.Constant .none j pos) (eC .non):=λ _ _ _ H ι _ _ _ E N K=>XF (J02 (X:=X.wish E)) N.inv λ u' s' I' r'=>K u' s' H ι ⟨I',N.rel,N.st⟩ .refl ⟨_,r',rfl⟩
theorem J2y {i j pos}:PEi ce X (.Constant (.str i) j pos) (eC (.str i)):=λ _ _ _ H ι _ _ _ E N K=>XF (J03 (X:=X.wish E)) N.inv λ u' s' I' r'=>K u' s' H ι ⟨I',N.rel,N.st⟩ .refl ⟨_,r',rfl⟩
theorem Jz0 (hg:Gl X x)(hm:X.mg x=Za u)(r:RelV v u)(q:∀ι H,RV X.K ι H iv v)(hd:(x==("__debug__":Str))=Zm:=by decide):PEi ce X (.Name x pos) (eC iv) :=
 λ _ _ _ H ι _ _ _ E N K=>XF (Jya (X:=X.wish E) hg hm r hd) N.inv λ u' s' I' r'=>K u' s' H ι ⟨I',N.rel,N.st⟩ .refl ⟨_,r',q _ _⟩
theorem J2q (ho:OpI ce X (Zbc op) f)(ha:PEi ce X a ma)(hb:PEi ce X b mb):PEi ce X (.BinOp a op b pos) (Jc f ma mb) :=
 λ pj s σ H ι σi h Q E N K=>wpAny_BinOp (ha.run N K λ x h1 u s1 H1 ι1 N1 n1 r1 K1=>hb.run N1 K1 λ y h2 w s2 H2 ι2 N2 n2 r2 K2=>ho pj s2 σ H2 ι2 σi h2 x y u w Q E N2 (r1.mono n2) r2 K2)
theorem i_un (ho:UnI ce X (unaryOp op) f)(ha:PEi ce X a ma):PEi ce X (.UnaryOp op a pos) (eUn f ma) :=
 λ pj s σ H ι σi h Q E N K=>UnaryOp_ (ha.run N K λ x h1 u s1 H1 ι1 N1 n1 r1 K1=>ho pj s1 σ H1 ι1 σi h1 x u Q E N1 r1 K1)
theorem J2s (ho:OpI ce X (Za5 op) f)(ha:PEi ce X a ma)(hb:PEi ce X b mb)(hm:ZcH op b=Zm:=by assumption):PEi ce X (.Compare a [op] [b] pos) (Jc f ma mb) :=
 λ pj s σ H ι σi h Q E N K=>wpAny_Compare1 (ha.run N K λ x h1 u s1 H1 ι1 N1 n1 r1 K1=>hb.run N1 K1 λ y h2 w s2 H2 ι2 N2 n2 r2 K2=>ho pj s2 σ H2 ι2 σi h2 x y u w Q E N2 (r1.mono n2) r2 K2) hm
noncomputable def asB:IV->IH->Res Bool
 | .bl b,h=>.ok b h
 | _,_=>.stuck
theorem Kont.asB {r:Res IV}(K:Kont ce X RB pj ι σi σ H (r.bind asB) Q E) :
  Kont ce X RU pj ι σi σ H r (λ v s=>Zu (Z6 X.prog X.w) X.A (truthy v) Q E s) E:=by
 cases r with
 | exc n h=>exact K
 | stuck=>exact K
 | ok v h =>
  intro u s' H' ι' N n q
  obtain⟨x,rx,q⟩:=q
  cases v with
  | bl b =>
   have e:x=.bl b:=q
   subst e
   cases rx
   exact Zbg (K b s' H' ι' N n rfl)
  | _=>exact Zf K
theorem Res.bind_bind (r:Res α)(f:α->IH->Res β)(g:β->IH->Res γ):(r.bind f).bind g=r.bind λ x h=>(f x h).bind g:=by
 cases r<;>rfl
theorem J3y (ho:OpI ce X (Za5 op) f)(ha:PEi ce X a ma)(hb:PEi ce X b mb)(hm:ZcH op b=Zm:=by assumption):PTi ce X (.Compare a [op] [b] pos) (Jh asB (Jc f ma mb)) :=
 λ pj s σ H ι σi h Q E N K=>by
  have K':Kont ce X RB pj ι σi σ H ((ma σi h).bind λ x h1=>(mb σi h1).bind λ y h2=>(f x y h2).bind asB) Q E:=by
   unfold Jh Jc at K
   rw[Res.bind_bind] at K
   simp only[Res.bind_bind] at K
   exact K
  exact wpAny_isTrue_Compare1 (ha.run N K' λ x h1 u s1 H1 ι1 N1 n1 r1 K1=>hb.run N1 K1 λ y h2 w s2 H2 ι2 N2 n2 r2 K2=>ho pj s2 σ H2 ι2 σi h2 x y u w _ E N2 (r1.mono n2) r2 (Kont.asB K2)) hm
theorem J1t {tr:IV->IH->Res Bool}(ht:TrI ce X tr)(ha:PEi ce X a ma)(he:∀whole,isTrue a X.env whole=(do let v<-whole;Zf2 a.pos;Zci [v] (truthy v)):=by intro _;rfl):PTi ce X a (Jh tr ma) :=
 λ pj s σ H ι σi h Q E N K=>isTrue_plain (ha.run N K λ x h1 u s1 H1 ι1 N1 n1 r1 K1=>ht pj s1 σ H1 ι1 σi h1 x u Q E N1 r1 K1) (he _)
variable {rest:List Expr}{ta tb:T1}
theorem Jy1 (ha:PTi ce X a ta):PWi ce X (.BoolOp .And [a] pos) ta:=λ wh pj s σ H ι σi h Q E N K=>by
 refine isTrue_and (ha pj s σ H ι σi h _ E N ?_)
 cases e:ta σi h with
 | ok v h' =>
  rw[e] at K
  intro u s' H' ι' N' n' r
  have r':u=v:=r
  subst r'
  cases u with
  | true=>exact isTrue_and_nil (K Zj s' H' ι' N' n' rfl)
  | false=>exact K Zm s' H' ι' N' n' rfl
 | exc n h'=>rw[e] at K;exact K
 | stuck=>rw[e] at K;exact K
theorem J1x (ha:PTi ce X a ta):PWi ce X (.BoolOp .Or [a] pos) ta:=λ wh pj s σ H ι σi h Q E N K=>by
 refine isTrue_or (ha pj s σ H ι σi h _ E N ?_)
 cases e:ta σi h with
 | ok v h' =>
  rw[e] at K
  intro u s' H' ι' N' n' r
  have r':u=v:=r
  subst r'
  cases u with
  | false=>exact isTrue_or_nil (K Zm s' H' ι' N' n' rfl)
  | true=>exact K Zj s' H' ι' N' n' rfl
 | exc n h'=>rw[e] at K;exact K
 | stuck=>rw[e] at K;exact K
theorem J1w (ha:PTi ce X a ta)(hb:PWi ce X (.BoolOp .And (b::rest) pos) tb):PWi ce X (.BoolOp .And (a::b::rest) pos) (QD ta tb):=λ wh pj s σ H ι σi h Q E N K =>
 isTrue_and (ha.run N K λ c h1 u s1 H1 ι1 N1 n1 r1 K1=>by
  have r':u=c:=r1
  subst r'
  cases u with
  | true=>exact hb wh pj s1 σ H1 ι1 σi h1 Q E N1 K1
  | false=>exact K1 Zm s1 H1 ι1 N1 .refl rfl)
theorem J32 (ha:PTi ce X a ta)(hb:PWi ce X (.BoolOp .Or (b::rest) pos) tb):PWi ce X (.BoolOp .Or (a::b::rest) pos) (tOrI ta tb):=λ wh pj s σ H ι σi h Q E N K =>
 isTrue_or (ha.run N K λ c h1 u s1 H1 ι1 N1 n1 r1 K1=>by
  have r':u=c:=r1
  subst r'
  cases u with
  | false=>exact hb wh pj s1 σ H1 ι1 σi h1 Q E N1 K1
  | true=>exact K1 Zj s1 H1 ι1 N1 .refl rfl)
theorem PWi.t (h:PWi ce X a ta):PTi ce X a ta:=h _
theorem J3z (ha:PTi ce X a ta):PTi ce X (.UnaryOp .Not a pos) (JD ta):=λ pj s σ H ι σi h Q E N K =>
 isTrue_not (ha.run N K λ c h1 u s1 H1 ι1 N1 n1 r1 K1=>by
  have r':u=c:=r1
  subst r'
  exact K1 (!u) s1 H1 ι1 N1 .refl rfl)
theorem Jz5 {op}(h:PEi ce X a ma):PEi ce X (.BoolOp op [a] pos) ma:=λ pj s σ H ι σi h' Q E N K=>BoolOp_one (h pj s σ H ι σi h' Q E N K)
theorem J2p (ht:TrI ce X tr)(ha:PEi ce X a ma)(hb:PEi ce X (.BoolOp .And (b::rest) pos) mb):PEi ce X (.BoolOp .And (a::b::rest) pos) (eAnd ma mb tr):=λ pj s σ H ι σi h Q E N K =>
 BoolOp_and (ha.run N K λ x h1 u s1 H1 ι1 N1 n1 r1 K1=>by
  refine ht pj s1 σ H1 ι1 σi h1 x u _ E N1 r1 ?_
  cases e:tr x h1 with
  | ok c h2 =>
   rw[e] at K1
   intro d s2 H2 ι2 N2 n2 r2
   have r':d=c:=r2
   subst r'
   have K2:=Kont.mono (r:=if d=Zj then mb σi h2 else .ok x h2) K1 n2
   cases d with
   | true=>exact hb pj s2 σ H2 ι2 σi h2 Q E N2 K2
   | false=>exact K2 u s2 H2 ι2 N2 .refl (r1.mono n2)
  | exc n h'=>rw[e] at K1;exact K1
  | stuck=>rw[e] at K1;exact K1)
theorem i_or (ht:TrI ce X tr)(ha:PEi ce X a ma)(hb:PEi ce X (.BoolOp .Or (b::rest) pos) mb):PEi ce X (.BoolOp .Or (a::b::rest) pos) (eOr ma mb tr):=λ pj s σ H ι σi h Q E N K =>
 BoolOp_or (ha.run N K λ x h1 u s1 H1 ι1 N1 n1 r1 K1=>by
  refine ht pj s1 σ H1 ι1 σi h1 x u _ E N1 r1 ?_
  cases e:tr x h1 with
  | ok c h2 =>
   rw[e] at K1
   intro d s2 H2 ι2 N2 n2 r2
   have r':d=c:=r2
   subst r'
   have K2:=Kont.mono (r:=if d=Zj then .ok x h2 else mb σi h2) K1 n2
   cases d with
   | false=>exact hb pj s2 σ H2 ι2 σi h2 Q E N2 K2
   | true=>exact K2 u s2 H2 ι2 N2 .refl (r1.mono n2)
  | exc n h'=>rw[e] at K1;exact K1
  | stuck=>rw[e] at K1;exact K1)
def X1 (tr:IV->IH->Res Bool):IV->IH->Res IV:=λ x h=>(tr x h).bind λ c h1=>.ok (.bl (!c)) h1
theorem Jy2 (ht:TrI ce X tr):UnI ce X (unaryOp .Not) (X1 tr):=λ pj s σ H ι σi h x v Q E N r K=>by
 refine not_of (ht pj s σ H ι σi h x v _ E N r ?_)
 unfold X1 at K
 cases e:tr x h with
 | ok c h2 =>
  rw[e] at K
  intro d s2 H2 ι2 N2 n2 r2
  have r':d=c:=r2
  subst r'
  exact K _ s2 H2 ι2 N2 n2 ⟨.bl (!d),rfl,rfl⟩
 | exc n h'=>rw[e] at K;exact K
 | stuck=>rw[e] at K;exact K
theorem Jxo {t:Expr}{mt:T1}(ht:PTi ce X t mt)(ha:PEi ce X a ma)(hb:PEi ce X b mb):PEi ce X (.IfExp t a b pos) (eIf mt ma mb):=λ pj s σ H ι σi h Q E N K =>
 wpAny_IfExp (ht.run N K λ c h1 u s1 H1 ι1 N1 n1 r1 K1=>by
  have r':u=c:=r1
  subst r'
  cases u with
  | true=>exact ha pj s1 σ H1 ι1 σi h1 Q E N1 K1
  | false=>exact hb pj s1 σ H1 ι1 σi h1 Q E N1 K1)
theorem Jxn (ho:OpI ce X (Za5 op) f)(ho':OpI ce X (Za5 op') g)(ha:PEi ce X a ma)(hb:PEi ce X b mb)(hc:PEi ce X c mc) 
  (hm:Zev [op,op'] [b,c]=Zm:=by with_unfolding_all rfl):PEi ce X (.Compare a [op,op'] [b,c] pos) (JS f g ma mb mc):=λ pj s σ H ι σi h Q E N K =>
 Compare_chain (ha.run N K λ x h1 u s1 H1 ι1 N1 n1 r1 K1=>chain_link (hb.run N1 K1 λ y h2 w s2 H2 ι2 N2 n2 r2 K2=>by
  refine ho pj s2 σ H2 ι2 σi h2 x y u w _ E N2 (r1.mono n2) r2 ?_
  cases e:f x y h2 with
  | exc n h'=>rw[e] at K2;exact K2
  | stuck=>rw[e] at K2;exact K2
  | ok k h3 =>
   rw[e] at K2
   intro d s3 H3 ι3 N3 n3 r3
   obtain⟨z,rz,q⟩:=r3
   cases k with
   | bl k =>
    have e':z=.bl k:=q
    subst e'
    cases rz
    refine Zbg ?_
    have K3:=Kont.mono (r:=match IV.bl k with|.bl Zj=>(mc σi h3).bind λ z h4=>g y z h4|.bl Zm=>.ok (.bl Zm) h3|_=>.stuck) K2 n3
    cases k with
    | false=>exact ite_ff (K3 _ s3 H3 ι3 N3 .refl ⟨.bl Zm,rfl,rfl⟩)
    | true=>exact ite_tt (chain_last (hc.run N3 K3 λ z h4 w' s4 H4 ι4 N4 n4 r4 K4=>ho' pj s4 σ H4 ι4 σi h4 y z w w' Q E N4 ((r2.mono n3).mono n4) r4 K4))
   | _=>exact Zf K2)) hm
theorem Jyw (ho:OpI ce X (Za5 op) f)(ho':OpI ce X (Za5 op') g)(ha:PEi ce X a ma)(hb:PEi ce X b mb)(hc:PEi ce X c mc) 
  (hm:Zev [op,op'] [b,c]=Zm:=by with_unfolding_all rfl):PTi ce X (.Compare a [op,op'] [b,c] pos) (Jh asB (JS f g ma mb mc)):=λ pj s σ H ι σi h Q E N K=>by
 have K':Kont ce X RB pj ι σi σ H ((ma σi h).bind λ x h1=>(mb σi h1).bind λ y h2=>(f x y h2).bind λ k h3=>(match k with|.bl Zj=>(mc σi h3).bind λ z h4=>g y z h4|.bl Zm=>.ok (.bl Zm) h3|_=>.stuck:Res IV).bind asB) Q E:=by
  unfold Jh JS at K
  rw[Res.bind_bind] at K
  simp only[Res.bind_bind] at K
  exact K
 refine isTrue_chain (ha.run N K' λ x h1 u s1 H1 ι1 N1 n1 r1 K1=>test_link (hb.run N1 K1 λ y h2 w s2 H2 ι2 N2 n2 r2 K2=>?_)) hm
 refine ho pj s2 σ H2 ι2 σi h2 x y u w _ E N2 (r1.mono n2) r2 ?_
 cases e:f x y h2 with
 | exc n h'=>rw[e] at K2;exact K2
 | stuck=>rw[e] at K2;exact K2
 | ok k h3 =>
  rw[e] at K2
  intro d s3 H3 ι3 N3 n3 r3
  obtain⟨z,rz,q⟩:=r3
  cases k with
  | bl k =>
   have e':z=.bl k:=q
   subst e'
   cases rz
   refine Zbg ?_
   have K3:=Kont.mono (r:=(match IV.bl k with|.bl Zj=>(mc σi h3).bind λ z h4=>g y z h4|.bl Zm=>.ok (.bl Zm) h3|_=>.stuck:Res IV).bind asB) K2 n3
   cases k with
   | false=>exact ite_ff (K3 _ s3 H3 ι3 N3 .refl rfl)
   | true =>
    have K3':Kont ce X RB pj ι3 σi σ H3 ((mc σi h3).bind λ z h4=>(g y z h4).bind asB) Q E:=by
     have:=K3
     dsimp only at this
     rw[Res.bind_bind] at this
     exact this
    exact ite_tt (test_last (hc.run N3 K3' λ z h4 w' s4 H4 ι4 N4 n4 r4 K4=>ho' pj s4 σ H4 ι4 σi h4 y z w w' _ E N4 ((r2.mono n3).mono n4) r4 (Kont.asB K4)))
  | _=>exact Zf K2
variable {es:List Expr}{mr:A1}
theorem RUs.nil {K:W.Frag}{ι:List Zq}{H:Hp}:RUs K ι H [] []:=⟨[],.nil,rfl⟩
theorem RUs.cons {K:W.Frag}{ι:List Zq}{H:Hp}{x:IV}{u:Zh}{xs:List IV}{us:List Zh}(a:RU K ι H x u)(b:RUs K ι H xs us):RUs K ι H (x::xs) (u::us) :=
 let ⟨v,r,q⟩:=a;let ⟨vs,rs,qs⟩:=b;⟨v::vs,.cons r rs,v,vs,rfl,q,qs⟩
theorem Q2:PAi ce X [] Jd:=λ _ pj s σ H ι σi h Q E N K=>Calls.spliced_nil (K [] s H ι N .refl .nil)
theorem Qu (ha:PEi ce X a ma)(hr:PAi ce X es mr)(hs:ZE (a::es) X.env=(Zm,Zbr a X.env)::ZE es X.env:=by rfl):PAi ce X (a::es) (Jb ma mr):=by
 intro pos pj s σ H ι σi h Q E N K
 rw[hs]
 show Zu _ _ (spliced ((Zm,Zbr a X.env)::Zb6 pos (ZE es X.env))) _ _ s
 exact ZdT (ha.run N K λ x h1 u s1 H1 ι1 N1 n1 r1 K1=>(hr pos).run N1 K1 λ xs h2 us s2 H2 ι2 N2 n2 r2 K2=>K2 _ s2 H2 ι2 N2 .refl (.cons (r1.mono n2) r2))
end
noncomputable def Jn:IV->IV->IH->Res IV
 | .int i,.int j,h=>.ok (.int (i+j)) h
 | .str x,.str y,h=>if x.length+y.length<=sizeLine then .ok (.str (x++y)) h else .stuck
 | .ref i,.ref j,h=>match h[i]?,h[j]? with
  | some (.lst xs),Za (.lst ys)=>if xs.length+ys.length<=sizeLine then .ok (.ref h.length) (h++[.lst (xs++ys)]) else .stuck
  | _,_=>.stuck
 | .tup xs,.tup ys,h=>if xs≠[]/\ys≠[]/\xs.length+ys.length<=sizeLine then .ok (.tup (xs++ys)) h else .stuck
 | _,_,_=>.stuck
noncomputable def Qp:IV->IV->IH->Res IV
 | .int i,.int j,h=>.ok (.int (i-j)) h
 | _,_,_=>.stuck
def QR (i j:Int):Prop:=i.natAbs<2^64∨j.natAbs<2^64∨(i.natAbs.log2<1048576/\j.natAbs.log2<1048576)
instance (i j:Int):Decidable (QR i j):=by unfold QR;exact inferInstance
def Xz:IV->IV->IH->Res IV
 | .int i,.int j,h=>if QR i j then .ok (.int (i*j)) h else .stuck
 | .ref i,.int k,h=>match h[i]? with
  | some (.lst xs)=>if -(2^63)<=k/\k<2^63/\xs.length*k.toNat<=sizeLine then .ok (.ref h.length) (h++[.lst (ZS k.toNat xs).flatten]) else .stuck
  | _=>.stuck
 | _,_,_=>.stuck
def JT:IV->IV->IH->Res IV
 | .int i,.int j,h=>if 0<j/\j.natAbs.log2<9000 then .ok (.int (i/j)) h else .stuck
 | _,_,_=>.stuck
def J2:IV->IV->IH->Res IV
 | .int i,.int j,h=>if 0<j then .ok (.int (i%j)) h else .stuck
 | _,_,_=>.stuck
def JF:IV->IV->IH->Res IV
 | .int i,.int j,h=>if 0<=j/\j<=1000000/\i.natAbs<2^64 then .ok (.int (i^j.toNat)) h else .stuck
 | _,_,_=>.stuck
noncomputable def Yn:IV->IH->Res IV
 | .int i,h=>.ok (.int (-i)) h
 | _,_=>.stuck
section
variable {ce:CeT}{X:Cx}
theorem fin0 {w:V}(N:Now ce X pj ι σi h σ H s)(K:Kont ce X RU pj ι σi σ H (.ok v h) Q E) 
  (q:RV X.K ι H v w):∀u s',Inv X pj σ H s'->RelV w u->Q u s':=λ u s' I r=>K u s' H ι ⟨I,N.rel,N.st⟩ .refl ⟨w,r,q⟩
theorem finA {io:IX}{o:HO}{Q:QvT}{E:QvT}(N:Now ce X pj ι σi h σ H s) 
  (K:Kont ce X RU pj ι σi σ H (.ok (.ref h.length) (h++[io])) Q E)(l:Zq)(e:H l=Zd)(r:RO ce X.K (ι++[l]) (upd H l o) l io):∀u s',Inv X pj σ (upd H l o) s'->RelV (.ref l) u->Q u s':=λ u s' I ru=>by
 obtain⟨R,n⟩:=N.rel.alloc e r
 refine K u s' _ _ ⟨I,R,N.st.mono n⟩ n ⟨.ref l,ru,l,rfl,?_⟩
 rw[<- N.rel.len,ZA (Zr _)]
 simp
theorem finT {xs:List IV}{vs:List V}{Q:QvT}{E:QvT}(N:Now ce X pj ι σi h σ H s) 
  (K:Kont ce X RU pj ι σi σ H (.ok (.tup xs) h) Q E)(l:Zq)(e:H l=Zd)(r:RVs X.K ι H xs vs):∀u s',Inv X pj σ (upd H l (.tup vs)) s'->RelV (.ref l) u->Q u s':=λ u s' I ru=>by
 obtain⟨R,n⟩:=N.rel.grow (o:=.tup vs) e
 exact K u s' _ _ ⟨I,R,N.st.mono n⟩ n ⟨.ref l,ru,l,vs,rfl,SqT.of J0,RVs.mono n _ _ r⟩
theorem RVs.new {K:W.Frag}{ι:List Zq}{H:Hp}{l:Zq}{o:HO}(e:H l=Zd){xs:List IV}{vs:List V}(r:RVs K ι H xs vs):RVs K (ι++[l]) (upd H l o) xs vs:=RVs.mono ⟨⟨[l],rfl⟩,Ext.upd_new e⟩ _ _ r
theorem Now.at (N:Now ce X pj ι σi h σ H s){i:Nat}(e:h[i]?=Za o)(ha:ι[i]?=Za a):RO ce X.K ι H a o:=by
 obtain⟨b,e1,r⟩:=N.rel.at_ i o e
 rw[ha] at e1
 cases e1
 exact r
theorem J26:OpI ce X (Zbc .Add) Jn:=by
 intro pj s σ H ι σi h x y v u Q E N rx ry K
 obtain⟨xv,rx,qx⟩:=rx
 obtain⟨yv,ry,qy⟩:=ry
 cases x with
 | int i =>
  cases y with
  | int j =>
   have e1:xv=.int i:=qx
   have e2:yv=.int j:=qy
   subst e1 e2
   exact JV (J0t (X:=X.wish E)) N.inv rx ry ⟨i,j,rfl,rfl,fin0 N K rfl⟩
  | _=>exact Zf K
 | str i =>
  cases y with
  | str j =>
   have e1:xv=.str i:=qx
   have e2:yv=.str j:=qy
   subst e1 e2
   dsimp only[Jn] at K
   split at K
   ·rename_i hz
    exact JV (Jo1 (X:=X.wish E)) N.inv rx ry ⟨i,j,rfl,rfl,hz,fin0 N K rfl⟩
   ·exact Zf K
  | _=>exact Zf K
 | tup xs =>
  cases y with
  | tup ys =>
   obtain⟨a,vs,e1,sa,ra⟩:=qx
   obtain⟨b,ws,e2,sb,rb⟩:=qy
   subst e1 e2
   dsimp only[Jn] at K
   split at K
   ·rename_i hz
    obtain⟨h1,h2,h3⟩:=hz
    have n1:vs≠[]:=λ z=>h1 (by have:=ra.length;rw[z] at this;exact Zal this.symm)
    have n2:ws≠[]:=λ z=>h2 (by have:=rb.length;rw[z] at this;exact Zal this.symm)
    exact JV (Jx7 (X:=X.wish E)) N.inv rx ry ⟨a,b,vs,ws,rfl,rfl,sa,sb,n1,by rw[ra.length,rb.length];exact h3,λ z=>absurd z n2,λ _ p hp=>finT N K p hp (ra.append rb)⟩
   ·exact Zf K
  | _=>exact Zf K
 | ref i =>
  cases y with
  | ref j =>
   obtain⟨a,e1,ha⟩:=qx
   obtain⟨b,e2,hb⟩:=qy
   subst e1 e2
   dsimp only[Jn] at K
   cases hi:h[i]? with
   | none=>rw[hi] at K;exact Zf K
   | some oi =>
    cases hj:h[j]? with
    | none=>rw[hi,hj] at K;cases oi<;>exact Zf K
    | some oj =>
     rw[hi,hj] at K
     cases oi with
     | lst xs =>
      cases oj with
      | lst ys =>
       dsimp only at K
       split at K
       ·rename_i hz
        obtain⟨vs,e1,r1⟩:=N.at hi ha
        obtain⟨ws,e2,r2⟩:=N.at hj hb
        exact JV (J0u (X:=X.wish E)) N.inv rx ry ⟨a,b,vs,ws,rfl,rfl,e1,e2,by rw[r1.length,r2.length];exact hz,λ p hp=>finA N K p hp ⟨_,J0,RVs.new hp (r1.append r2)⟩⟩
       ·exact Zf K
      | _=>exact Zf K
     | _=>exact Zf K
  | _=>exact Zf K
 | _=>cases y<;>exact Zf K
theorem J3c:OpI ce X (Zbc .Sub) Qp:=by
 intro pj s σ H ι σi h x y v u Q E N rx ry K
 obtain⟨xv,rx,qx⟩:=rx
 obtain⟨yv,ry,qy⟩:=ry
 cases x with
 | int i =>
  cases y with
  | int j =>
   have e1:xv=.int i:=qx
   have e2:yv=.int j:=qy
   subst e1 e2
   exact JV (J0y (X:=X.wish E)) N.inv rx ry ⟨i,j,rfl,rfl,fin0 N K rfl⟩
  | _=>exact Zf K
 | _=>cases y<;>exact Zf K
theorem QR.ok (h:QR i j):IntMulOk i j:=by
 rcases h with h|h|⟨h1,h2⟩
 ·exact .of_left (intBits_le_64 (by omega) (by omega))
 ·exact .of_right (intBits_le_64 (by omega) (by omega))
 ·refine .of_bits ?_ ?_
  ·unfold Builtin.Int.intBits
   split
   ·exact ZK _
   ·have:(2:Nat)^20=1048576:=by decide
    omega
  ·unfold Builtin.Int.intBits
   split
   ·exact ZK _
   ·have:(2:Nat)^20=1048576:=by decide
    omega
theorem Jx8:OpR X (Zbc .Mult) (rI QR λ i j=>.int (i*j)):=opI λ _ _ _ _ _ _ _ hc q=>mul_int q hc.ok
theorem J3a:OpI ce X (Zbc .Mult) Xz:=by
 intro pj s σ H ι σi h x y v u Q E N rx ry K
 obtain⟨xv,rx,qx⟩:=rx
 obtain⟨yv,ry,qy⟩:=ry
 cases x with
 | int i =>
  cases y with
  | int j =>
   have e1:xv=.int i:=qx
   have e2:yv=.int j:=qy
   subst e1 e2
   dsimp only[Xz] at K
   split at K
   ·rename_i hz
    exact JV (Jx8 (X:=X.wish E)) N.inv rx ry ⟨i,j,rfl,rfl,hz,fin0 N K rfl⟩
   ·exact Zf K
  | _=>exact Zf K
 | ref i =>
  cases y with
  | int k =>
   obtain⟨a,e1,ha⟩:=qx
   have e2:yv=.int k:=qy
   subst e1 e2
   dsimp only[Xz] at K
   cases hi:h[i]? with
   | none=>rw[hi] at K;exact Zf K
   | some oi =>
    rw[hi] at K
    cases oi with
    | lst xs =>
     dsimp only at K
     split at K
     ·rename_i hz
      obtain⟨vs,e1,r1⟩:=N.at hi ha
      have rr:∀n:Nat,RVs X.K ι H (ZS n xs).flatten (ZS n vs).flatten:=λ n=>by
       induction n with
       | zero=>exact rfl
       | succ n ih =>
        rw[Zbl,Zbl,ZbM,ZbM]
        exact r1.append ih
      exact JV (J0x (X:=X.wish E)) N.inv rx ry ⟨a,k,vs,rfl,rfl,e1,hz.1,hz.2.1,by rw[r1.length];exact hz.2.2,λ p hp=>finA N K p hp ⟨_,J0,RVs.new hp (rr _)⟩⟩
     ·exact Zf K
    | _=>exact Zf K
  | _=>exact Zf K
 | _=>cases y<;>exact Zf K
theorem Jue:OpR X (Zbc .FloorDiv) (rI (λ _ j=>0<j/\j.natAbs.log2<9000) λ i j=>.int (i/j)):=opI λ i j _ _ _ _ _ hc q=>by
 have h1:(0:Int)<j:=hc.1
 exact floordiv_int (by omega) (by rw[Int.fdiv_eq_ediv_of_nonneg i (by omega)];exact q) (.inl (PyProof.noPylong_of_log2 hc.2))
theorem J0q:OpI ce X (Zbc .FloorDiv) JT:=by
 intro pj s σ H ι σi h x y v u Q E N rx ry K
 obtain⟨xv,rx,qx⟩:=rx
 obtain⟨yv,ry,qy⟩:=ry
 cases x with
 | int i =>
  cases y with
  | int j =>
   have e1:xv=.int i:=qx
   have e2:yv=.int j:=qy
   subst e1 e2
   dsimp only[JT] at K
   split at K
   ·rename_i hz
    exact JV (Jue (X:=X.wish E)) N.inv rx ry ⟨i,j,rfl,rfl,hz,fin0 N K rfl⟩
   ·exact Zf K
  | _=>exact Zf K
 | _=>cases y<;>exact Zf K
theorem J29:OpI ce X (Zbc .Mod) J2:=by
 intro pj s σ H ι σi h x y v u Q E N rx ry K
 obtain⟨xv,rx,qx⟩:=rx
 obtain⟨yv,ry,qy⟩:=ry
 cases x with
 | int i =>
  cases y with
  | int j =>
   have e1:xv=.int i:=qx
   have e2:yv=.int j:=qy
   subst e1 e2
   dsimp only[J2] at K
   split at K
   ·rename_i hz
    exact JV (J0v (X:=X.wish E)) N.inv rx ry ⟨i,j,rfl,rfl,hz,fin0 N K rfl⟩
   ·exact Zf K
  | _=>exact Zf K
 | _=>cases y<;>exact Zf K
theorem J3b:OpI ce X (Zbc .Pow) JF:=by
 intro pj s σ H ι σi h x y v u Q E N rx ry K
 obtain⟨xv,rx,qx⟩:=rx
 obtain⟨yv,ry,qy⟩:=ry
 cases x with
 | int i =>
  cases y with
  | int j =>
   have e1:xv=.int i:=qx
   have e2:yv=.int j:=qy
   subst e1 e2
   dsimp only[JF] at K
   split at K
   ·rename_i hz
    exact JV (J0w (X:=X.wish E)) N.inv rx ry ⟨i,j,rfl,rfl,hz,fin0 N K rfl⟩
   ·exact Zf K
  | _=>exact Zf K
 | _=>cases y<;>exact Zf K
theorem J33:UnI ce X (unaryOp .USub) Yn:=by
 intro pj s σ H ι σi h x v Q E N rx K
 obtain⟨xv,rx,qx⟩:=rx
 cases x with
 | int i =>
  have e1:xv=.int i:=qx
  subst e1
  exact J10 (J1z (X:=X.wish E)) N.inv rx ⟨i,rfl,fin0 N K rfl⟩
 | _=>exact Zf K
noncomputable def cLt:IV->IV->IH->Res IV
 | .int i,.int j,h=>.ok (.bl (decide (i<j))) h
 | .str x,.str y,h=>.ok (.bl (decide (x.cps.toList<y.cps.toList))) h
 | _,_,_=>.stuck
noncomputable def cLe:IV->IV->IH->Res IV
 | .int i,.int j,h=>.ok (.bl (decide (i<=j))) h
 | .str x,.str y,h=>.ok (.bl (!decide (y.cps.toList<x.cps.toList))) h
 | _,_,_=>.stuck
noncomputable def cGt:IV->IV->IH->Res IV
 | .int i,.int j,h=>.ok (.bl (decide (j<i))) h
 | _,_,_=>.stuck
noncomputable def cGe:IV->IV->IH->Res IV
 | .int i,.int j,h=>.ok (.bl (decide (j<=i))) h
 | _,_,_=>.stuck
theorem o_lt:OpI ce X (Za5 .Lt) cLt:=by
 intro pj s σ H ι σi h x y v u Q E N rx ry K
 obtain⟨xv,rx,qx⟩:=rx
 obtain⟨yv,ry,qy⟩:=ry
 cases x with
 | int i =>
  cases y with
  | int j =>
   have e1:xv=.int i:=qx
   have e2:yv=.int j:=qy
   subst e1 e2
   exact JV (J3h (X:=X.wish E)) N.inv rx ry ⟨i,j,rfl,rfl,fin0 N K rfl⟩
  | _=>exact Zf K
 | str i =>
  cases y with
  | str j =>
   have e1:xv=.str i:=qx
   have e2:yv=.str j:=qy
   subst e1 e2
   exact JV (Jro (X:=X.wish E)) N.inv rx ry ⟨i,j,rfl,rfl,fin0 N K rfl⟩
  | _=>exact Zf K
 | _=>cases y<;>exact Zf K
theorem o_le:OpI ce X (Za5 .LtE) cLe:=by
 intro pj s σ H ι σi h x y v u Q E N rx ry K
 obtain⟨xv,rx,qx⟩:=rx
 obtain⟨yv,ry,qy⟩:=ry
 cases x with
 | int i =>
  cases y with
  | int j =>
   have e1:xv=.int i:=qx
   have e2:yv=.int j:=qy
   subst e1 e2
   exact JV (J3g (X:=X.wish E)) N.inv rx ry ⟨i,j,rfl,rfl,fin0 N K rfl⟩
  | _=>exact Zf K
 | str i =>
  cases y with
  | str j =>
   have e1:xv=.str i:=qx
   have e2:yv=.str j:=qy
   subst e1 e2
   obtain⟨t,rfl⟩:=rx
   obtain⟨t',rfl⟩:=ry
   exact PySem.P.le_str (fin0 N K rfl _ s N.inv rfl)
  | _=>exact Zf K
 | _=>cases y<;>exact Zf K
theorem o_gt:OpI ce X (Za5 .Gt) cGt:=by
 intro pj s σ H ι σi h x y v u Q E N rx ry K
 obtain⟨xv,rx,qx⟩:=rx
 obtain⟨yv,ry,qy⟩:=ry
 cases x with
 | int i =>
  cases y with
  | int j =>
   have e1:xv=.int i:=qx
   have e2:yv=.int j:=qy
   subst e1 e2
   exact JV (J3f (X:=X.wish E)) N.inv rx ry ⟨i,j,rfl,rfl,fin0 N K rfl⟩
  | _=>exact Zf K
 | _=>cases y<;>exact Zf K
theorem o_ge:OpI ce X (Za5 .GtE) cGe:=by
 intro pj s σ H ι σi h x y v u Q E N rx ry K
 obtain⟨xv,rx,qx⟩:=rx
 obtain⟨yv,ry,qy⟩:=ry
 cases x with
 | int i =>
  cases y with
  | int j =>
   have e1:xv=.int i:=qx
   have e2:yv=.int j:=qy
   subst e1 e2
   exact JV (J3e (X:=X.wish E)) N.inv rx ry ⟨i,j,rfl,rfl,fin0 N K rfl⟩
  | _=>exact Zf K
 | _=>cases y<;>exact Zf K
noncomputable def tru:IV->IH->Res Bool
 | .non,h=>.ok Zm h
 | .bl b,h=>.ok b h
 | .int i,h=>.ok (i != 0) h
 | .str x,h=>if x.length<=sizeLine then .ok ((x.length:Int) != 0) h else .stuck
 | .tup xs,h=>.ok (!xs.isEmpty) h
 | .rol xs,h=>.ok (!xs.isEmpty) h
 | .ref i,h=>match h[i]? with
  | some (.lst xs)=>.ok (!xs.isEmpty) h
  | some (.dct kvs)=>.ok (!kvs.isEmpty) h
  | _=>.stuck
theorem RVs.empty {K:W.Frag}{ι:List Zq}{H:Hp}{xs:List IV}{vs:List V}(r:RVs K ι H xs vs):vs.isEmpty=xs.isEmpty:=by
 have:=r.length
 cases xs<;>cases vs<;>simp_all
theorem RPs.empty {κ:Type}{K:W.Frag}{ι:List Zq}{H:Hp}{xs:List (κ×IV)}{vs:List (κ×V)}(r:RPs K ι H xs vs):vs.isEmpty=xs.isEmpty:=by
 have:=r.length
 cases xs<;>cases vs<;>simp_all
theorem finB (N:Now ce X pj ι σi h σ H s)(K:Kont ce X RB pj ι σi σ H (.ok c h) Q E) :
  ∀s',Inv X pj σ H s'->Q c s':=λ s' I=>K c s' H ι ⟨I,N.rel,N.st⟩ .refl rfl
theorem Yu:TrI ce X tru:=by
 intro pj s σ H ι σi h x v Q E N rx K
 obtain⟨xv,rx,qx⟩:=rx
 cases x with
 | non =>
  have e1:xv=.non:=qx
  subst e1
  exact VB (VA (X:=X.wish E)) N.inv rx ⟨_,rfl,finB N K⟩
 | bl b =>
  have e1:xv=.bl b:=qx
  subst e1
  exact VB (VA (X:=X.wish E)) N.inv rx ⟨_,rfl,finB N K⟩
 | int i =>
  have e1:xv=.int i:=qx
  subst e1
  exact VB (VA (X:=X.wish E)) N.inv rx ⟨_,rfl,finB N K⟩
 | str y =>
  have e1:xv=.str y:=qx
  subst e1
  dsimp only[tru] at K
  split at K
  ·rename_i hz
   exact VB (VA (X:=X.wish E)) N.inv rx ⟨_,⟨hz,rfl⟩,finB N K⟩
  ·exact Zf K
 | tup xs =>
  obtain⟨a,vs,e1,sa,ra⟩:=qx
  subst e1
  exact VB (VA (X:=X.wish E)) N.inv rx ⟨!xs.isEmpty,.inr (.inl ⟨vs,sa,by rw[ra.empty]⟩),finB N K⟩
 | rol xs =>
  obtain⟨a,vs,e1,sa,ra⟩:=qx
  subst e1
  exact VB (VA (X:=X.wish E)) N.inv rx ⟨!xs.isEmpty,.inl ⟨vs,sa.sq,by rw[ra.empty]⟩,finB N K⟩
 | ref i =>
  obtain⟨a,e1,ha⟩:=qx
  subst e1
  dsimp only[tru] at K
  cases hi:h[i]? with
  | none=>rw[hi] at K;exact Zf K
  | some oi =>
   rw[hi] at K
   cases oi with
   | lst xs =>
    obtain⟨vs,e1,r1⟩:=N.at hi ha
    exact VB (VA (X:=X.wish E)) N.inv rx ⟨!xs.isEmpty,.inl ⟨vs,SqL.of e1,by rw[r1.empty]⟩,finB N K⟩
   | dct kvs =>
    obtain⟨vs,e1,r1⟩:=N.at hi ha
    exact VB (VA (X:=X.wish E)) N.inv rx ⟨!kvs.isEmpty,.inr (.inr ⟨vs,e1,by rw[r1.empty]⟩),finB N K⟩
   | _=>exact Zf K
def eTup (a:A1):E1:=λ σ h=>(a σ h).bind λ xs h1=>if xs.length<=sizeLine then .ok (.tup xs) h1 else .stuck
def eLst (a:A1):E1:=λ σ h=>(a σ h).bind λ xs h1=>if xs.length<=sizeLine then .ok (.ref h1.length) (h1++[.lst xs]) else .stuck
variable {es:List Expr}{mr:A1}{pos:Pos}
theorem J2z {x1}(hr:PAi ce X es mr):PEi ce X (.Tuple es x1 pos) (eTup mr):=λ pj s σ H ι σi h Q E N K=>by
 refine wpAny_Tuple_spliced ((hr pos).run N K λ xs h1 us s1 H1 ι1 N1 n1 r1 K1=>?_)
 change Kont ce X RU pj ι1 σi σ H1 (if xs.length<=sizeLine then _ else _) Q E at K1
 split at K1
 ·rename_i hz
  obtain⟨vs,rv,qs⟩:=r1
  have hl:=rv.length
  have hl2:=qs.length
  have hf:H1 s1.heap.objs.size=Zd:=N1.inv.hok.fresh (Zr _)
  refine⟨by rw[<- hl,hl2];exact hz,?_⟩
  exact finT N1 K1 s1.heap.objs.size hf qs _ _ (N1.inv.laid (t':=s1.toks) (λ b u e=>Ze _ e) (Zr _) ⟨by rw[hl2];exact hz,us,rv,⟨_,Zv _ rfl,rfl,_,rfl⟩⟩) rfl
 ·exact Zf K1
theorem J2w (hr:PAi ce X es mr):PEi ce X (.List es pos) (eLst mr):=λ pj s σ H ι σi h Q E N K=>by
 refine wpAny_List_spliced ((hr pos).run N K λ xs h1 us s1 H1 ι1 N1 n1 r1 K1=>?_)
 change Kont ce X RU pj ι1 σi σ H1 (if xs.length<=sizeLine then _ else _) Q E at K1
 split at K1
 ·rename_i hz
  obtain⟨vs,rv,qs⟩:=r1
  have hl:=rv.length
  have hl2:=qs.length
  have hf:H1 s1.heap.objs.size=Zd:=N1.inv.hok.fresh (Zr _)
  refine⟨by rw[<- hl,hl2];exact hz,?_⟩
  exact finA N1 K1 s1.heap.objs.size hf ⟨_,J0,RVs.new hf qs⟩ _ _ (N1.inv.laid (t':=s1.toks) (λ b u e=>Ze _ e) (Zr _) ⟨by rw[hl2];exact hz,us,0,rv,Zv _ rfl⟩) rfl
 ·exact Zf K1
end
section
variable {prog:ZC}{w:ZU}{A:ZJ}{E:QvT}{s:Zl}
theorem Jj9 (hne:t≠it):∀(n i:Nat)(s:Zl)(Q:List Zh->Zl->Prop),s.heap.IsListIter it t i->s.heap.IsList t items->i+n<=items.size ->
  (∀h',h'.IsListIter it t (i+n)->Zb3 it s.heap h'->Q ((items.toList.drop i).take n) { s with heap:=h' })->Zu (Z6 prog w) A (draw (.ref it) n) Q E s
 | 0,i,s,Q,hit,_,_,hQ=>by
  show Zu _ _ (pure []) Q E s
  exact Zk (by simpa using hQ s.heap hit (Heap.SameBut.refl ..))
 | n+1,i,s,Q,hit,ht,hle,hQ=>by
  have hlt:i<items.size:=by omega
  show Zu _ _ (Zbv (.ref it)>>=_) Q E s
  refine Zc (Ze7 hit ht (x:=items[i]) (by simp[hlt]) λ h₁ hit₁ hs₁=>?_)
  refine Zc (ZT (Jj9 hne n (i+1) _ _ hit₁ (ht.extBut hs₁.extBut hne) (by omega) λ h₂ hit₂ hs₂=>Zk ?_))
  have hd:items.toList.drop i=items[i]::items.toList.drop (i+1):=by simp[Za9,hlt]
  have:=hQ h₂ (by rw[show i+(n+1)=i+1+n by omega];exact hit₂) (hs₁.trans hs₂)
  rw[hd,List.take_succ_cons] at this
  exact this
theorem Jfp {Q:List Zh->Zl->Prop}(hh:A.handled=Zd)(ht:s.heap.IsList t items) 
  (hQ:∀h',ZcW s.heap.objs.size s.heap h'->Q items.toList { s with heap:=h' }):Zu (Z6 prog w) A (unpackItems (.ref t) items.size Zd) Q E s:=by
 have hlt:t≠s.heap.objs.size:=by obtain⟨o,ho,_⟩:=ht;exact Z3 (Zz ho)
 unfold unpackItems
 refine Zc ?_
 ·unfold notIterableAtAll
  refine Zc (wpAny_specialOf ht.typeIs slot_list_iter.lookup ?_)
  refine Zk ?_
  simp only[ZX,if_false]
  refine Zc (ZT (ZaU ht ?_))
  refine Zc (ZT (Jj9 hlt items.size 0 _ _ ⟨_,Zv _ rfl,rfl,rfl⟩ (ht.push _) (by omega) λ h₁ hit₁ hs₁=>?_))
  have hall:List.take items.size (List.drop 0 items.toList)=items.toList:=by
   rw[List.drop_zero];exact Zdh (by simp)
  rw[hall]
  rw[if_neg (by simp)]
  have ht₁:h₁.IsList t items:=(ht.push _).extBut hs₁.extBut hlt
  refine Zc (ZT (ZeQ hh hit₁ ht₁ (by simp) λ h₂ he₂=>?_))
  simp only[Option.isSome_none,ZX,if_false]
  refine Zk (hQ h₂ λ b o hb e=>he₂ b o hb (hs₁.extBut b o hb (Ze _ e)))
theorem Jet {env:Env}{elts:List Expr}{x1}{pos:Pos}{t:Zq}{items:Array Zh}{Q:Unit->Zl->Prop}(hh:A.handled=Zd)(ht:s.heap.IsList t items)
  (hn:(ZaR elts env).length=items.size)(hstar:(ZaR elts env).findIdx? (·.1)=Zd)
  (h:∀h',ZcW s.heap.objs.size s.heap h'->Zu (Z6 prog w) A (Zfq ((ZaR elts env).map (·.2)) items.toList) Q E { s with heap:=h' }) :
  Zu (Z6 prog w) A (ZeA (.Tuple elts x1 pos) env (.ref t)) Q E s:=by
 rw[assign_Tuple]
 refine Zc (ZbD ?_)
 unfold unpack
 rw[hn,hstar]
 exact Zc (ZT (Jfp hh ht h))
end
abbrev S1:=ISt->IH->SRes
structure Noted (L:Zq)(fs:List Zq)(e:Zq)(h h3:Zar):Prop where
 ex:∃oe vs T ts,h.get? e=Za oe/\oe.data=.fields vs/\1<vs.size/\h3.get? e=Za (Zan (·.setIfInBounds 1 (.ref T)) oe)/\T≠e/\h.get? T=Zd/\h3.get? T=Za { cls:=.type "traceback",dict:=Zd,data:=.fields ts }/\ts[3]?=Za (Za4 L)
 slot:∀b o,h.get? b=Za o->b≠e->∃sl,h3.get? b=Za { o with slots:=sl }
 keep:∀b o,h.get? b=Za o->b≠e->b∉fs->h3.get? b=Za o
def Fly (L:Zq)(fs:List Zq)(e:Zq)(s s1:Zl):Prop:=s1=s∨∃h',s1={ s with heap:=h' }/\Noted L fs e s.heap h'
def JB (ce:CeT)(X:Cx)(pj:PnT)(ι:List Zq)(H:Hp)(r:SRes)(Q:Flow->Zl->Prop)(E:QvT):Prop :=
 match r with
 | .next σi' h'=>∀s' σ' H' ι',Now ce X pj ι' σi' h' σ' H' s'->Nxt ι H ι' H'->Q .next s'
 | .brk σi' h'=>∀s' σ' H' ι',Now ce X pj ι' σi' h' σ' H' s'->Nxt ι H ι' H'->Q .brk s'
 | .cont σi' h'=>∀s' σ' H' ι',Now ce X pj ι' σi' h' σ' H' s'->Nxt ι H ι' H'->Q .cont s'
 | .ret v h'=>∀u s' σi' σ' H' ι',Now ce X pj ι' σi' h' σ' H' s'->Nxt ι H ι' H'->RU X.K ι' H' v u->Q (.ret u) s'
 | .exc n σi' h'=>∀pl a s' σ' H' ι',Now ce X (pj++pl) ι' σi' h' σ' H' s'->Nxt ι H ι' H'->ι'[n]?=Za a->∀s1,Fly X.env.locals (frs X.stack) a s' s1->E (.ref a) s1
 | .stuck=>False
theorem JB.mono (k:JB ce X pj ι H r Q E)(n:Nxt ι H ι' H'):JB ce X pj ι' H' r Q E:=by
 cases r with
 | next σ h=>exact λ s' σ' H2 ι2 N n2=>k s' σ' H2 ι2 N (n.trans n2)
 | brk σ h=>exact λ s' σ' H2 ι2 N n2=>k s' σ' H2 ι2 N (n.trans n2)
 | cont σ h=>exact λ s' σ' H2 ι2 N n2=>k s' σ' H2 ι2 N (n.trans n2)
 | ret v h=>exact λ u s' σi' σ' H2 ι2 N n2=>k u s' σi' σ' H2 ι2 N (n.trans n2)
 | exc m σ h=>exact λ pl a s' σ' H2 ι2 N n2=>k pl a s' σ' H2 ι2 N (n.trans n2)
 | stuck=>exact k
def PSi (ce:CeT)(X:Cx)(t:Sem Flow)(m:S1):Prop :=
 ∀(pj:PnT)(s:Zl)(σ:L2.St)(H:Hp)(ι:List Zq)(σi:ISt)(h:IH)(Q:Flow->Zl->Prop)(E:QvT),Now ce X pj ι σi h σ H s->JB ce X pj ι H (m σi h) Q E->Zu (Z6 X.prog X.w) X.A t Q E s
abbrev PS1 (ce:CeT)(X:Cx)(st:ZdP)(m:S1):Prop:=PSi ce X (exec st X.env) m
abbrev PS2 (ce:CeT)(X:Cx)(sts:List ZdP)(m:S1):Prop:=PSi ce X (execs sts X.env) m
noncomputable def Jr:S1:=λ σ h=>.next σ h
def Jf (a b:S1):S1:=λ σ h=>match a σ h with
 | .next σ' h'=>b σ' h'
 | r=>r
noncomputable def Jyh:S1:=λ σ h=>.next σ h
def Jwg:S1:=λ σ h=>.brk σ h
def J1c:S1:=λ σ h=>.cont σ h
noncomputable def rS {α:Type}(σ:ISt)(r:Res α)(k:α->IH->SRes):SRes:=match r with
 | .ok a h=>k a h
 | .exc n h=>.exc n σ h
 | .stuck=>.stuck
def JI (e:E1):S1:=λ σ h=>rS σ (e σ h) λ _ h'=>.next σ h'
def Jk (e:E1):S1:=λ σ h=>rS σ (e σ h) λ v h'=>.ret v h'
noncomputable def Jyi:S1:=λ _ h=>.ret .non h
def sIf (t:T1)(a b:S1):S1:=λ σ h=>rS σ (t σ h) λ c h'=>if c then a σ h' else b σ h'
def Jj (i:Nat)(e:E1):S1:=λ σ h=>rS σ (e σ h) λ v h'=>.next (σ.set i (Za v)) h'
section
variable {ce:CeT}{X:Cx}{st:ZdP}{rest:List ZdP}{m m1 m2:S1}{e:Expr}{me:E1}{pos:Pos}
theorem krun {α β:Type}{R:REL α β}{t:Sem β}{mm:ISt->IH->Res α}(p:PX ce X R t mm){pj:PnT}{s:Zl}{σ:L2.St}{H:Hp}{ι:List Zq}{σi:ISt}{h:IH}(N:Now ce X pj ι σi h σ H s){g:α->IH->SRes}{Q:Flow->Zl->Prop}{E:QvT}{Q1:β->Zl->Prop}
  (K:JB ce X pj ι H (rS σi (mm σi h) g) Q E)
  (step:∀x h1 u s1 H1 ι1,Now ce X pj ι1 σi h1 σ H1 s1->Nxt ι H ι1 H1->R X.K ι1 H1 x u->JB ce X pj ι1 H1 (g x h1) Q E->Q1 u s1):Zu (Z6 X.prog X.w) X.A t Q1 E s:=by
 refine p pj s σ H ι σi h Q1 E N ?_
 cases e:mm σi h with
 | ok v h' =>
  rw[e] at K
  exact λ u s' H' ι' N' n' r=>step v h' u s' H' ι' N' n' r (JB.mono (r:=g v h') K n')
 | exc n h' =>
  rw[e] at K
  exact λ pl a s' H' ι' N' n' q=>K pl a s' σ H' ι' N' n' q s' (.inl rfl)
 | stuck =>
  rw[e] at K
  exact K
theorem J1a:PS2 ce X [] Jr:=λ _ s σ H ι _ _ _ _ N K=>ZdA (K s σ H ι N .refl)
theorem Jyf (h1:PS1 ce X st m1)(h2:PS2 ce X rest m2):PS2 ce X (st::rest) (Jf m1 m2):=by
 intro pj s σ H ι σi h Q E N K
 refine wpAny_execs_cons (h1 pj s σ H ι σi h _ E N ?_)
 unfold Jf at K
 cases e:m1 σi h with
 | next σ' h' =>
  rw[e] at K
  exact λ s' σ2 H' ι' N' n'=>h2 pj s' σ2 H' ι' σ' h' Q E N' (JB.mono (r:=m2 σ' h') K n')
 | brk σ' h'=>rw[e] at K;exact K
 | cont σ' h'=>rw[e] at K;exact K
 | ret v h'=>rw[e] at K;exact K
 | exc n σ' h'=>rw[e] at K;exact K
 | stuck=>rw[e] at K;exact K
theorem J1b (h1:PS1 ce X st m1):PS2 ce X [st] m1:=by
 intro pj s σ H ι σi h Q E N K
 refine wpAny_execs_cons (h1 pj s σ H ι σi h _ E N ?_)
 cases e:m1 σi h with
 | next σ' h' =>
  rw[e] at K
  exact λ s' σ2 H' ι' N' n'=>ZdA (K s' σ2 H' ι' N' n')
 | brk σ' h'=>rw[e] at K;exact K
 | cont σ' h'=>rw[e] at K;exact K
 | ret v h'=>rw[e] at K;exact K
 | exc n σ' h'=>rw[e] at K;exact K
 | stuck=>rw[e] at K;exact K
theorem J1h:PS1 ce X (.Pass pos) Jyh:=λ _ s σ H ι _ _ _ _ N K=>wpAny_Pass (K s σ H ι N .refl)
theorem Jyj:PS1 ce X (.Break pos) Jwg:=λ _ s σ H ι _ _ _ _ N K=>wpAny_Break (K s σ H ι N .refl)
theorem J1f:PS1 ce X (.Continue pos) J1c:=λ _ s σ H ι _ _ _ _ N K=>wpAny_Continue (K s σ H ι N .refl)
theorem J1g (he:PEi ce X e me)(hs:ZdM e Zd pos.line X.env=pure Zm:=by rfl):PS1 ce X (.Expr e pos) (JI me):=λ pj s σ H ι σi h Q E N K =>
 wpAny_Expr_any (krun he N K λ x h1 u s1 H1 ι1 N1 n1 r1 K1=>K1 s1 σ H1 ι1 N1 .refl) N.inv.quiet hs
theorem J3w (he:PEi ce X e me):PS1 ce X (.Return (Za e) pos) (Jk me):=λ pj s σ H ι σi h Q E N K =>
 wpAny_Return_some (krun he N K λ x h1 u s1 H1 ι1 N1 n1 r1 K1=>K1 u s1 σi σ H1 ι1 N1 .refl r1)
theorem J1i:PS1 ce X (.Return Zd pos) Jyi:=λ pj s σ H ι σi h Q E N K=>wpAny_Return_none (K .none s σi σ H ι N .refl ⟨.non,rfl,rfl⟩)
theorem s_if {c:Expr}{a b:List ZdP}{mt:T1}(hc:PTi ce X c mt)(ha:PS2 ce X a m1)(hb:PS2 ce X b m2):PS1 ce X (.If c a b pos) (sIf mt m1 m2):=λ pj s σ H ι σi h Q E N K =>
 wpAny_If (krun hc N K λ x h1 u s1 H1 ι1 N1 n1 r1 K1=>by
  have r':u=x:=r1
  subst r'
  cases u with
  | true=>exact ha pj s1 σ H1 ι1 σi h1 Q E N1 K1
  | false=>exact hb pj s1 σ H1 ι1 σi h1 Q E N1 K1)
theorem J1j {i:Nat}{x:Str}{pos':Pos}(hN:X.N.Nodup)(he:PEi ce X e me)(hi:X.N[i]?=Za x:=by rfl)(hx:Loc X.env.scope x:=by assumption)(hs:ZdM e (Za (.Name x pos')) pos.line X.env=pure Zm:=by rfl)
  (hf:X.fn x=Zj∨X.env.scope.names.lookup x=Za .local:=by assumption):PS1 ce X (.Assign [.Name x pos'] e pos) (Jj i me):=λ pj s σ H ι σi h Q E N K =>
 wpAny_Assign_Name (krun he N K λ v h1 u s1 H1 ι1 N1 n1 r1 K1=>by
  obtain⟨w,rw',q⟩:=r1
  exact Jf2 N1.inv hN hi hx rw' (λ s2 I2=>K1 s2 _ H1 ι1 ⟨I2,N1.rel,N1.st.set i q⟩ .refl) hf) hs
abbrev G1:=IV->ISt->IH->SRes
def PGi (ce:CeT)(X:Cx)(tg:Expr)(g:G1):Prop :=
 ∀(pj:PnT)(s:Zl)(σ:L2.St)(H:Hp)(ι:List Zq)(σi:ISt)(h:IH)(v:IV)(u:Zh)(Q:Flow->Zl->Prop)(E:QvT),Now ce X pj ι σi h σ H s->RU X.K ι H v u->JB ce X pj ι H (g v σi h) Q E ->
  Zu (Z6 X.prog X.w) X.A (ZeA tg X.env u) (λ _ s'=>Q .next s') E s
noncomputable def gNm (i:Nat):G1:=λ v σ h=>.next (σ.set i (Za v)) h
theorem g_nm (hN:X.N.Nodup)(hi:X.N[i]?=Za x:=by rfl)(hx:Loc X.env.scope x:=by assumption)(hf:X.fn x=Zj∨X.env.scope.names.lookup x=Za .local:=by assumption):PGi ce X (.Name x pos) (gNm i):=by
 intro pj s σ H ι σi h v u Q E N r K
 obtain⟨w,rw',q⟩:=r
 exact wpAny_assign_Name (Jf2 N.inv hN hi hx rw' (λ s2 I2=>K s2 _ H ι ⟨I2,N.rel,N.st.set i q⟩ .refl) hf)
def PGsi (ce:CeT)(X:Cx)(ts:List Expr)(g:List IV->ISt->IH->SRes):Prop :=
 ∀(pj:PnT)(s:Zl)(σ:L2.St)(H:Hp)(ι:List Zq)(σi:ISt)(h:IH)(vs:List IV)(us:List Zh)(Q:Flow->Zl->Prop)(E:QvT),Now ce X pj ι σi h σ H s->RUs X.K ι H vs us->JB ce X pj ι H (g vs σi h) Q E ->
  Zu (Z6 X.prog X.w) X.A (Zfq ((ZaR ts X.env).map (·.2)) us) (λ _ s'=>Q .next s') E s
noncomputable def gN:List IV->ISt->IH->SRes
 | [],σ,h=>.next σ h
 | _::_,_,_=>.stuck
def gC (g:G1)(r:List IV->ISt->IH->SRes):List IV->ISt->IH->SRes
 | v::vs,σ,h=>match g v σ h with
  | .next σ' h'=>r vs σ' h'
  | .exc n σ' h'=>.exc n σ' h'
  | _=>.stuck
 | [],_,_=>.stuck
theorem Jzu:PGsi ce X [] gN:=by
 intro pj s σ H ι σi h vs us Q E N r K
 cases vs with
 | nil =>
  obtain⟨xs,rv,q⟩:=r
  have e1:xs=[]:=q
  subst e1
  cases rv
  exact assignInOrder_nil (K s σ H ι N .refl)
 | cons v vs=>exact Zf K
theorem Jxk {tg:Expr}{ts:List Expr}{g:G1}{r:List IV->ISt->IH->SRes}(h1:PGi ce X tg g)(h2:PGsi ce X ts r)
  (hs:(ZaR (tg::ts) X.env).map (·.2)=ZeA tg X.env::(ZaR ts X.env).map (·.2):=by rfl):PGsi ce X (tg::ts) (gC g r):=by
 intro pj s σ H ι σi h vs us Q E N ru K
 cases vs with
 | nil=>exact Zf K
 | cons v vs =>
  obtain⟨xs,rv,x,xr,e1,q,qs⟩:=ru
  subst e1
  cases rv with
  | cons r1 r2 =>
   rw[hs]
   refine assignInOrder_cons (h1 pj s σ H ι σi h v _ (λ f s'=>Zu (Z6 X.prog X.w) X.A (Zfq ((ZaR ts X.env).map (·.2)) _) (λ _ s'=>Q .next s') E s') E N ⟨x,r1,q⟩ ?_)
   have K':JB ce X pj ι H (match g v σi h with|.next σ' h'=>r vs σ' h'|.exc n σ' h'=>.exc n σ' h'|_=>.stuck) Q E:=K
   cases e:g v σi h with
   | next σ' h' =>
    rw[e] at K'
    exact λ s' σ2 H' ι' N' n'=>h2 pj s' σ2 H' ι' σ' h' vs _ Q E N' ⟨xr,r2,RVs.mono n' _ _ qs⟩ (JB.mono (r:=r vs σ' h') K' n')
   | exc n σ' h'=>rw[e] at K';exact K'
   | _=>rw[e] at K';exact(show False from K').elim
def gTp (n:Nat)(g:List IV->ISt->IH->SRes):G1:=λ v σ h=>match v with
 | .tup xs=>if xs.length=n then g xs σ h else .stuck
 | .ref i=>(match h[i]? with
  | some (.lst xs)=>if xs.length=n then g xs σ h else .stuck
  | _=>.stuck)
 | _=>.stuck
theorem J2n {es:List Expr}{k n:Nat}{g:List IV->ISt->IH->SRes}(hc:X.calm=Zj)(hg:PGsi ce X es g)(hn:(ZaR es X.env).length=n:=by rfl)(hst:(ZaR es X.env).findIdx? (·.1)=Zd:=by rfl):PGi ce X (.Tuple es k pos) (gTp n g):=by
 intro pj s σ H ι σi h v u Q E N r K
 obtain⟨w,rw',q⟩:=r
 cases v with
 | tup xs =>
  obtain⟨a,vs,e1,sa,ra⟩:=q
  subst e1
  cases rw'
  unfold gTp at K
  dsimp only at K
  split at K
  ·rename_i hl
   obtain⟨its,rv,ht,hz⟩:=N.inv.tuple sa
   have l1:=ra.length
   have l2:=rv.length
   refine assign_Tuple_tuple (N.inv.ok.hd hc) ht (by simp only[Zx];omega) hst λ h' hx=>?_
   have I1:Inv X pj σ H { s with heap:=h' }:=N.inv.kept (t':=s.toks) λ b o e=>hx b o (Z3 (Zz e)) e
   exact hg pj _ σ H ι σi h xs _ Q E ⟨I1,N.rel,N.st⟩ ⟨vs,by simpa using rv,ra⟩ K
  ·exact Zf K
 | ref i =>
  obtain⟨a,e1,ha⟩:=q
  subst e1
  cases rw'
  unfold gTp at K
  dsimp only at K
  cases hi:h[i]? with
  | none=>rw[hi] at K;exact Zf K
  | some ob =>
   rw[hi] at K
   cases ob with
   | lst xs =>
    dsimp only at K
    split at K
    ·rename_i hl
     obtain⟨vs,g1,ra⟩:=N.at hi ha
     obtain⟨its,rv,ht,hz⟩:=N.inv.list (SqL.of g1)
     have l1:=ra.length
     have l2:=rv.length
     refine Jet (N.inv.ok.hd hc) ht.isList (by simp only[Zx];omega) hst λ h' hx=>?_
     have I1:Inv X pj σ H { s with heap:=h' }:=N.inv.kept (t':=s.toks) λ b o e=>hx b o (Z3 (Zz e)) e
     exact hg pj _ σ H ι σi h xs _ Q E ⟨I1,N.rel,N.st⟩ ⟨vs,by simpa using rv,ra⟩ K
    ·exact Zf K
   | _=>exact Zf K
 | _=>exact Zf K
def sAsg (e:E1)(g:G1):S1:=λ σ h=>rS σ (e σ h) λ v h'=>g v σ h'
theorem J3s {tg:Expr}{g:G1}(he:PEi ce X e me)(hg:PGi ce X tg g)(hs:swapsWithSole [tg] e pos.line X.env=pure Zm:=by rfl)(hw:swappedStores [tg] e X.env=pure Zd:=by rfl)
  (h1:(ZaR [tg] X.env).map (·.2)=[ZeA tg X.env]:=by rfl):PS1 ce X (.Assign [tg] e pos) (sAsg me g):=λ pj s σ H ι σi h Q E N K =>
 wpAny_Assign_stores (krun he N K λ v h2 u s1 H1 ι1 N1 n1 r1 K1=>by
  rw[h1]
  exact hg pj s1 σ H1 ι1 σi h2 v u Q E N1 r1 K1) hs hw
end
theorem ExF.ok {h:Zar}(e:h.get? a=Za oe)(c:oe.cls=.ref C)(d:oe.data=.fields vs)(v:vs[1]?=Za tv)(v2:vs[2]?=Za .none)(v3:oe.dict=dd):JC P w H h a (ExF a C tv dd) :=
 ⟨⟨oe,vs,e,c,d,v,v2,v3⟩,⟨oe,e⟩,λ _ _ ⟨o,us,e1,r⟩ k=>⟨o,us,k _ e1,r⟩⟩
theorem ExF.get (x:HOk P w H h)(e:H a=Za (ExF a C tv d)):∃oe vs,h.get? a=Za oe/\oe.cls=.ref C/\oe.data=.fields vs/\vs[1]?=Za tv/\vs[2]?=Za .none/\oe.dict=d :=
 (x a _ e).1
theorem Jqb (o:Obj)(f:Array Zh->Array Zh):(o.mapFields f).dict=o.dict:=by
 unfold Zan
 split<;>rfl
theorem J0s:∀{o:HO},JC P w H h a o->∃u,h.get? a=Za u:=λ {o} q=>by
 cases o with
 | lst _=>obtain⟨_,_,_,_,e⟩:=q;exact⟨_,e⟩
 | tup _=>obtain⟨_,_,_,⟨_,e,_⟩⟩:=q;exact⟨_,e⟩
 | dK _=>obtain⟨_,_,_,_,o,_,_,e,_⟩:=q;exact⟨o,e⟩
 | dT _=>obtain⟨_,_,_,_,o,_,_,e,_⟩:=q;exact⟨o,e⟩
 | set _ _=>obtain⟨o,_,_,_,e,_⟩:=q;exact⟨o,e⟩
 | ins _ _ _=>obtain⟨_,_,_,e,_⟩:=q;exact⟨_,e⟩
 | own _=>obtain⟨_,e⟩:=q;exact⟨_,e⟩
 | xd _=>obtain⟨_,⟨_,_,_,e,_⟩,_⟩:=q;exact⟨_,e⟩
 | rng _ _=>obtain⟨_,_,_,e⟩:=q;exact⟨_,e⟩
 | frz _ _=>obtain⟨e,_⟩:=q;exact⟨_,e⟩
 | tbl _=>exact⟨_,(show h.get? a=Za _ from q)⟩
 | met _ _=>exact⟨_,(show h.get? a=Za _ from q)⟩
 | ext _=>obtain⟨_,⟨_,e⟩,_⟩:=q;exact⟨_,e⟩
theorem Jsj {h:Zar}{T:Zq}{oT:Obj}{ts:Array Zh}{v:Zh}(e:h.get? T=Za oT)(d:oT.data=.fields ts)(q:ts[3]?=Za v):(h.update T (Zan (·.setIfInBounds 3 v))).get? T=Za oT:=by
 have es:ts.setIfInBounds 3 v=ts:=by
  refine Array.ext (by simp) λ i h1 h2=>?_
  rw[Array.getElem_setIfInBounds]
  split
  ·rename_i z
   subst z
   rw[ZaQ h2] at q
   exact(Zao q).symm
  ·rfl
 have eo:Zan (·.setIfInBounds 3 v) oT=oT:=by
  obtain⟨c,dd,dt,sl⟩:=oT
  have d:dt=.fields ts:=d
  subst d
  simp only[Zan,es]
 rw[Zae _ e (by rw[eo];exact ZaZ d),eo]
section
variable {X:Cx}{pj:PnT}{σ:L2.St}{H:Hp}{s:Zl}{M:Model}{E:QvT}{Q:Unit->Zl->Prop}{a C:Zq}{tv:Zh}{d:Option Zq}{h3:Zar}{s1:Zl}
structure Past (X:Cx)(H:Hp)(h:Zar)(a C:Zq)(d:Option Zq)(T:Zq)(oT:Obj)(h':Zar):Prop where
 new:H T=Zd
 ne:T≠a
 fld:∃ts,oT.data=.fields ts/\ts[3]?=Za .none
 un:Un (frs X.stack) [] H (upd (upd H T (.frz oT (.own 0))) a (ExF a C (.ref T) d)) h h'
 hok:HOk X.prog X.w (upd (upd H T (.frz oT (.own 0))) a (ExF a C (.ref T) d)) h'
theorem Jmy (I:Inv X pj σ H s)(hs:X.stack=X.env::X.outer)(hf:X.env.frame=Za X.env.locals)(ha:H a=Za (ExF a C tv d))(ht:TvOk H tv) 
  (k:∀h3,Noted X.env.locals (frs X.stack) a s.heap h3->Q () { s with heap:=h3 }):Zu M X.A (Zew (.ref a) X.env) Q E s:=by
 obtain⟨oe,vs,e1,e2,e3,e4,e5,e6⟩:=ExF.get I.hok ha
 have hfa:a∉frs X.stack:=λ z=>by rw[I.stkFree a z] at ha;cases ha
 have fr:=I.ok.frames
 have ff:s.heap.FunFrames X.base X.stack:=I.stack
 have len1:1<vs.size:=(Zbi.mp e4).1
 have go:∀(h:Zar){head:Zh}{hn:Bool},(∀b,h.get? b=s.heap.get? b)->Zu M X.A (do let f<-frameOf X.env;let pl<-entryPlaceOf X.env.locals hn;let b<-EntryCells.newEntry head f .none (Za4 X.env.locals) .none pl;Zf3 (.ref a) 1 b) Q E { s with heap:=h }:=by
  intro h head hn hh
  have ffh:h.FunFrames X.base X.stack:=ff.of_keeps λ b o q _=>⟨o,(hh b).trans q,rfl⟩
  rw[hs] at fr ffh
  refine Zc (wpAny_frameOf_fun (s:={ s with heap:=h }) fr ffh hf λ h1 so=>?_)
  have he1:h1.get? a=Za oe:=(so.2.1 a (by rw[hs] at hfa;exact hfa)).trans ((hh a).trans e1)
  refine Zc (wpAny_entryPlaceOf λ pl hpl=>?_)
  unfold EntryCells.newEntry newFields
  refine Zc (ZbN ?_ (hpl.sizeOk5 _ _ _ _ _))
  have t3:([head,ZdL X.env.locals,ZV,Za4 X.env.locals,ZV]++(if pl.isEmpty then ZS 6 ZV else pl)).toArray[3]?=Za (Za4 X.env.locals):=by simp
  generalize ([head,ZdL X.env.locals,ZV,Za4 X.env.locals,ZV]++(if pl.isEmpty then ZS 6 ZV else pl)).toArray=ts at t3 ⊢
  have lt2:∀b o,h1.get? b=Za o->b≠h1.objs.size:=λ b o q=>Z3 (Zz q)
  have nT:h1.objs.size≠a:=ZO (lt2 a _ he1)
  have up2:∀b o,h1.get? b=Za o->(h1.push { cls:=.type "traceback",dict:=Zd,data:=.fields ts }).get? b=Za o:=λ b o q=>Ze _ q
  have gT2:(h1.push { cls:=.type "traceback",dict:=Zd,data:=.fields ts }).get? h1.objs.size=Za { cls:=.type "traceback",dict:=Zd,data:=.fields ts }:=Zv h1 rfl
  refine Zbj (up2 _ _ he1) e3 len1 (k _ ⟨⟨oe,vs,h1.objs.size,ts,e1,e3,len1,Zae _ (up2 _ _ he1) (ZaZ (Zab e3 _)),nT,?_,(Zw _ _ (ZO nT)).trans gT2,t3⟩,λ b o q n=>?_,λ b o q n m=>?_⟩)
  ·cases q:s.heap.get? h1.objs.size with
   | none=>rfl
   | some o =>
    obtain⟨sl,z⟩:=so.2.2 _ _ ((hh _).trans q)
    exact absurd rfl (lt2 _ _ z)
  ·obtain⟨sl,z⟩:=so.2.2 _ _ ((hh b).trans q)
   exact⟨sl,(Zw _ _ (ZO n)).trans (up2 _ _ z)⟩
  ·exact(Zw _ _ (ZO n)).trans (up2 _ _ ((so.2.1 b (by rw[hs] at m;exact m)).trans ((hh b).trans q)))
 unfold Zew
 rw[hf]
 refine Zc (ZcX e1 e3 e4 ?_)
 rcases ht with rfl|⟨T,oT,ts,rfl,q1,q2,q3⟩
 ·rw[if_neg (by decide)]
  exact go s.heap λ _=>rfl
 ·have gT:s.heap.get? T=Za oT:=(I.hok T _ q1).1
  rw[if_pos (by simp)]
  refine Zc (ZcX gT q2 q3 ?_)
  rw[if_neg (by simp[Za4])]
  refine Zc (Zbj gT q2 (Zbi.mp q3).1 ?_)
  refine go _ λ b=>?_
  by_cases z:b=T
  ·subst z
   exact(Jsj gT q2 q3).trans gT.symm
  ·exact Zw _ _ (ZO z)
theorem Jgx {env:Env}(hf:env.frame=Za env.locals)(n:Noted env.locals fs a h h3)(q:Q () { s with heap:=h3 }):Zu M A (Zew (.ref a) env) Q E { s with heap:=h3 }:=by
 obtain⟨⟨oe,vs,T,ts,g1,g2,g3,g4,g5,g6,g7,g8⟩,_,_⟩:=n
 unfold Zew
 rw[hf]
 refine Zc (ZcX (x:=.ref T) g4 (Zab g2 _) (by simp[g3]) ?_)
 rw[if_pos (by simp)]
 refine Zc (ZcX g7 rfl g8 ?_)
 rw[if_pos (by simp)]
 exact Zk q
theorem Jo0 {env:Env}(hf:env.frame=Za env.locals)(n:Noted env.locals fs a h h3)(k:∀h4,Noted env.locals fs a h h4->E (.ref a) { s with heap:=h4 }):cameBackBy M A env E (.ref a) { s with heap:=h3 }:=by
 obtain⟨⟨oe,vs,T,ts,g1,g2,g3,g4,g5,g6,g7,g8⟩,sl,kp⟩:=n
 unfold cameBackBy
 refine Zc (ZcX (x:=.ref T) g4 (Zab g2 _) (by simp[g3]) ?_)
 rw[if_neg (by simp)]
 rw[hf]
 unfold ZfB
 refine Zc (ZcX (x:=.ref T) g4 (Zab g2 _) (by simp[g3]) ?_)
 rw[if_pos (by simp)]
 refine Zbj g7 rfl (Zbi.mp g8).1 ?_
 have up:∀b o,h3.get? b=Za o->(h3.update T (Zan (·.setIfInBounds 3 (Za4 env.locals)))).get? b=Za o:=λ b o q=>by
  by_cases z:b=T
  ·subst z
   rw[g7] at q
   cases q
   exact Jsj g7 rfl g8
  ·exact(Zw _ _ (ZO z)).trans q
 exact k _ ⟨⟨oe,vs,T,ts,g1,g2,g3,up _ _ g4,g5,g6,up _ _ g7,g8⟩,λ b o q n=>let ⟨s',z⟩:=sl b o q n;⟨s',up _ _ z⟩,λ b o q n m=>up _ _ (kp b o q n m)⟩
theorem Jhw (I:Inv X pj σ H s)(ha:H a=Za (ExF a C tv d))(n:Noted L (frs X.stack) a s.heap h3)(k:∀T oT h',Past X H s.heap a C d T oT h'->Q () { s with heap:=h' }):Zu M X.A (ZfB (.ref a) Zd) Q E { s with heap:=h3 }:=by
 obtain⟨⟨oe,vs,T,ts,g1,g2,g3,g4,g5,nT,g7,g8⟩,sl,kp⟩:=n
 obtain⟨oe',vs',x1,x2,x3,x4,x5,x6⟩:=ExF.get I.hok ha
 rw[g1] at x1
 cases x1
 rw[g2] at x3
 cases x3
 have hok:=I.hok
 have hfr:∀b∈frs X.stack,H b=Zd:=I.stkFree
 have hT:H T=Zd:=by
  cases q:H T with
  | none=>rfl
  | some u =>
   obtain⟨o,z⟩:=J0s (hok T u q)
   rw[nT] at z
   cases z
 have tz:3<ts.size:=(Zbi.mp g8).1
 unfold ZfB
 refine Zc (ZcX (x:=.ref T) g4 (Zab g2 _) (by simp[g3]) ?_)
 rw[if_pos (by simp)]
 refine Zbj g7 rfl tz ?_
 have e1:=(Zw h3 (Zan (·.setIfInBounds 3 ((Zd:Option Zq).elim ZV λ f=>Za4 f))) g5).trans g4
 have e7:=Zae (Zan (·.setIfInBounds 3 ((Zd:Option Zq).elim ZV λ f=>Za4 f))) g7 (ZaZ (Zab rfl _))
 have d7:=Zab (o:={ cls:=.type "traceback",dict:=Zd,data:=.fields ts }) rfl (·.setIfInBounds 3 ((Zd:Option Zq).elim ZV λ f=>Za4 f))
 have lt:∀b o,s.heap.get? b=Za o->T≠b:=λ b o q z=>by rw[z,q] at nT;cases nT
 have keep:∀b o,s.heap.get? b=Za o->b≠a->b∉frs X.stack->(h3.update T (Zan (·.setIfInBounds 3 ((Zd:Option Zq).elim ZV λ f=>Za4 f)))).get? b=Za o:=λ b o q n1 n2=>(Zw _ _ (lt b o q)).trans (kp b o q n1 n2)
 have slot:∀b o,s.heap.get? b=Za o->b≠a->∃sl,(h3.update T (Zan (·.setIfInBounds 3 ((Zd:Option Zq).elim ZV λ f=>Za4 f)))).get? b=Za { o with slots:=sl }:=λ b o q n1=>let ⟨s',z⟩:=sl b o q n1;⟨s',(Zw _ _ (lt b o q)).trans z⟩
 generalize h3.update T (Zan (·.setIfInBounds 3 ((Zd:Option Zq).elim ZV λ f=>Za4 f)))=h' at e1 e7 keep slot
 generalize Zan (·.setIfInBounds 3 ((Zd:Option Zq).elim ZV λ f=>Za4 f)) { cls:=.type "traceback",dict:=Zd,data:=.fields ts }=oT at e7 d7
 have na:∀{b:Zq}{u:HO},H b=Za u->(∀φ,u≠.ext φ)->b≠a:=λ {b u} q n z=>by
  subst z
  rw[ha] at q
  cases q
  exact n _ rfl
 have nTb:∀{b:Zq}{u:HO},H b=Za u->b≠T:=λ {b u} q z=>by
  subst z
  rw[hT] at q
  cases q
 have up:∀{b:Zq}{u:HO},H b=Za u->(∀φ,u≠.ext φ)->upd (upd H T (.frz oT (.own 0))) a (ExF a C (.ref T) d) b=Za u:=λ {b u} q n=>by
  rw[Jo (na q n),Jo (nTb q)]
  exact q
 have fa:a∉frs X.stack:=λ z=>by rw[hfr a z] at ha;cases ha
 refine k T oT h' ⟨hT,g5,⟨_,d7,by simp[tz]⟩,⟨λ b o q n hb _=>keep b o q (λ z=>by subst z;rw[ha] at n;cases n) hb,λ b o q _ hb _=>slot b o q (λ z=>fa (z▸hb)),λ b o q n _=>?_,λ b o q _=>?_,λ b xs q=>up q nofun,λ b o u q=>up q nofun,λ b ps q=>⟨#[],by rw[up q nofun];simp⟩⟩,λ b u q=>?_⟩
 ·rw[Jo (λ z=>by subst z;rw[ha] at n;cases n),Jo (λ z=>by subst z;rw[nT] at q;cases q)]
  exact n
 ·by_cases z:b=a
  ·subst z
   exact⟨_,e1⟩
  ·obtain⟨sl,w⟩:=slot b o q z
   exact⟨_,w⟩
 ·by_cases z:b=a
  ·subst z
   rw[J0] at q
   cases q
   exact ExF.ok e1 ((Zdi _ _).trans x2) (Zab g2 _) (by simp[g3]) (by rw[Array.getElem?_setIfInBounds_ne (by decide)];exact x5) ((Jqb _ _).trans x6)
  ·rw[Jo z] at q
   by_cases y:b=T
   ·subst y
    rw[J0] at q
    cases q
    exact⟨e7,⟨oT,e7⟩⟩
   ·rw[Jo y] at q
    refine(hok b u q).stay (λ c v hc p=>?_) (λ c p=>up p nofun) λ c xs p=>up p nofun
    refine keep c v p ?_ ?_
    ·rcases hc with rfl|hc
     ·exact z
     ·exact na hc nofun
    ·intro m
     rcases hc with rfl|hc
     ·rw[hfr _ m] at q;cases q
     ·rw[hfr _ m] at hc;cases hc
theorem Jud (I:Inv X pj σ H s)(fl:Fly X.env.locals (frs X.stack) a s s1)(hs:X.stack=X.env::X.outer)(hf:X.env.frame=Za X.env.locals)(ha:H a=Za (ExF a C tv d))(ht:TvOk H tv) 
  (k:∀T oT h',Past X H s.heap a C d T oT h'->Q () { s with heap:=h' }):Zu M X.A (Zew (.ref a) X.env) (λ _ s'=>Zu M X.A (ZfB (.ref a) Zd) Q E s') E s1:=by
 rcases fl with rfl|⟨h',rfl,n⟩
 ·exact Jmy I hs hf ha ht λ h3 n=>Jhw I ha n k
 ·exact Jgx hf n (Jhw I ha n k)
theorem Jrd (I:Inv X pj σ H s)(fl:Fly X.env.locals (frs X.stack) a s s1)(hs:X.stack=X.env::X.outer)(hf:X.env.frame=Za X.env.locals)(ha:H a=Za (ExF a C tv d))(ht:TvOk H tv) 
  (k:∀T oT h',Past X H s.heap a C d T oT h'->Q () { s with heap:=h' }):Zu M X.A (leaving X.env (.ref a)) Q E s1:=by
 unfold leaving
 exact Zc (Jud I fl hs hf ha ht k)
end
def CXI (P:ZC)(w:ZU):CXT:=λ outer H s E e s'=>∃H',s'.os=s.os/\ZdG s'.gens/\Un (frs outer) [] H H' s.heap s'.heap/\HOk P w H' s'.heap/\E e Zd H'
theorem Un.tail (a:Un fs [] H H1 h h1)(b:Un (L::fs) [] H1 H2 h1 h2)(n:h.get? L=Zd):Un fs [] H H2 h h2 where
 keep:=λ c o q m hc _=>b.keep c o (a.keep c o q m hc (by simp)) (a.free c o q m (by simp)) (λ z=>(Z2.mp z).elim (λ y=>by subst y;rw[n] at q;cases q) hc) (by simp)
 slot:=λ c o q m hc _=>by
  obtain⟨sl,e1⟩:=a.slot c o q m hc (by simp)
  obtain⟨sl',e2⟩:=b.any e1 (a.free c o q m (by simp)) (by simp)
  exact⟨sl',e2⟩
 free:=λ c o q m _=>by
  obtain⟨o',e1⟩:=a.there c o q (by simp)
  exact b.free c o' e1 (a.free c o q m (by simp)) (by simp)
 there:=λ c o q _=>by
  obtain⟨o',e1⟩:=a.there c o q (by simp)
  exact b.there c o' e1 (by simp)
 tups:=λ c xs q=>b.tups c xs (a.tups c xs q)
 frzs:=λ c o u q=>b.frzs c o u (a.frzs c o u q)
 tbls:=λ c ps q=>by
  obtain⟨m1,e1⟩:=a.tbls c ps q
  obtain⟨m2,e2⟩:=b.tbls c _ e1
  exact⟨m1++m2,by rw[e2,Array.append_assoc]⟩
section
variable {X:Cx}{pj:PnT}{σ:L2.St}{H:Hp}{s:Zl}{k:Nat}{f C:Zq}{fd:ZaP}{ps:List Str}{sp:Sp}{dvs:List V}{ds:List Zh}{E:XK}{Q:VK}{us:List Zh}{vs:List V}{W:QvT}
theorem Jwl (I:Inv X pj σ H s)(h:CXI X.prog X.w X.stack H s E e s'):∃H',Inv X pj σ H' s'/\E e Zd H':=by
 obtain⟨H',os,bare,un,hok,q⟩:=h
 exact⟨H',I.call' os un hok bare λ b z=>absurd z (by simp),q⟩
theorem Jye (F:FnOk X.prog X.w X.K X.mg X.base (CXI X.prog X.w) k f fd ps sp)(hr:Room k X.A)(hb:Qc X.K fd ps ds)(hd:Vals dvs ds)(I:Inv X pj σ H s)(r:Vals vs us)(h:sp (vs++dvs) H Q E) 
  (hx:∀e s' H',Inv X pj σ H' s'->E e Zd H'->W e s'):Zu (Z6 X.prog X.w) X.A (call (.ref f) us) (EP X pj σ Q) W s:=by
 have ra:Vals (vs++dvs) (us++ds):=r.append hd
 have la:=ra.length
 have lf:=F.len _ _ _ _ h
 refine ZeB (Zch (F.run _ _ _ _ ⟨us,[]⟩ _ _ _ _ hr I.env0 (hb s us I.kIn (by omega)) ra h) λ res s' q=>?_)
 match res,q with
 | .error e,q =>
  obtain⟨H',I',z⟩:=Jwl I q
  exact hx e s' H' I' z
 | .ok (.ret u),q=>exact I.after q
 | .ok .next,q=>exact ZbA q
 | .ok .brk,q=>exact ZbA q
 | .ok .cont,q=>exact ZbA q
theorem Jr2 (M:Mk X.K C f)(F:FnOk X.prog X.w X.K X.mg X.base (CXI X.prog X.w) k f fd ps sp)(hr:Room (k+1) X.A)(hb:Qc X.K fd ps ds)(hd:Vals dvs ds)(I:Inv X pj σ H s)(r:Vals vs us) 
  (h:∀x dx,H x=Zd->H dx=Zd->dx≠x->sp (.ref x::(vs++dvs)) (upd (upd H dx (.own x)) x (.ins C dx [])) (λ v H2=>v=.non/\Q (.ref x) H2) E)
  (hx:∀e s' H',Inv X pj σ H' s'->E e Zd H'->W e s'):Zu (Z6 X.prog X.w) X.A (call (.ref C) us) (EP X pj σ Q) W s:=by
 have z0:=s.heap.objs.size
 have hq:=h (s.heap.objs.size+1) s.heap.objs.size (I.hok.fresh (ZaG _)) (I.hok.fresh (Zr _)) (Z3 (Zax _))
 have J:=Inv.made (C:=C) I
 have ra:Vals (V.ref (s.heap.objs.size+1)::(vs++dvs)) (ZdL (s.heap.objs.size+1)::(us++ds)):=.cons rfl (r.append hd)
 have la:=ra.length
 have lf:=F.len _ _ _ _ hq
 have hl:(ZdL (s.heap.objs.size+1)::us++ds).length=ps.length:=by
  rw[Za6]
  omega
 refine ZeB (Jt9 (f:=f) I.kIn M.makes M.init (beq_iff_eq.mp M.fn) (Zch (F.run _ _ _ _ ⟨.ref (s.heap.objs.size+1)::us,[]⟩ _ _ _ _ (hr.make C us []) (J.env0.make C us []) (hb _ (.ref (s.heap.objs.size+1)::us) J.kIn hl) ra hq) λ res s' q=>?_))
 match res,q with
 | .error e,q =>
  obtain⟨H',I',z⟩:=Jwl J q
  exact hx e s' H' I' z
 | .ok (.ret u),q =>
  obtain⟨v,H',J3,rv,ev,q3⟩:=J.after q
  subst ev
  exact⟨rv,⟨V.ref (s.heap.objs.size+1),H',J3,rfl,q3⟩⟩
 | .ok .next,q=>exact ZbA q
 | .ok .brk,q=>exact ZbA q
 | .ok .cont,q=>exact ZbA q
end
structure ItI where
 xs:List IV
 chk:IH->Prop
open Classical in
def JU (chk:IH->Prop)(g:G1)(b:S1):List IV->ISt->IH->SRes
 | [],σ,h=>if chk h then .next σ h else .stuck
 | x::xs,σ,h=>if chk h then(match g x σ h with
   | .next σ1 h1=>(match b σ1 h1 with
    | .next σ2 h2=>JU chk g b xs σ2 h2
    | .cont σ2 h2=>JU chk g b xs σ2 h2
    | .brk σ2 h2=>.next σ2 h2
    | .ret v h2=>.ret v h2
    | .exc n σ2 h2=>(match h2[n]? with
     | some (.exc _ _)=>.exc n σ2 h2
     | _=>.stuck)
    | _=>.stuck)
   | _=>.stuck) else .stuck
abbrev I1:=ISt->IH->Res ItI
def sFor (it:I1)(g:G1)(b:S1):S1:=λ σ h=>rS σ (it σ h) λ J h'=>JU J.chk g b J.xs σ h'
structure ItOk (ce:CeT)(K:W.Frag)(ι:List Zq)(H₀:Hp)(J:It)(I:ItI):Prop where
 go:∀(k:Nat)(x:IV)(h:IH)(H:Hp)(ι':List Zq),Nxt ι H₀ ι' H->Rel ce K ι' h H->I.chk h->I.xs[k]?=Za x ->
  J.go k H/\∀y H',J.yld k H y H'->Rel ce K ι' h H'/\Nxt ι' H ι' H'/\RV K ι' H' x y
 stop:∀(k:Nat)(h:IH)(H:Hp)(ι':List Zq),Nxt ι H₀ ι' H->Rel ce K ι' h H->I.chk h->I.xs.length<=k->J.stop k H
theorem Rel.get {ce:CeT}{K:W.Frag}{ι:List Zq}{h:IH}{H:Hp}(R:Rel ce K ι h H){i:Nat}{o:IX}(e:h[i]?=Za o){a:Zq}(ha:ι[i]?=Za a):RO ce K ι H a o:=by
 obtain⟨b,e1,r⟩:=R.at_ i o e
 rw[ha] at e1
 cases e1
 exact r
def RIt (ce:CeT)(X:Cx)(tg:Expr)(pj:PnT)(ι':List Zq)(I:ItI)(itv:Zh)(s2:Zl)(H':Hp):Prop :=
 ∃(it:Zq)(fp:List Zq)(tn:Nat->Zar->Prop)(J:It),itv=.ref it/\Turn X.prog X.w X.K tg J fp it tn/\tn 0 s2.heap/\(∀b∈fp,FpOk X pj H' b)/\ItOk ce X.K ι' H' J I
def PIi (ce:CeT)(X:Cx)(tg iter:Expr)(m:I1):Prop :=
 ∀(pj:PnT)(s:Zl)(σ:L2.St)(H:Hp)(ι:List Zq)(σi:ISt)(h:IH)(Q:QvT)(E:QvT),Now ce X pj ι σi h σ H s ->
  (match m σi h with
   | .ok I h'=>∀itv s' H' ι',Now ce X pj ι' σi h' σ H' s'->Nxt ι H ι' H'->RIt ce X tg pj ι' I itv s' H'->Q itv s'
   | .exc n h'=>∀pl a s' H' ι',Now ce X (pj++pl) ι' σi h' σ H' s'->Nxt ι H ι' H'->ι'[n]?=Za a->E (.ref a) s'
   | .stuck=>False) ->
  Zu (Z6 X.prog X.w) X.A (Zbr iter X.env) (λ v s1=>Zu (Z6 X.prog X.w) X.A (Zeg v) Q E s1) E s
section
variable {ce:CeT}{X:Cx}
theorem nof {M:Model}{A:ZJ}{α:Type}{t:Sem α}{Q:α->Zl->Prop}{E:QvT}{s:Zl}(h:Zu M A t Q (λ _ _=>False) s):Zu M A t Q E s:=Zas h (λ _ _ x=>x) λ _ _ z=>z.elim
theorem Now.pins {pj:PnT}{pl:PnT}{ι:List Zq}{σi:ISt}{h:IH}{σ:L2.St}{H:Hp}{s:Zl}(N:Now ce X (pj++pl) ι σi h σ H s):Now ce X pj ι σi h σ H s:=⟨N.inv.unpinned,N.rel,N.st⟩
theorem J3v {tg iter:Expr}{body:List ZdP}{mi:I1}{g:G1}{mb:S1}{pos:Pos}(hc:X.calm=Zj)(hst:X.stack=X.env::X.outer)(hf:X.env.frame=Za X.env.locals)(hi:PIi ce X tg iter mi)(hg:PGi ce X tg g)(hb:PS2 ce X body mb)
  (hs:∀x,Zcv iter X.env x=pure x:=by intro _;rfl):PS1 ce X (.For tg iter body [] pos) (sFor mi g mb):=by
 intro pj s σ H ι σi h Q E N K
 refine wpAny_For (hi pj s σ H ι σi h _ E N ?_) hs
 unfold sFor at K
 cases e0:mi σi h with
 | exc n h'=>rw[e0] at K;exact λ pl a s' H' ι' N' n' q=>K pl a s' σ H' ι' N' n' q s' (.inl rfl)
 | stuck=>rw[e0] at K;exact K
 | ok I h' =>
  rw[e0] at K
  intro itv s2 H2 ι2 N2 n2 R
  obtain⟨it,fp,tn,J,e,T,st2,f2,OK⟩:=R
  subst e
  have stat:∀{H':Hp},(∀b∈fp,H' b=Zd)->∀b∈fp,FpOk X pj H' b:=λ hn b hb=>⟨hn b hb,(f2 b hb).2⟩
  have K2:JB ce X pj ι2 H2 (JU I.chk g mb I.xs σi h') Q E:=JB.mono (r:=JU I.chk g mb I.xs σi h') K n2
  refine codeAny_forLoop_any (λ n s'=>∃k ιk σk hk σ' H',Now ce X pj ιk σk hk σ' H' s'/\Nxt ι2 H2 ιk H'/\tn k s'.heap/\(∀b∈fp,H' b=Zd)/\n=I.xs.length-k/\k<=I.xs.length/\JB ce X pj ιk H' (JU I.chk g mb (I.xs.drop k) σk hk) Q E) ?_ I.xs.length
   ⟨0,ι2,σi,h',σ,H2,N2,.refl,st2,λ b hb=>(f2 b hb).1,by simp,ZK _,by simpa using K2⟩
  rintro n s3 ⟨k,ιk,σk,hk,σ3,H3,N3,n3,st3,fr3,rfl,hkl,K3⟩
  by_cases hlt:k<I.xs.length
  ·-- a turn
   have hd:I.xs.drop k=I.xs[k]::I.xs.drop (k+1):=Za9 hlt
   rw[hd] at K3
   unfold JU at K3
   split at K3
   ·rename_i hck
    obtain⟨go,yl⟩:=OK.go k I.xs[k] hk H3 ιk n3 N3.rel hck (Zb hlt)
    refine nof (thn (T.item X rfl rfl rfl hc k pj s3 σ3 H3 (λ _ _=>False) N3.inv (stat fr3) st3 go) λ r s4 ⟨u,hr,h4⟩=>?_)
    subst hr
    refine nof (thn h4 λ _ s5 ⟨x,H5,I5,r5,y5,st5,fr5⟩=>?_)
    obtain⟨R5,n5,q5⟩:=yl x H5 y5
    have I5':=I5.pinned (stat fr5) (T.obj _ _ st5)
    have N5:Now ce X (pj++Q9 fp s5.heap) ιk σk hk σ3 H5 s5:=⟨I5',R5,N3.st.mono n5⟩
    cases eg:g I.xs[k] σk hk with
    | next σg hgg =>
     rw[eg] at K3
     dsimp only at K3
     refine nof (hg _ s5 σ3 H5 ιk σk hk _ u (λ _ s6=>Zu (Z6 X.prog X.w) X.A (execs body X.env) _ _ s6) (λ _ _=>False) N5 ⟨x,r5,q5⟩ ?_)
     rw[eg]
     intro s6 σ6 H6 ι6 N6 n6
     refine hb _ s6 σ6 H6 ι6 σg hgg _ _ N6 ?_
     have again:∀{σ7:L2.St}{H7:Hp}{s7:Zl}{σ7i:ISt}{h7:IH}{ι7:List Zq},Now ce X (pj++Q9 fp s5.heap) ι7 σ7i h7 σ7 H7 s7->Nxt ι6 H6 ι7 H7->JB ce X pj ιk H3 (JU I.chk g mb (I.xs.drop (k+1)) σ7i h7) Q E ->
       ∃m,m<I.xs.length-k/\∃k ιk σk hk σ' H',Now ce X pj ιk σk hk σ' H' s7/\Nxt ι2 H2 ιk H'/\tn k s7.heap/\(∀b∈fp,H' b=Zd)/\m=I.xs.length-k/\k<=I.xs.length/\JB ce X pj ιk H' (JU I.chk g mb (I.xs.drop k) σk hk) Q E :=
      λ {σ7 H7 s7 σ7i h7 ι7} N7 n7 K7=>by
       have nn:Nxt ιk H3 ι7 H7:=(n5.trans n6).trans n7
       refine⟨I.xs.length-(k+1),by omega,k+1,ι7,σ7i,h7,σ7,H7,N7.pins,n3.trans nn,T.keep _ _ _ st5 λ b hb o e=>(N7.inv.pin (b,o) (Zo _ (Zo _ (Yi hb e)))).1,λ b hb=>?_,rfl,hlt,K7.mono nn⟩
       obtain⟨o,e,d⟩:=T.obj _ _ st5 b hb
       exact(N7.inv.pin (b,o) (Zo _ (Zo _ (Yi hb e)))).2.1
     cases eb:mb σg hgg with
     | next σ7i h7 =>
      rw[eb] at K3
      exact λ s7 σ7 H7 ι7 N7 n7=>again N7 n7 K3
     | cont σ7i h7 =>
      rw[eb] at K3
      exact λ s7 σ7 H7 ι7 N7 n7=>again N7 n7 K3
     | brk σ7i h7 =>
      rw[eb] at K3
      exact λ s7 σ7 H7 ι7 N7 n7=>K3 s7 σ7 H7 ι7 N7.pins ((n5.trans n6).trans n7)
     | ret v h7 =>
      rw[eb] at K3
      exact λ u s7 σ7i σ7 H7 ι7 N7 n7 r=>K3 u s7 σ7i σ7 H7 ι7 N7.pins ((n5.trans n6).trans n7) r
     | exc n σ7i h7 =>
      rw[eb] at K3
      dsimp only at K3
      cases hj:h7[n]? with
      | none=>rw[hj] at K3;exact Zf K3
      | some ob =>
       cases ob with
       | exc c fs =>
        rw[hj] at K3
        intro pl a s7 σ7 H7 ι7 N7 n7 q s8 fl
        obtain⟨C,tv,d,fe,hC,ha,ht⟩:=N7.rel.get hj q
        have back:∀h8,Noted X.env.locals (frs X.stack) a s7.heap h8->cameBackBy (Z6 X.prog X.w) X.A X.env E (.ref a) { s7 with heap:=h8 }:=λ h8 n8 =>
         Jo0 hf n8 λ h9 n9=>K3 (Q9 fp s5.heap++pl) a s7 σ7 H7 ι7 (by rw[<- Zag];exact N7) ((n5.trans n6).trans n7) q _ (.inr ⟨h9,rfl,n9⟩)
        rcases fl with rfl|⟨h8,rfl,n8⟩
        ·exact Jmy N7.inv hst hf ha ht back
        ·exact Jgx hf n8 (back h8 n8)
       | _=>rw[hj] at K3;exact Zf K3
     | stuck=>rw[eb] at K3;exact Zf K3
    | _=>rw[eg] at K3;exact Zf K3
   ·exact Zf K3
  ·have hke:I.xs.drop k=[]:=Zdj (by omega)
   rw[hke] at K3
   unfold JU at K3
   split at K3
   ·rename_i hck
    have stop:=OK.stop k hk H3 ιk n3 N3.rel hck (by omega)
    refine nof (thn (T.done X rfl rfl rfl hc k pj s3 σ3 H3 (λ _ _=>False) N3.inv (stat fr3) st3 stop) λ r s4 ⟨hr,I4⟩=>?_)
    subst hr
    exact ZdA (K3 s4 σ3 H3 ιk ⟨I4,N3.rel,N3.st⟩ .refl)
   ·exact Zf K3
noncomputable def itOf:IV->IH->Res ItI
 | .ref i,h=>match h[i]? with
  | some (.lst xs)=>.ok ⟨xs,λ h'=>h'[i]?=Za (.lst xs)⟩ h
  | _=>.stuck
 | .rol xs,h=>.ok ⟨xs,λ _=>True⟩ h
 | .tup xs,h=>.ok ⟨xs,λ _=>True⟩ h
 | _,_=>.stuck
def iVal (e:E1):I1:=λ σ h=>(e σ h).bind itOf
variable {tg:Expr}
theorem Jz8 {a:Zq}{i:Nat}{xs:List IV}{ι:List Zq}{H₀:Hp}(ha:ι[i]?=Za a):ItOk ce X.K ι H₀ (Itl X.K a) ⟨xs,λ h'=>h'[i]?=Za (.lst xs)⟩:=by
 refine⟨λ k x h H ι' hp R hck hx=>?_,λ k h H ι' hp R hck hx=>?_⟩
 ·obtain⟨vs,e1,r1⟩:=R.get hck (hp.at ha)
  obtain⟨v,hv,qv⟩:=r1.get hx
  refine⟨⟨vs,v,SqL.of e1,hv⟩,λ y H' hy=>?_⟩
  obtain⟨rfl,hy⟩:=hy
  have:=hy vs (SqL.of e1)
  rw[hv] at this
  cases this
  exact⟨R,.refl,qv⟩
 ·obtain⟨vs,e1,r1⟩:=R.get hck (hp.at ha)
  exact⟨vs,SqL.of e1,by rw[r1.length];exact hx⟩
theorem Jz9 {a:Zq}{xs:List IV}{vs:List V}{ι:List Zq}{H₀:Hp}(sa:SqR X.K H₀ a vs)(ra:RVs X.K ι H₀ xs vs):ItOk ce X.K ι H₀ (Itl X.K a) ⟨xs,λ _=>True⟩:=by
 refine⟨λ k x h H ι' hp R hck hx=>?_,λ k h H ι' hp R hck hx=>?_⟩
 ·obtain⟨v,hv,qv⟩:=ra.get hx
  have sq:=(hp.ext.sqR sa).sq
  refine⟨⟨vs,v,sq,hv⟩,λ y H' hy=>?_⟩
  obtain⟨rfl,hy⟩:=hy
  have:=hy vs sq
  rw[hv] at this
  cases this
  exact⟨R,.refl,RV.mono hp _ _ qv⟩
 ·exact⟨vs,(hp.ext.sqR sa).sq,by rw[ra.length];exact hx⟩
theorem J0a {a:Zq}{xs:List IV}{vs:List V}{ι:List Zq}{H₀:Hp}(sa:SqT X.K H₀ a vs)(ra:RVs X.K ι H₀ xs vs):ItOk ce X.K ι H₀ (Itt X.K a) ⟨xs,λ _=>True⟩:=by
 refine⟨λ k x h H ι' hp R hck hx=>?_,λ k h H ι' hp R hck hx=>?_⟩
 ·obtain⟨v,hv,qv⟩:=ra.get hx
  have sq:=hp.ext.sqT sa
  refine⟨⟨vs,v,sq,hv⟩,λ y H' hy=>?_⟩
  obtain⟨rfl,hy⟩:=hy
  have:=hy vs sq
  rw[hv] at this
  cases this
  exact⟨R,.refl,RV.mono hp _ _ qv⟩
 ·exact⟨vs,hp.ext.sqT sa,by rw[ra.length];exact hx⟩
theorem Jqv {l:Expr}{ml:E1}(hl:PEi ce X l ml):PIi ce X tg l (iVal ml):=by
 intro pj s σ H ι σi h Q E N K
 refine hl pj s σ H ι σi h _ E N ?_
 unfold iVal at K
 cases e0:ml σi h with
 | exc n h'=>rw[e0] at K;exact K
 | stuck=>rw[e0] at K;exact K
 | ok v h' =>
  rw[e0] at K
  intro u s1 H1 ι1 N1 n1 r1
  obtain⟨w,rw',q⟩:=r1
  have fresh:∀b∈[s1.heap.objs.size],FpOk X pj H1 b:=λ b hb=>by
   have e:b=s1.heap.objs.size:=by simpa using hb
   subst e
   exact N1.inv.fpOk (Zr _) (N1.inv.hok.fresh (Zr _))
  cases v with
  | ref i =>
   obtain⟨a,e1,ha⟩:=q
   subst e1
   cases rw'
   cases hi:h'[i]? with
   | none=>simp only[Res.bind,itOf,hi] at K
   | some o =>
    cases o with
    | lst xs =>
     simp only[Res.bind,itOf,hi] at K
     obtain⟨vs,e1,r1⟩:=N1.at hi ha
     obtain⟨its,rv,p,hz⟩:=N1.inv.list (SqL.of e1)
     refine ZaU p.isList (K _ _ H1 ι1 ⟨N1.inv.kept (t':=s1.toks) λ b o e=>Ze _ e,N1.rel,N1.st⟩ n1 ?_)
     exact⟨s1.heap.objs.size,[s1.heap.objs.size],_,Itl X.K a,rfl,Jld a _,⟨_,Zv _ rfl,rfl,rfl⟩,fresh,Jz8 ha⟩
    | _=>simp only[Res.bind,itOf,hi] at K
  | rol xs =>
   obtain⟨a,vs,e1,sa,ra⟩:=q
   subst e1
   cases rw'
   simp only[Res.bind,itOf] at K
   obtain⟨its,rv,p,hz⟩:=N1.inv.list sa.sq
   refine ZaU p.isList (K _ _ H1 ι1 ⟨N1.inv.kept (t':=s1.toks) λ b o e=>Ze _ e,N1.rel,N1.st⟩ n1 ?_)
   exact⟨s1.heap.objs.size,[s1.heap.objs.size],_,Itl X.K a,rfl,Jld a _,⟨_,Zv _ rfl,rfl,rfl⟩,fresh,Jz9 sa ra⟩
  | tup xs =>
   obtain⟨a,vs,e1,sa,ra⟩:=q
   subst e1
   cases rw'
   simp only[Res.bind,itOf] at K
   obtain⟨its,rv,p,hz⟩:=N1.inv.tuple sa
   refine wpAny_pyIter_tuple (show s1.heap.IsTuple a its.toArray from p) (K _ _ H1 ι1 ⟨N1.inv.kept (t':=s1.toks) λ b o e=>Ze _ e,N1.rel,N1.st⟩ n1 ?_)
   exact⟨s1.heap.objs.size,[s1.heap.objs.size],_,Itt X.K a,rfl,Jpf a _,⟨_,Zv _ rfl,rfl,rfl⟩,fresh,J0a sa ra⟩
  | _=>simp only[Res.bind,itOf] at K
noncomputable def rngI (lo hi:Int):List IV:=(Z9 (hi-lo).toNat).map λ k=>.int (lo+(k:Nat))
def JZ:List IV->IH->Res ItI
 | [.int j],h=>if -(2^62)<=j/\j<2^62 then .ok ⟨rngI 0 j,λ _=>True⟩ h else .stuck
 | _,_=>.stuck
def Jv4:List IV->IH->Res ItI
 | [.int i,.int j],h=>if -(2^62)<=i/\i<2^62/\ -(2^62)<=j/\j<2^62 then .ok ⟨rngI i j,λ _=>True⟩ h else .stuck
 | _,_=>.stuck
def iRg (f:List IV->IH->Res ItI)(a:A1):I1:=λ σ h=>(a σ h).bind f
theorem J06 {lo hi:Int}{ι:List Zq}{H₀:Hp}:ItOk ce X.K ι H₀ (Itr lo (hi-lo).toNat) ⟨rngI lo hi,λ _=>True⟩:=by
 refine⟨λ k x h H ι' hp R hck hx=>?_,λ k h H ι' hp R hck hx=>?_⟩
 ·have hk:k<(hi-lo).toNat:=by
   have:=(Zt.mp hx).1
   simpa [rngI] using this
  refine⟨hk,λ y H' hy=>?_⟩
  obtain⟨rfl,rfl⟩:=hy
  simp only[rngI,Zy,ZcC hk] at hx
  cases hx
  exact⟨R,.refl,rfl⟩
 ·have:(rngI lo hi).length=(hi-lo).toNat:=by simp[rngI]
  show(hi-lo).toNat<=k
  rw[<- this]
  exact hx
theorem Jrv {pj:PnT}{σ:L2.St}{H:Hp}{ι:List Zq}{σi:ISt}{h:IH}{s:Zl}{Q:QvT}{E:QvT}{lo hi:Int}{t u v:Tok}{tk:Nat}(N:Now ce X pj ι σi h σ H s)
  (h1: -(2^62)<=lo)(h2:lo<2^62)(h3: -(2^62)<=hi)(h4:hi<2^62)
  (K:∀itv s' H' ι',Now ce X pj ι' σi h σ H' s'->Nxt ι H ι' H'->RIt ce X tg pj ι' ⟨rngI lo hi,λ _=>True⟩ itv s' H'->Q itv s') :
  Zu (Z6 X.prog X.w) X.A (Zeg (.ref s.heap.objs.size)) Q E { s with heap:=s.heap.push { cls:=.type "range",data:=.fields #[.int lo t,.int hi u,.int 1 v] },toks:=tk }:=by
 have:=Juh (X:=X) (tg:=tg) (E:=E) (R:=λ J H'=>J=Itr lo (hi-lo).toNat/\H'=H) (t:=t) (u:=u) (v:=v) (tk:=tk) N.inv h1 h2 h3 h4 ⟨rfl,rfl⟩
 refine Zas this (λ itv s' hq=>?_) λ _ _ z=>z
 obtain⟨it,fp,tn,J,H',e,I',T,st,f,rfl,rfl⟩:=hq
 exact K itv s' _ ι ⟨I',N.rel,N.st⟩ .refl ⟨it,fp,tn,_,e,T,st,f,J06⟩
theorem Jtp {a:Expr}{ma:A1}{p pos:Pos}(hg:Gl X "range")(hm:X.mg "range"=Zd)(ha:PAi ce X [a] ma)(hs:ZE [a] X.env=[(Zm,Zbr a X.env)]:=by rfl):PIi ce X tg (.Call (.Name "range" p) [a] [] pos) (iRg JZ ma):=by
 intro pj s σ H ι σi h Q E N K
 refine Call_ (Qh N.inv hg hm boot_range (ZaJ ?_ hs rfl))
 refine ha pos pj s σ H ι σi h _ E N ?_
 unfold iRg at K
 cases e0:ma σi h with
 | exc n h'=>rw[e0] at K;exact K
 | stuck=>rw[e0] at K;exact K
 | ok vs h' =>
  rw[e0] at K
  intro us s1 H1 ι1 N1 n1 r1
  obtain⟨xs,rv,qs⟩:=r1
  match vs,K with
  | [.int j],K =>
   obtain⟨w,r,e1,q,q2⟩:=qs
   have e2:r=[]:=q2
   subst e1 e2
   have e3:w=.int j:=q
   subst e3
   cases rv with
   | cons r rr =>
    cases rr
    obtain⟨t,rfl⟩:=r
    simp only[Res.bind,JZ] at K
    by_cases hb: -(2^62)<=j/\j<2^62
    ·rw[if_pos hb] at K
     exact call_range_1 (Jrv N1 (by omega) (by omega) hb.1 hb.2 λ itv s' H' ι' N' n' R=>K itv s' H' ι' N' (n1.trans n') R)
    ·rw[if_neg hb] at K
     exact K.elim
  | [],K=>exact Zf K
  | .non::_,K=>exact Zf K
  | .bl _::_,K=>exact Zf K
  | .str _::_,K=>exact Zf K
  | .tup _::_,K=>exact Zf K
  | .rol _::_,K=>exact Zf K
  | .ref _::_,K=>exact Zf K
  | .int _::_::_,K=>exact Zf K
end
end L3
namespace L3
open PySem PySem.Spec PySem.Calls PyProof.Rows L2
section
variable {prog:ZC}{w:ZU}{A:ZJ}{E:QvT}{s:Zl}{K:W.Frag}{x D:Zq}{ox:Obj}
open PySem.W PySem.Builtin PySem.Builtin.ObjectAttr PySem.Builtin.Getset_descriptor in
end
structure ExI (K:W.Frag)(C:Zq):Prop where
 ga:W.findIn K (.ref C) "__getattribute__"=Za (Za (.builtin "BaseException.__getattribute__"))
 mb:W.mroIn K C (.type "BaseException")=Za Zj
 gn:W.findIn K (.ref C) "__getattr__"=Za Zd
 ca:W.findIn K (.ref C) "__class__"=Za (Za (.builtin "object.__class__"))
 mo:W.mroIn K C (.type "object")=Za Zj
 hd:W.hasDictIn K C=Zj
end L3
namespace L3
open PySem PySem.Spec PyProof.Rows L2
def XE (n:Nat)(vs:List IV):ISt:=vs.map Za++ZS (n-vs.length) Zd
noncomputable def SRes.fin (r:SRes):Res IV:=match r with
 | .next _ h'=>.ok .non h'
 | .ret v h'=>.ok v h'
 | .exc n _ h'=>(match h'[n]? with
  | some (.exc _ _)=>.exc n h'
  | _=>.stuck)
 | _=>.stuck
noncomputable def fnI (n:Nat)(m:S1):List IV->IH->Res IV:=λ vs h=>(m (XE n vs) h).fin
def spI (ce:CeT)(K:W.Frag)(ps:List Str)(f:List IV->IH->Res IV):Sp:=λ vs H Q E =>
 vs.length=ps.length/\∃ι h ivs,Rel ce K ι h H/\RVs K ι H ivs vs /\
  match f ivs h with
  | .ok v h'=>∀x H' ι',Rel ce K ι' h' H'->Nxt ι H ι' H'->RV K ι' H' v x->Q x H'
  | .exc n h'=>∀a H' ι',Rel ce K ι' h' H'->Nxt ι H ι' H'->ι'[n]?=Za a->E (.ref a) Zd H'
  | .stuck=>False
theorem RVs.start {K:W.Frag}{ι:List Zq}{H:Hp}{N:List Str}{ivs:List IV}{vs:List V}(r:RVs K ι H ivs vs):RSt K ι H (XE N.length ivs) (L2.start N vs):=by
 have hl:=r.length
 refine⟨by simp[XE,L2.start,hl],λ j v e=>?_⟩
 unfold XE at e
 unfold L2.start
 by_cases hj:j<ivs.length
 ·rw[ZH (by simpa using hj),Zy] at e
  rw[ZH (by simp;omega),Zy]
  cases e1:ivs[j]? with
  | none=>rw[e1] at e;cases e
  | some w =>
   rw[e1] at e
   cases e
   obtain⟨u,hu,q⟩:=r.get e1
   exact⟨u,by rw[hu];rfl,q⟩
 ·rw[ZA (by simpa using hj),ZbY] at e
  split at e<;>cases e
theorem Jm6 {α:Type}:∀{l:List α}{i:Nat}{x:α},l[i]?=Za x->l.set i x=l
 | [],_,_,e=>by simp at e
 | a::l,0,x,e=>by cases e;rfl
 | a::l,i+1,x,e=>by
  show a::l.set i x=a::l
  rw[Jm6 (l:=l) e]
theorem J3r {ce:CeT}{K:W.Frag}{ι:List Zq}{h:IH}{H:Hp}{i:Nat}{o:IX}{a:Zq}(R:Rel ce K ι h H)(e:h[i]?=Za o)(q:ι[i]?=Za a):RO ce K ι H a o:=by
 obtain⟨b,e1,r⟩:=R.at_ i o e
 rw[q] at e1
 cases e1
 exact r
structure FunD (K:W.Frag)(x qual:Str)(st:ZdP)(f:Zq)(fd:ZaP)(dV:Zh):Prop where
 ex:∃(oc:Zh)(od:Option Zq)(kV doc pm:Zh)(an:Option Zq)(cdv ct:Zh)(osl:Array (Option Zh)),
  fd=W.fnOf x qual (QJ st) (Qk st) (JK st) dV kV doc pm an cdv ct/\K.lookup f=Za ⟨oc,od,.func fd,osl⟩/\W.codeIn K cdv qual=Zj
 kp:W.keepIn K (.ref f)=Zj
section
variable {P:ZC}{w:ZU}{K:W.Frag}{mg:Str->Option Zh}{base:Zar}{ce:CeT}
theorem FunD.fn {x qual:Str}{st:ZdP}{f:Zq}{fd:ZaP}{dV:Zh}{N ps:List Str}{k n:Nat}{m:S1}(F:FunD K x qual st f fd dV)(S:FnScope N ps (JK st))
  (hbody:∀(cdv:Zh)(A:ZJ)(outer:List Env)(s:Zl)(H:Hp)(E:XK),W.codeIn K cdv qual=Zj->Room k (A.deeper (Zfb qual (JK st) s.heap.objs.size f cdv))->PS2 ce (cxOf (CXI P w) P w K mg base N qual (JK st) f cdv A outer s H E).nox (Qk st) m)(hn:N.length=n:=by rfl) :
  FnOk P w K mg base (CXI P w) (k+1) f fd ps (spI ce K ps (fnI n m)):=by
 subst hn
 obtain⟨oc,od,kV,doc,pm,an,cdv,ct,osl,rfl,lk,hcd⟩:=F.ex
 refine J2m lk hcd S (λ vs H Q E h=>h.1) λ A outer s H vs Q E hr hsp=>?_
 obtain⟨hl,ι,h,ivs,R,rv,hk⟩:=hsp
 refine⟨λ D σ H=>∃ι σi h,Rel ce K ι h H/\RSt K ι H σi σ/\match m σi h with
  | .next σi' h'=>∀σ' H' ι',Rel ce K ι' h' H'->RSt K ι' H' σi' σ'->Nxt ι H ι' H'->D.nx σ' H'
  | .ret v h'=>∀x H' ι',Rel ce K ι' h' H'->Nxt ι H ι' H'->RV K ι' H' v x->D.rt x H'
  | .exc n _ h'=>(∃c fs,h'[n]?=Za (.exc c fs))/\∀a H' ι',Rel ce K ι' h' H'->Nxt ι H ι' H'->ι'[n]?=Za a->E (.ref a) Zd H'
  | _=>False,λ pj s' σ' H' D I ht=>?_,ι,XE N.length ivs,h,R,rv.start,?_⟩
 ·obtain⟨ι,σi,h,R,rs,hm⟩:=ht
  refine Zas (hbody cdv A outer s H E hcd hr pj s' σ' H' ι σi h (SP _ pj D) _ ⟨I.wish _,R,rs⟩ ?_) (λ _ _ z=>z) (λ _ _ z=>z)
  cases e:m σi h with
  | next σ2 h2 =>
   rw[e] at hm
   exact λ s3 σ3 H3 ι3 N3 n3=>⟨σ3,H3,N3.inv.unwish,hm σ3 H3 ι3 N3.rel N3.st n3⟩
  | ret v h2 =>
   rw[e] at hm
   exact λ u s3 σ3i σ3 H3 ι3 N3 n3 ⟨z,rz,q⟩=>⟨z,σ3,H3,N3.inv.unwish,rz,hm z H3 ι3 N3.rel n3 q⟩
  | exc j σ2 h2 =>
   rw[e] at hm
   obtain⟨⟨c,fs,hj⟩,hm⟩:=hm
   intro pl a s3 σ3 H3 ι3 N3 n3 hi s4 fl
   have I3:=N3.inv.unwish
   obtain⟨C,tv,d,fe,hC,ha,ht⟩:=J3r N3.rel hj hi
   refine Jrd I3 fl rfl rfl ha ht λ T oT h' p=>?_
   have nl:s.heap.get? s.heap.objs.size=Zd:=Heap.get?_none_of_le (Zr _)
   obtain⟨R4,n4⟩:=N3.rel.grow (o:=.frz oT (.own 0)) p.new
   have ha4:upd H3 T (.frz oT (.own 0)) a=Za (ExF a C tv d):=by rw[Jo (ZO p.ne)];exact ha
   obtain⟨R5,n5⟩:=R4.write hi ha4 (by rw[ha4];trivial) (o:=ExF a C (.ref T) d) (io:=.exc c fs) ⟨C,.ref T,d,fe.mono p.un.frzs,hC,J0,.inr ⟨T,oT,_,rfl,by rw[Jo p.ne,J0],p.fld.choose_spec⟩⟩
   rw[Jm6 hj] at R5
   exact⟨_,I3.os,I3.bare,Un.tail I3.base p.un nl,p.hok,hm a _ ι3 R5 ((n3.trans n4).trans n5) hi⟩
  | _=>rw[e] at hm;exact hm.elim
 ·unfold fnI SRes.fin at hk
  cases e:m (XE N.length ivs) h with
  | next σ2 h2 =>
   rw[e] at hk
   exact λ σ3 H3 ι3 R3 _ n3=>hk .non H3 ι3 R3 n3 rfl
  | ret v h2 =>
   rw[e] at hk
   exact hk
  | exc j σ2 h2 =>
   rw[e] at hk
   dsimp only at hk
   cases q:h2[j]? with
   | none=>rw[q] at hk;exact hk.elim
   | some o =>
    cases o with
    | exc c fs=>rw[q] at hk;exact⟨⟨c,fs,q⟩,hk⟩
    | _=>rw[q] at hk;exact hk.elim
  | _=>rw[e] at hk;exact hk.elim
end
noncomputable def Res.nx {α:Type}:Res α->Res α
 | .ok a h=>.ok a h
 | _=>.stuck
def Jl (f:List IV->IH->Res IV)(dvs:List IV)(a:A1):E1:=λ σ h=>(a σ h).bind λ vs h1=>f (vs++dvs) h1
def Q5 (c:Str)(f:List IV->IH->Res IV)(dvs:List IV)(a:A1):E1:=λ σ h=>(a σ h).bind λ vs h1=>(f (.ref h1.length::(vs++dvs)) (h1++[.ins c []])).bind λ r h2=>match r with
 | .non=>.ok (.ref h1.length) h2
 | _=>.stuck
def Jtf (m:Str)(disp:Str->Option ((List IV->IH->Res IV)×List IV))(o:E1)(a:A1):E1:=λ σ h=>(o σ h).bind λ v h1=>match v with
 | .ref i=>(match h1[i]? with
  | some (.ins c fs)=>(match disp c,fs.lookup m with
   | some (f,dvs),Zd=>(a σ h1).bind λ vs h2=>f (.ref i::(vs++dvs)) h2
   | _,_=>.stuck)
  | _=>.stuck)
 | _=>.stuck
section
variable {ce:CeT}{X:Cx}{k:Nat}{fa C:Zq}{fd:ZaP}{ps:List Str}{f:List IV->IH->Res IV}{dvs:List IV}{ds:List Zh}{x m:Str}{p pos apos:Pos}{e o:Expr}{es:List Expr}{mo:E1}{ma:A1}
theorem Yq {pj:PnT}{σ:L2.St}{H:Hp}{ι:List Zq}{σi:ISt}{h:IH}{s:Zl}{Q:QvT}{E:QvT}{us:List Zh}{xs:List IV}(F:FnOk X.prog X.w X.K X.mg X.base (CXI X.prog X.w) k fa fd ps (spI ce X.K ps f))(hr:Room k X.A)(hb:Qc X.K fd ps ds) 
  (hd:∃vs,Vals vs ds/\∀ι H,RVs X.K ι H dvs vs)(hlen:us.length+ds.length=ps.length)(N:Now ce X pj ι σi h σ H s)(r:RUs X.K ι H xs us)(K:Kont ce X RU pj ι σi σ H (f (xs++dvs) h) Q E):Zu (Z6 X.prog X.w) X.A (call (.ref fa) us) Q E s:=by
 obtain⟨vs,rv,q⟩:=r
 obtain⟨dv,rd,qd⟩:=hd
 have hl1:=rv.length
 have hl2:=rd.length
 refine Zas (Jye (Q:=λ z H'=>∀u s',Inv X pj σ H' s'->RelV z u->Q u s') (E:=λ v _ H'=>∀s',Inv X pj σ H' s'->E v s') F hr hb rd N.inv rv ⟨by rw[Z1];omega,ι,h,xs++dvs,N.rel,q.append (qd ι H),?_⟩ λ _ s' _ I' z=>z s' I')
  (λ u s' ⟨z,H',I',r',k'⟩=>k' u s' I' r') λ _ _ z=>z
 cases e:f (xs++dvs) h with
 | ok v h' =>
  rw[e] at K
  exact λ z H' ι' R' n' qz u s' I' ru=>K u s' H' ι' ⟨I',R',N.st.mono n'⟩ n' ⟨z,ru,qz⟩
 | exc n h' =>
  rw[e] at K
  exact λ a H' ι' R' n' hi s' I'=>K [] a s' H' ι' ⟨by simpa using I',R',N.st.mono n'⟩ n' hi
 | stuck=>rw[e] at K;exact K
theorem Jzx (F:FnOk X.prog X.w X.K X.mg X.base (CXI X.prog X.w) k fa fd ps (spI ce X.K ps f))(hr:Room k X.A)(hg:Gl X x)(hm:X.mg x=Za (.ref fa))(hk:W.keepIn X.K (.ref fa)=Zj)(hb:Qc X.K fd ps ds)(hd:∃vs,Vals vs ds/\∀ι H,RVs X.K ι H dvs vs) 
  (ha:PAi ce X (e::es) ma)(hlen:∀σ h xs h',ma σ h=.ok xs h'->xs.length+ds.length=ps.length)(hdb:(x==("__debug__":Str))=Zm:=by decide)(he:ZE (e::es) X.env=(Zm,Zbr e X.env)::ZE es X.env:=by rfl)(hpl:(Zb6 pos (ZE es X.env)).any (·.1)=Zm:=by rfl) :
  PEi ce X (.Call (.Name x p) (e::es) [] pos) (Jl f dvs ma):=by
 intro pj s σ H ι σi h Q E N K
 refine Zac (VT N.inv hg hm ?_ hdb)
 refine W.callWith_K (h₀:=X.base) N.inv.ok.mod.kin hk ?_ he hpl
 have K':=K
 unfold Jl at K'
 refine ha pos pj s σ H ι σi h _ E N ?_
 cases e0:ma σi h with
 | exc n h'=>rw[e0] at K';exact K'
 | stuck=>rw[e0] at K';exact K'
 | ok xs h' =>
  rw[e0] at K'
  intro us s1 H1 ι1 N1 n1 r1
  have hl:xs.length=us.length:=by
   obtain⟨vs,rv,q⟩:=r1
   rw[<- rv.length,q.length]
  exact⟨N1.inv.kIn,Yq (us:=us) F hr hb hd (by have:=hlen σi h xs h' e0;omega) N1 r1 (Kont.mono (r:=(f (xs++dvs) h')) K' n1)⟩
theorem Jxm (F:FnOk X.prog X.w X.K X.mg X.base (CXI X.prog X.w) k fa fd ps (spI ce X.K ps f))(hr:Room k X.A)(hg:Gl X x)(hm:X.mg x=Za (.ref fa))(hk:W.keepIn X.K (.ref fa)=Zj)(hb:Qc X.K fd ps ds)(hd:∃vs,Vals vs ds/\∀ι H,RVs X.K ι H dvs vs) 
  (hlen:ds.length=ps.length)(hdb:(x==("__debug__":Str))=Zm:=by decide):PEi ce X (.Call (.Name x p) [] [] pos) (Jl f dvs Jd):=by
 intro pj s σ H ι σi h Q E N K
 refine Zac (VT N.inv hg hm ?_ hdb)
 exact W.callWith_K0 N.inv.kIn hk (Yq (xs:=[]) F hr hb hd (by simpa using hlen) N .nil K)
theorem Jkw {c:Str}{pj:PnT}{σ:L2.St}{H:Hp}{ι:List Zq}{σi:ISt}{h:IH}{s:Zl}{Q:QvT}{E:QvT}{us:List Zh}{xs:List IV}(M:Mk X.K C fa)(F:FnOk X.prog X.w X.K X.mg X.base (CXI X.prog X.w) k fa fd ps (spI ce X.K ps f))(hC:ce c=Za C)(hr:Room (k+1) X.A)(hb:Qc X.K fd ps ds)
  (hd:∃vs,Vals vs ds/\∀ι H,RVs X.K ι H dvs vs)(hlen:us.length+ds.length+1=ps.length)(N:Now ce X pj ι σi h σ H s)(r:RUs X.K ι H xs us)
  (K:Kont ce X RU pj ι σi σ H ((f (.ref h.length::(xs++dvs)) (h++[.ins c []])).bind λ r h2=>match r with|.non=>.ok (.ref h.length) h2|_=>.stuck) Q E):Zu (Z6 X.prog X.w) X.A (call (.ref C) us) Q E s:=by
 obtain⟨vs,rv,q⟩:=r
 obtain⟨dv,rd,qd⟩:=hd
 have hl1:=rv.length
 have hl2:=rd.length
 refine Zas (Jr2 (Q:=λ z H'=>∀u s',Inv X pj σ H' s'->RelV z u->Q u s') (E:=λ v _ H'=>∀s',Inv X pj σ H' s'->E v s') M F hr hb rd N.inv rv (λ x dx hx hdx hne=>⟨by rw[ZN,Z1];omega,?_⟩) λ _ s' _ I' z=>z s' I')
  (λ u s' ⟨z,H',I',r',k'⟩=>k' u s' I' r') λ _ _ z=>z
 -- the new instance in the reading's heap
 obtain⟨R1,n1⟩:=N.rel.grow (o:=.own x) hdx
 have hx1:upd H dx (.own x) x=Zd:=by rw[Jo (ZO hne)];exact hx
 obtain⟨R2,n2⟩:=R1.alloc (o:=.ins C dx []) (io:=.ins c []) hx1 ⟨C,dx,[],hC,J0,rfl⟩
 have n12:=n1.trans n2
 have hat:(ι++[x])[h.length]?=Za x:=by
  rw[<- N.rel.len,ZA (Zr _)]
  simp
 refine⟨ι++[x],h++[.ins c []],.ref h.length::(xs++dvs),R2,⟨_,_,rfl,⟨x,rfl,hat⟩,(RVs.mono n12 _ _ q).append (qd _ _)⟩,?_⟩
 cases e:f (.ref h.length::(xs++dvs)) (h++[.ins c []]) with
 | ok v h' =>
  rw[e] at K
  intro z H' ι' R' n' qz
  cases v with
  | non =>
   have ez:z=.non:=qz
   subst ez
   exact⟨rfl,λ u s' I' ru=>K u s' H' ι' ⟨I',R',N.st.mono (n12.trans n')⟩ (n12.trans n') ⟨.ref x,ru,x,rfl,n'.at hat⟩⟩
  | _=>exact Zf K
 | exc n h' =>
  rw[e] at K
  exact λ a H' ι' R' n' hi s' I'=>K [] a s' H' ι' ⟨by simpa using I',R',N.st.mono (n12.trans n')⟩ (n12.trans n') hi
 | stuck=>rw[e] at K;exact Zf K
theorem Jz1 {c:Str}(M:Mk X.K C fa)(F:FnOk X.prog X.w X.K X.mg X.base (CXI X.prog X.w) k fa fd ps (spI ce X.K ps f))(hC:ce c=Za C)(hr:Room (k+1) X.A)(hg:Gl X x)(hm:X.mg x=Za (.ref C))(hb:Qc X.K fd ps ds)(hd:∃vs,Vals vs ds/\∀ι H,RVs X.K ι H dvs vs)
  (ha:PAi ce X (e::es) ma)(hlen:∀σ h xs h',ma σ h=.ok xs h'->xs.length+ds.length+1=ps.length)(hdb:(x==("__debug__":Str))=Zm:=by decide)(he:ZE (e::es) X.env=(Zm,Zbr e X.env)::ZE es X.env:=by rfl)(hpl:(Zb6 pos (ZE es X.env)).any (·.1)=Zm:=by rfl) :
  PEi ce X (.Call (.Name x p) (e::es) [] pos) (Q5 c f dvs ma):=by
 intro pj s σ H ι σi h Q E N K
 refine Zac (VT N.inv hg hm ?_ hdb)
 refine W.callWith_K (h₀:=X.base) N.inv.ok.mod.kin M.kp ?_ he hpl
 have K':=K
 unfold Q5 at K'
 refine ha pos pj s σ H ι σi h _ E N ?_
 cases e0:ma σi h with
 | exc n h'=>rw[e0] at K';exact K'
 | stuck=>rw[e0] at K';exact K'
 | ok xs h' =>
  rw[e0] at K'
  intro us s1 H1 ι1 N1 n1 r1
  have hl:xs.length=us.length:=by
   obtain⟨vs,rv,q⟩:=r1
   rw[<- rv.length,q.length]
  exact⟨N1.inv.kIn,Jkw (us:=us) M F hC hr hb hd (by have:=hlen σi h xs h' e0;omega) N1 r1 (Kont.mono (r:=(f (IV.ref h'.length::(xs++dvs)) (h'++[.ins c []])).bind λ r h2=>match r with|IV.non=>Res.ok (IV.ref h'.length) h2|_=>Res.stuck) K' n1)⟩
theorem Jxp (M:Mk X.K C fa)(F:FnOk X.prog X.w X.K X.mg X.base (CXI X.prog X.w) k fa fd ps (spI ce X.K ps f))(hC:ce c=Za C)(hr:Room (k+1) X.A)(hg:Gl X x)(hm:X.mg x=Za (.ref C))(hb:Qc X.K fd ps ds)(hd:∃vs,Vals vs ds/\∀ι H,RVs X.K ι H dvs vs) 
  (hlen:ds.length+1=ps.length)(hdb:(x==("__debug__":Str))=Zm:=by decide):PEi ce X (.Call (.Name x p) [] [] pos) (Q5 c f dvs Jd):=by
 intro pj s σ H ι σi h Q E N K
 refine Zac (VT N.inv hg hm ?_ hdb)
 exact W.callWith_K0 N.inv.kIn M.kp (Jkw (xs:=[]) M F hC hr hb hd (by simpa using hlen) N .nil K)
def Jpi (ce:CeT)(X:Cx)(m:Str)(n:Nat)(disp:Str->Option ((List IV->IH->Res IV)×List IV)):Prop :=
 ∀c f dvs,disp c=Za (f,dvs)->∃(C fa:Zq)(fd:ZaP)(k:Nat)(ps:List Str)(ds:List Zh),ce c=Za C/\Cls X.K C/\Meth X.K C m fa/\FnOk X.prog X.w X.K X.mg X.base (CXI X.prog X.w) k fa fd ps (spI ce X.K ps f)/\Room k X.A/\Qc X.K fd ps ds/\(∃vs,Vals vs ds/\∀ι H,RVs X.K ι H dvs vs)/\n+ds.length+1=ps.length
theorem Jz3 {n:Nat}{disp:Str->Option ((List IV->IH->Res IV)×List IV)}{pl:Sem Bool}(ho:PEi ce X o mo)(hd:Jpi ce X m n disp)(ha:PAi ce X (e::es) ma)(hlen:∀σ h xs h',ma σ h=.ok xs h'->xs.length=n)
  (hst:ZE (e::es) X.env=(Zm,Zbr e X.env)::ZE es X.env:=by rfl)(hpl:(Zb6 pos (ZE es X.env)).any (·.1)=Zm:=by rfl)
  (ht:Zbr (.Call (.Attribute o m apos) (e::es) [] pos) X.env=(do
   let ov<-Zbr o X.env
   Zf2 apos.atName
   let (f,first)<-Zci [ov] (Zes ov m pl)
   callWith pos f first (Zb6 pos (ZE (e::es) X.env)) (Zex pos (ZcY [] X.env))):=by rfl) :
  PEi ce X (.Call (.Attribute o m apos) (e::es) [] pos) (Jtf m disp mo ma):=by
 intro pj s σ H ι σi h Q E N K
 refine W.methodCall_KW (pl:=pl) (ho.run N K λ v h1 u s1 H1 ι1 N1 n1 r1 K1=>?_) ht
 cases v with
 | ref i =>
  obtain⟨w,rw',a,e1,hi⟩:=r1
  subst e1
  cases rw'
  dsimp only at K1
  cases hh:h1[i]? with
  | none=>rw[hh] at K1;exact Zf K1
  | some ob =>
   cases ob with
   | ins c fs =>
    rw[hh] at K1
    dsimp only at K1
    cases hd1:disp c with
    | none=>rw[hd1] at K1;exact Zf K1
    | some fd1 =>
     obtain⟨f,dvs⟩:=fd1
     cases hl:fs.lookup m with
     | some z=>rw[hd1,hl] at K1;exact Zf K1
     | none =>
      rw[hd1,hl] at K1
      dsimp only at K1
      obtain⟨C,fa,fd,k,ps,ds,hC,cl,hm,F,hr,hb,hdv,hn⟩:=hd c f dvs hd1
      obtain⟨C',dx,vs,hC',hH,rp⟩:=N1.at hh hi
      rw[hC] at hC'
      cases hC'
      refine Jht N1.inv hH cl hm ((RPs.lookup rp).2 hl) ?_
      refine W.callWith_K (first:=[.ref a]) (h₀:=X.base) N1.inv.ok.mod.kin hm.kp ?_ hst hpl
      refine ha pos pj s1 σ H1 ι1 σi h1 _ E N1 ?_
      cases e0:ma σi h1 with
      | exc n h'=>rw[e0] at K1;exact K1
      | stuck=>rw[e0] at K1;exact K1
      | ok xs h' =>
       rw[e0] at K1
       intro us s2 H2 ι2 N2 n2 r2
       have hl:xs.length=us.length:=by
        obtain⟨vs,rv,q⟩:=r2
        rw[<- rv.length,q.length]
       have hl2:=hlen σi h1 xs h' e0
       refine⟨N2.inv.kIn,Yq (us:=.ref a::us) (xs:=.ref i::xs) F hr hb hdv (by rw[ZN];omega) N2 (.cons ⟨.ref a,rfl,a,rfl,n2.at hi⟩ r2) ?_⟩
       exact Kont.mono (r:=(f (.ref i::(xs++dvs)) h')) K1 n2
   | _=>rw[hh] at K1;exact Zf K1
 | _=>exact Zf K1
theorem Jxq {disp:Str->Option ((List IV->IH->Res IV)×List IV)}{pl:Sem Bool}(ho:PEi ce X o mo)(hd:Jpi ce X m 0 disp)
  (ht:Zbr (.Call (.Attribute o m apos) [] [] pos) X.env=(do
   let ov<-Zbr o X.env
   Zf2 apos.atName
   let (f,first)<-Zci [ov] (Zes ov m pl)
   callWith pos f first (Zb6 pos (ZE [] X.env)) (Zex pos (ZcY [] X.env))):=by rfl) :
  PEi ce X (.Call (.Attribute o m apos) [] [] pos) (Jtf m disp mo Jd):=by
 intro pj s σ H ι σi h Q E N K
 refine W.methodCall_KW (pl:=pl) (ho.run N K λ v h1 u s1 H1 ι1 N1 n1 r1 K1=>?_) ht
 cases v with
 | ref i =>
  obtain⟨w,rw',a,e1,hi⟩:=r1
  subst e1
  cases rw'
  dsimp only at K1
  cases hh:h1[i]? with
  | none=>rw[hh] at K1;exact Zf K1
  | some ob =>
   cases ob with
   | ins c fs =>
    rw[hh] at K1
    dsimp only at K1
    cases hd1:disp c with
    | none=>rw[hd1] at K1;exact Zf K1
    | some fd1 =>
     obtain⟨f,dvs⟩:=fd1
     cases hl:fs.lookup m with
     | some z=>rw[hd1,hl] at K1;exact Zf K1
     | none =>
      rw[hd1,hl] at K1
      dsimp only at K1
      obtain⟨C,fa,fd,k,ps,ds,hC,cl,hm,F,hr,hb,hdv,hn⟩:=hd c f dvs hd1
      obtain⟨C',dx,vs,hC',hH,rp⟩:=N1.at hh hi
      rw[hC] at hC'
      cases hC'
      refine Jht N1.inv hH cl hm ((RPs.lookup rp).2 hl) ?_
      exact W.callWith_K0 (first:=[.ref a]) N1.inv.kIn hm.kp (Yq (us:=[.ref a]) (xs:=[.ref i]) F hr hb hdv (by rw[ZN,Zbm];omega) N1 (.cons ⟨.ref a,rfl,a,rfl,hi⟩ .nil) K1)
   | _=>rw[hh] at K1;exact Zf K1
 | _=>exact Zf K1
def Jm (f:Str)(o:E1):E1:=λ σ h=>(o σ h).bind λ v h1=>match v with
 | .ref i=>(match h1[i]? with
  | some (.ins _ fs)=>(match fs.lookup f with
   | some x=>.ok x h1
   | none=>.stuck)
  | _=>.stuck)
 | _=>.stuck
def XO (ce:CeT)(K:W.Frag)(f:Str):Prop:=∀c C,ce c=Za C->Cls K C/\Q0 K C f
theorem J2t (ho:PEi ce X o mo)(hf:XO ce X.K fl)(hb:Zd1 o fl X.env (Zbr o X.env)=Zbr o X.env:=by rfl):PEi ce X (.Attribute o fl pos) (Jm fl mo):=by
 intro pj s σ H ι σi h Q E N K
 refine Jwy hb (ho.run N K λ v h1 u s1 H1 ι1 N1 n1 r1 K1=>?_)
 cases v with
 | ref i =>
  obtain⟨w,rw',a,e1,hi⟩:=r1
  subst e1
  cases rw'
  dsimp only at K1
  cases hh:h1[i]? with
  | none=>rw[hh] at K1;exact Zf K1
  | some ob =>
   cases ob with
   | ins c fs =>
    rw[hh] at K1
    dsimp only at K1
    cases hl:fs.lookup fl with
    | none=>rw[hl] at K1;exact Zf K1
    | some z =>
     rw[hl] at K1
     obtain⟨C,dx,vs,hC,hH,rp⟩:=N1.at hh hi
     obtain⟨cl,na⟩:=hf c C hC
     obtain⟨y,hy,q⟩:=(RPs.lookup rp).1 z hl
     exact Jhs N1.inv hH cl na hy λ u' s2 I2 ru=>K1 u' s2 H1 ι1 ⟨I2,N1.rel,N1.st⟩ .refl ⟨y,ru,q⟩
   | _=>rw[hh] at K1;exact Zf K1
 | _=>exact Zf K1
noncomputable def putI (f:Str)(v:IV):List (Str×IV)->List (Str×IV)
 | []=>[(f,v)]
 | (g,x)::r=>if g=f then(g,v)::r else(g,x)::putI f v r
theorem RPs.put {K:W.Frag}{ι:List Zq}{H:Hp}{fl:Str}{v:IV}{y:V}(q:RV K ι H v y):∀{fs:List (Str×IV)}{vs:List (Str×V)},RPs K ι H fs vs->RPs K ι H (putI fl v fs) (putF fl y vs)
 | [],_,h=>by
  have e:_=[]:=h
  subst e
  exact⟨y,[],rfl,q,rfl⟩
 | (g,x)::r,_,h=>by
  obtain⟨w,vr,e,qx,t⟩:=h
  subst e
  show RPs K ι H (if g=fl then(g,v)::r else(g,x)::putI fl v r) (if g=fl then(g,y)::vr else(g,w)::putF fl y vr)
  by_cases hg:g=fl
  ·rw[if_pos hg,if_pos hg]
   exact⟨y,vr,rfl,q,t⟩
  ·rw[if_neg hg,if_neg hg]
   exact⟨w,_,rfl,qx,RPs.put q t⟩
def JJ (f:Str)(o e:E1):S1:=λ σ h=>rS σ (e σ h) λ v h1=>rS σ (o σ h1) λ ov h2=>match ov with
 | .ref i=>(match h2[i]? with
  | some (.ins c fs)=>if fs.length<1000 then .next σ (h2.set i (.ins c (putI f v fs))) else .stuck
  | _=>.stuck)
 | _=>.stuck
theorem J3u {fl:Str}{value:Expr}{mv:E1}{pos':Pos}(ho:PEi ce X o mo)(hv:PEi ce X value mv)(hf:XO ce X.K fl)(hs:ZdM value (Za (.Attribute o fl pos')) pos.line X.env=pure Zm:=by rfl):PS1 ce X (.Assign [.Attribute o fl pos'] value pos) (JJ fl mo mv):=by
 intro pj s σ H ι σi h Q E N K
 refine plainObj_wpAny_Assign_Attribute (krun hv N K λ v h1 u s1 H1 ι1 N1 n1 r1 K1=>krun ho N1 K1 λ ov h2 w s2 H2 ι2 N2 n2 r2 K2=>?_) hs
 cases ov with
 | ref i =>
  obtain⟨w,rw',a,e1,hi⟩:=r2
  subst e1
  cases rw'
  dsimp only at K2
  cases hh:h2[i]? with
  | none=>rw[hh] at K2;exact Zf K2
  | some ob =>
   cases ob with
   | ins c fs =>
    rw[hh] at K2
    dsimp only at K2
    split at K2
    ·rename_i hz
     obtain⟨C,dx,vs,hC,hH,rp⟩:=N2.at hh hi
     obtain⟨cl,na⟩:=hf c C hC
     obtain⟨y,ry,q⟩:=r1
     refine Jhx N2.inv hH cl na (by rw[rp.length];exact hz) ry λ s3 I3=>?_
     have n3:Nxt ι2 H2 ι2 (upd H2 a (.ins C dx (putF fl y vs))):=⟨⟨[],by simp⟩,Ext.upd_mut hH (by rw[hH];exact Zaz)⟩
     obtain⟨R3,_⟩:=N2.rel.write (o:=.ins C dx (putF fl y vs)) (io:=.ins c (putI fl v fs)) hi hH (by rw[hH];exact Zaz) ⟨C,dx,_,hC,J0,RPs.put (RV.mono (n2.trans n3) _ _ q) (RPs.mono n3 _ _ rp)⟩
     exact K2 s3 σ _ ι2 ⟨I3,R3,N2.st.mono n3⟩ n3
    ·exact Zf K2
   | _=>rw[hh] at K2;exact Zf K2
 | _=>exact Zf K2
end
section
variable {ce:CeT}{X:Cx}{a b c:Expr}{ma mb mc:E1}{pos:Pos}
def Jg:IV->IV->IH->Res IV
 | .ref i,.int k,h=>match h[i]? with
  | some (.lst xs)=>(match atI xs k with
   | some v=>.ok v h
   | none=>.stuck)
  | _=>.stuck
 | .rol xs,.int k,h=>match atI xs k with
  | some v=>.ok v h
  | none=>.stuck
 | .tup xs,.int k,h=>match atI xs k with
  | some v=>.ok v h
  | none=>.stuck
 | .str x,.int k,h=>if x.length<=sizeLine then(match atI x.cps.toList k with
  | some c=>.ok (.str ⟨#[c]⟩) h
  | none=>.stuck) else .stuck
 | _,_,_=>.stuck
theorem Jh3 {K:W.Frag}{ι:List Zq}{H:Hp}{xs:List IV}{vs:List V}{k:Int}{v:IV}(r:RVs K ι H xs vs)(e:atI xs k=Za v):∃u,atI vs k=Za u/\RV K ι H v u:=by
 unfold atI at e ⊢
 rw[r.length]
 cases q:ixN xs.length k with
 | none=>rw[q] at e;cases e
 | some j =>
  rw[q] at e
  exact r.get e
def IxI (ce:CeT)(X:Cx)(g:IV->IV->IH->Res IV):Prop :=
 ∀(value slice:Expr)(pj:PnT)(s:Zl)(σ:L2.St)(H:Hp)(ι:List Zq)(σi:ISt)(h:IH)(x y:IV)(v u:Zh)(Q:QvT)(E:QvT),Now ce X pj ι σi h σ H s->RU X.K ι H x v->RU X.K ι H y u ->
  Kont ce X RU pj ι σi σ H (g x y h) Q E->Zfd slice Zm v u=operate [v,u] (Ze9 v u)->Zu (Z6 X.prog X.w) X.A (Zej value slice v u) Q E s
theorem Jnq {pj:PnT}{s:Zl}{σ:L2.St}{H:Hp}{Q:QvT}{E:QvT}{r:R2}{value slice:Expr}{x y:V}{v u:Zh}(p:IxR (X.wish E) r)(I:Inv X pj σ H s)(rx:RelV x v)(ry:RelV y u)
  (k:r x y H λ z H'=>∀u s',Inv X pj σ H' s'->RelV z u->Q u s')(hs:Zfd slice Zm v u=operate [v,u] (Ze9 v u)):Zu (Z6 X.prog X.w) X.A (Zej value slice v u) Q E s :=
 Zas (p value slice pj s σ H x y v u _ (I.wish E) rx ry k hs) (λ u s' ⟨_,_,I',r,q⟩=>q u s' I'.unwish r) λ _ _ z=>z
theorem x_ix:IxI ce X Jg:=by
 intro value slice pj s σ H ι σi h x y v u Q E N rx ry K hs
 obtain⟨xv,rx,qx⟩:=rx
 obtain⟨yv,ry,qy⟩:=ry
 cases y with
 | int k =>
  have e2:yv=.int k:=qy
  subst e2
  cases x with
  | ref i =>
   obtain⟨a,e1,ha⟩:=qx
   subst e1
   dsimp only[Jg] at K
   cases hi:h[i]? with
   | none=>rw[hi] at K;exact Zf K
   | some ob =>
    rw[hi] at K
    cases ob with
    | lst xs =>
     dsimp only at K
     cases hk:atI xs k with
     | none=>rw[hk] at K;exact Zf K
     | some z =>
      rw[hk] at K
      obtain⟨vs,e1,r1⟩:=N.at hi ha
      obtain⟨w,hw,qw⟩:=Jh3 r1 hk
      exact Jnq (Jq5 (X:=X.wish E)) N.inv rx ry ⟨a,vs,k,w,rfl,rfl,SqL.of e1,hw,fin0 N K qw⟩ hs
    | _=>exact Zf K
  | rol xs =>
   obtain⟨a,vs,e1,sa,ra⟩:=qx
   subst e1
   dsimp only[Jg] at K
   cases hk:atI xs k with
   | none=>rw[hk] at K;exact Zf K
   | some z =>
    rw[hk] at K
    obtain⟨w,hw,qw⟩:=Jh3 ra hk
    exact Jnq (Jq5 (X:=X.wish E)) N.inv rx ry ⟨a,vs,k,w,rfl,rfl,sa.sq,hw,fin0 N K qw⟩ hs
  | tup xs =>
   obtain⟨a,vs,e1,sa,ra⟩:=qx
   subst e1
   dsimp only[Jg] at K
   cases hk:atI xs k with
   | none=>rw[hk] at K;exact Zf K
   | some z =>
    rw[hk] at K
    obtain⟨w,hw,qw⟩:=Jh3 ra hk
    exact Jnq (J0c (X:=X.wish E)) N.inv rx ry ⟨a,vs,k,w,rfl,rfl,sa,hw,fin0 N K qw⟩ hs
  | str x =>
   have e1:xv=.str x:=qx
   subst e1
   dsimp only[Jg] at K
   split at K
   ·rename_i hz
    cases hk:atI x.cps.toList k with
    | none=>rw[hk] at K;exact Zf K
    | some z =>
     rw[hk] at K
     exact Jnq (J0b (X:=X.wish E)) N.inv rx ry ⟨x,k,z,rfl,rfl,hz,hk,fin0 N K rfl⟩ hs
   ·exact Zf K
  | _=>exact Zf K
 | _=>cases x<;>exact Zf K
theorem i_ix (hg:IxI ce X g)(ha:PEi ce X a ma)(hb:PEi ce X b mb)(hs:Jpl b:=by intro _ _;rfl):PEi ce X (.Subscript a b pos) (Jc g ma mb):=λ pj s σ H ι σi h Q E N K =>
 Subscript_ (ha.run N K λ x h1 u s1 H1 ι1 N1 n1 r1 K1=>hb.run N1 K1 λ y h2 w s2 H2 ι2 N2 n2 r2 K2=>hg a b pj s2 σ H2 ι2 σi h2 x y u w Q E N2 (r1.mono n2) r2 K2 (hs _ _))
abbrev O1:=ISt->IH->Res (Option Int)
def J2b:REL (Option Int) Zh:=λ _ _ _ o u=>ZfA u o
def PPi (ce:CeT)(X:Cx)(e:Option Expr)(m:O1):Prop:=PX ce X J2b (evalPart e X.env) m
noncomputable def Yl:O1:=λ _ h=>.ok Zd h
def V8 (e:E1):O1:=λ σ h=>(e σ h).bind λ v h1=>match v with
 | .int i=>.ok (Za i) h1
 | _=>.stuck
theorem J0z:PPi ce X Zd Yl:=by
 intro pj s σ H ι σi h Q E N K
 rw[evalPart_none]
 exact Zk (K _ s H ι N .refl .none)
theorem J00 (ha:PEi ce X a ma):PPi ce X (Za a) (V8 ma):=by
 intro pj s σ H ι σi h Q E N K
 rw[evalPart_some]
 refine ha.run N K λ x h1 u s1 H1 ι1 N1 n1 r1 K1=>?_
 cases x with
 | int i =>
  obtain⟨w,rw',q⟩:=r1
  have e:w=.int i:=q
  subst e
  obtain⟨t,rfl⟩:=rw'
  exact K1 _ s1 H1 ι1 N1 .refl (.int i t)
 | _=>exact Zf K1
def cutI {α:Type}(xs:List α)(lo hi:Option Int):List α:=(xs.drop (HT.sIx xs.length 0 lo)).take (HT.sIx xs.length xs.length hi-HT.sIx xs.length 0 lo)
def slI:IV->Option Int->Option Int->IH->Res IV
 | .ref i,lo,hi,h=>match h[i]? with
  | some (.lst xs)=>.ok (.ref h.length) (h++[.lst (cutI xs lo hi)])
  | _=>.stuck
 | .rol xs,lo,hi,h=>.ok (.ref h.length) (h++[.lst (cutI xs lo hi)])
 | _,_,_,_=>.stuck
theorem RVs.cut {K:W.Frag}{ι:List Zq}{H:Hp}{xs:List IV}{vs:List V}(r:RVs K ι H xs vs)(lo hi:Option Int):RVs K ι H (cutI xs lo hi) (cutV vs lo hi):=by
 unfold cutI cutV
 rw[r.length]
 exact(r.drop _).take _
def eSl (f:IV->Option Int->Option Int->IH->Res IV)(e:E1)(lo hi:O1):E1:=λ σ h=>(e σ h).bind λ x h1=>(lo σ h1).bind λ l h2=>(hi σ h2).bind λ u h3=>f x l u h3
def SlI (ce:CeT)(X:Cx)(g:IV->Option Int->Option Int->IH->Res IV):Prop :=
 ∀(pj:PnT)(s:Zl)(σ:L2.St)(H:Hp)(ι:List Zq)(σi:ISt)(h:IH)(x:IV)(v vl vu:Zh)(lo hi:Option Int)(sl:Zq)(Q:QvT)(E:QvT),Now ce X pj ι σi h σ H s->RU X.K ι H x v->s.heap.IsSliceOf sl vl vu .none->ZfA vl lo->ZfA vu hi ->
  Kont ce X RU pj ι σi σ H (g x lo hi h) Q E->∃T id,Zfs (.type T) "__getitem__"=pure (Za (.builtin id))/\s.TypeIs v T/\Zu (Z6 X.prog X.w) X.A (Ze9 v (.ref sl)) Q E s
theorem Jwr {pj:PnT}{s:Zl}{σ:L2.St}{H:Hp}{Q:QvT}{E:QvT}{r:V->Option Int->Option Int->Hp->VK->Prop}{x:V}{v vl vu:Zh}{lo hi:Option Int}{sl:Zq}(p:SlR (X.wish E) r)(I:Inv X pj σ H s)(rx:RelV x v)
  (hs:s.heap.IsSliceOf sl vl vu .none)(pl:ZfA vl lo)(pu:ZfA vu hi)(k:r x lo hi H λ z H'=>∀u s',Inv X pj σ H' s'->RelV z u->Q u s') :
  ∃T id,Zfs (.type T) "__getitem__"=pure (Za (.builtin id))/\s.TypeIs v T/\Zu (Z6 X.prog X.w) X.A (Ze9 v (.ref sl)) Q E s:=by
 obtain⟨T,id,h1,h2,h3⟩:=p pj s σ H x v vl vu lo hi sl _ (I.wish E) rx hs pl pu k
 exact⟨T,id,h1,h2,Zas h3 (λ u s' ⟨_,_,I',r,q⟩=>q u s' I'.unwish r) λ _ _ z=>z⟩
theorem Jxr {g:IV->Option Int->Option Int->IH->Res IV}{lo hi:Option Expr}{ml mh:O1}{p2:Pos}(hr:SlI ce X g)(he:PEi ce X a ma)(hl:PPi ce X lo ml)(hu:PPi ce X hi mh):PEi ce X (.Subscript a (.Slice lo hi Zd p2) pos) (eSl g ma ml mh):=by
 intro pj s σ H ι σi h Q E N K
 refine Subscript_ (he.run N K λ x h1 v s1 H1 ι1 N1 n1 r1 K1=>?_)
 refine wpAny_Slice (PX.run hl N1 K1 λ l h2 vl s2 H2 ι2 N2 n2 pl K2=>PX.run hu N2 K2 λ u h3 vu s3 H3 ι3 N3 n3 pu K3=>?_)
 rw[evalPart_none]
 refine Zk ?_
 have I4:Inv X pj σ H3 { s3 with heap:=s3.heap.push { cls:=.type "slice",data:=.fields #[vl,vu,.none] } }:=N3.inv.kept (t':=s3.toks) λ b ob q=>Ze _ q
 obtain⟨T,id,hT,ht,hg⟩:=hr pj { s3 with heap:=s3.heap.push { cls:=.type "slice",data:=.fields #[vl,vu,.none] } } σ H3 ι3 σi h3 x v vl vu l u s3.heap.objs.size Q E ⟨I4,N3.rel,N3.st⟩ ((r1.mono n2).mono n3) (Heap.IsSliceOf.new ..) pl pu K3
 show Zu (Z6 X.prog X.w) X.A (Zej a (.Slice lo hi Zd p2) v (.ref s3.heap.objs.size)) Q E { s3 with heap:=s3.heap.push { cls:=.type "slice",data:=.fields #[vl,vu,.none] } }
 exact tail_any (ops:=[.ref s3.heap.objs.size,v]) ht hT hg (by with_unfolding_all rfl)
def eCB (f:List IV->IH->Res IV)(a:A1):E1:=λ σ h=>(a σ h).bind f
variable {es:List Expr}{mr:A1}{x:Str}{p:Pos}{id T:String}{g:List IV->IH->Res IV}
theorem V5 (hc:Qt ce X (.builtin id) g)(hg:Gl X x)(hm:X.mg x=Zd)(hv:Zc1 x=Za (.builtin id))(ha:PAi ce X (a::es) mr)(hn:x≠"__name__":=by decide)(hdb:(x==("__debug__":Str))=Zm:=by decide) 
  (he:ZE (a::es) X.env=(Zm,Zbr a X.env)::ZE es X.env:=by rfl)(hpl:(Zb6 pos (ZE es X.env)).any (·.1)=Zm:=by rfl):PEi ce X (.Call (.Name x p) (a::es) [] pos) (eCB g mr):=λ pj s σ H ι σi h Q E N K =>
 Zac (Qh N.inv hg hm hv (Zbw ((ha pos).run N K λ xs h1 us s1 H1 ι1 N1 n1 r1 K1=>hc pj s1 σ H1 ι1 σi h1 xs us Q E N1 r1 K1) he hpl) hn hdb)
theorem Jqu (hc:Qt ce X (.type T) g)(hg:Gl X x)(hm:X.mg x=Zd)(hv:Zc1 x=Za (.type T))(ha:PAi ce X (a::es) mr)(hn:x≠"__name__":=by decide)(hdb:(x==("__debug__":Str))=Zm:=by decide) 
  (he:ZE (a::es) X.env=(Zm,Zbr a X.env)::ZE es X.env:=by rfl)(hpl:(Zb6 pos (ZE es X.env)).any (·.1)=Zm:=by rfl):PEi ce X (.Call (.Name x p) (a::es) [] pos) (eCB g mr):=λ pj s σ H ι σi h Q E N K =>
 Zac (Qh N.inv hg hm hv (ZaJ ((ha pos).run N K λ xs h1 us s1 H1 ι1 N1 n1 r1 K1=>hc pj s1 σ H1 ι1 σi h1 xs us Q E N1 r1 K1) he hpl) hn hdb)
def on1 (f:IV->IH->Res IV):List IV->IH->Res IV
 | [x],h=>f x h
 | _,_=>.stuck
def on2 (f:IV->IV->IH->Res IV):List IV->IH->Res IV
 | [x,y],h=>f x y h
 | _,_=>.stuck
theorem RVs.one_of {K:W.Frag}{ι:List Zq}{H:Hp}{x:IV}{vs:List V}(r:RVs K ι H [x] vs):∃v,vs=[v]/\RV K ι H x v:=by
 obtain⟨v,r',e,q,q2⟩:=r
 have e2:r'=[]:=q2
 subst e2
 exact⟨v,e,q⟩
theorem RVs.two_of {K:W.Frag}{ι:List Zq}{H:Hp}{x y:IV}{vs:List V}(r:RVs K ι H [x,y] vs):∃v w,vs=[v,w]/\RV K ι H x v/\RV K ι H y w:=by
 obtain⟨v,r',e,q,r2⟩:=r
 obtain⟨w,e2,q2⟩:=r2.one_of
 subst e2
 exact⟨v,w,e,q,q2⟩
theorem V2 {fv:Zh}{f:IV->IH->Res IV}(hh:∀(pj:PnT)(s:Zl)(σ:L2.St)(H:Hp)(ι:List Zq)(σi:ISt)(h:IH)(x:IV)(xv:V)(u:Zh)(Q:QvT)(E:QvT),Now ce X pj ι σi h σ H s->RelV xv u->RV X.K ι H x xv ->
  Kont ce X RU pj ι σi σ H (f x h) Q E->Zu (Z6 X.prog X.w) X.A (call fv [u]) Q E s):Qt ce X fv (on1 f):=by
 intro pj s σ H ι σi h xs us Q E N r K
 obtain⟨vs,rv,q⟩:=r
 match xs,K with
 | [x],K =>
  obtain⟨v,e,qx⟩:=q.one_of
  subst e
  obtain⟨u,rfl,ru⟩:=QE rv
  exact hh pj s σ H ι σi h x v u Q E N ru qx K
 | [],K=>exact Zf K
 | _::_::_,K=>exact Zf K
noncomputable def lenI:IV->IH->Res IV
 | .str x,h=>if x.length<=sizeLine then .ok (.int x.length) h else .stuck
 | .tup xs,h=>.ok (.int xs.length) h
 | .rol xs,h=>.ok (.int xs.length) h
 | .ref i,h=>match h[i]? with
  | some (.lst xs)=>.ok (.int xs.length) h
  | _=>.stuck
 | _,_=>.stuck
theorem J2f:Qt ce X (.builtin "len") (on1 lenI):=V2 λ pj s σ H ι σi h x xv u Q E N ru qx K=>by
 cases x with
 | str y =>
  have e:xv=.str y:=qx
  subst e
  dsimp only[lenI] at K
  split at K
  ·rename_i hz
   exact QP (Jfr (X:=X.wish E)) N.inv (.cons ru .nil) ⟨_,_,rfl,⟨hz,rfl⟩,fin0 N K rfl⟩
  ·exact Zf K
 | tup xs =>
  obtain⟨a,vs,e1,sa,ra⟩:=qx
  subst e1
  exact QP (Jfr (X:=X.wish E)) N.inv (.cons ru .nil) ⟨_,xs.length,rfl,.inr ⟨vs,sa,ra.length.symm⟩,fin0 N K rfl⟩
 | rol xs =>
  obtain⟨a,vs,e1,sa,ra⟩:=qx
  subst e1
  exact QP (Jfr (X:=X.wish E)) N.inv (.cons ru .nil) ⟨_,xs.length,rfl,.inl ⟨vs,sa.sq,ra.length.symm⟩,fin0 N K rfl⟩
 | ref i =>
  obtain⟨a,e1,ha⟩:=qx
  subst e1
  dsimp only[lenI] at K
  cases hi:h[i]? with
  | none=>rw[hi] at K;exact Zf K
  | some ob =>
   rw[hi] at K
   cases ob with
   | lst xs =>
    obtain⟨vs,e1,r1⟩:=N.at hi ha
    exact QP (Jfr (X:=X.wish E)) N.inv (.cons ru .nil) ⟨_,xs.length,rfl,.inl ⟨vs,SqL.of e1,r1.length.symm⟩,fin0 N K rfl⟩
   | _=>exact Zf K
 | _=>exact Zf K
end
def ALen (n:Nat)(m:A1):Prop:=∀σ h xs h',m σ h=.ok xs h'->xs.length=n
theorem Jsz:ALen 0 Jd:=λ _ _ xs _ e=>by
 unfold Jd at e
 cases e
 rfl
theorem Jpm (hr:ALen n r):ALen (n+1) (Jb e r):=λ σ h xs h' q=>by
 unfold Jb at q
 cases e1:e σ h with
 | ok x h1 =>
  rw[e1] at q
  change (r σ h1).bind (λ xs h2=>.ok (x::xs) h2)=_ at q
  cases e2:r σ h1 with
  | ok ys h2 =>
   rw[e2] at q
   cases q
   rw[ZN,hr σ h1 ys _ e2]
  | exc n h2=>rw[e2] at q;cases q
  | stuck=>rw[e2] at q;cases q
 | exc n h1=>rw[e1] at q;cases q
 | stuck=>rw[e1] at q;cases q
def XD (K:W.Frag)(x:Str)(f:List IV->IH->Res IV):Sp:=λ vs H Q E=>∀ce,spI ce K [x] f vs H Q E
theorem Jti {P:ZC}{w:ZU}{K:W.Frag}{mg:Str->Option Zh}{base:Zar}{k:Nat}{fa:Zq}{fd:ZaP}{x:Str}{f:List IV->IH->Res IV}{ce:CeT}(F:FnOk P w K mg base (CXI P w) k fa fd [x] (spI ce K [x] f)) :
  FnOk P w K mg base (CXI P w) k fa fd [x] (XD K x f):=F.imp λ _ _ _ _ h=>h ce
noncomputable def toD (h:IH):Nat->IV->Option ZdU
 | 0=>λ v=>match v with
  | .non=>Za .none
  | .bl b=>Za (.bool b)
  | .int i=>Za (.int i)
  | .str x=>Za (.str x)
  | _=>Zd
 | n+1=>λ v=>match v with
  | .non=>Za .none
  | .bl b=>Za (.bool b)
  | .int i=>Za (.int i)
  | .str x=>Za (.str x)
  | .tup xs=>(xs.mapM (toD h n)).map .tuple
  | .rol xs=>(xs.mapM (toD h n)).map .list
  | .ref i=>match h[i]? with
   | some (.lst xs)=>(xs.mapM (toD h n)).map .list
   | _=>Zd
section
variable {ce:CeT}{X:Cx}
theorem Jbx {n:Nat}(N:Now ce X pj ι σi h σ H s) 
  (ih:∀(v:IV)(d:ZdU)(x:V)(u:Zh),toD h n v=Za d->RV X.K ι H v x->RelV x u->∃as,Reads s.heap u d as) :
  ∀(xs:List IV)(ds:List ZdU)(vs:List V)(us:List Zh),xs.mapM (toD h n)=Za ds->RVs X.K ι H xs vs->Vals vs us->∃as,ReadsAll s.heap us ds as
 | [],ds,vs,us,e,q,r=>by
  have e1:vs=[]:=q
  subst e1
  cases r
  simp at e
  subst e
  exact⟨_,.nil⟩
 | x::xs,ds,vs,us,e,q,r=>by
  obtain⟨v,vr,e1,q1,q2⟩:=q
  subst e1
  cases r with
  | cons r1 r2 =>
   rw[ZdV] at e
   cases e2:toD h n x with
   | none=>rw[e2] at e;cases e
   | some d =>
    rw[e2] at e
    cases e3:xs.mapM (toD h n) with
    | none=>rw[e3] at e;cases e
    | some dr =>
     rw[e3] at e
     cases e
     obtain⟨as,h1⟩:=ih x d v _ e2 q1 r1
     obtain⟨bs,h2⟩:=Jbx N ih xs dr vr _ e3 q2 r2
     exact⟨_,.cons h1 h2⟩
theorem Jfz (N:Now ce X pj ι σi h σ H s):∀(n:Nat)(v:IV)(d:ZdU)(x:V)(u:Zh),toD h n v=Za d->RV X.K ι H v x->RelV x u->∃as,Reads s.heap u d as:=by
 have flat:∀(v:IV)(d:ZdU)(x:V)(u:Zh),toD h 0 v=Za d->RV X.K ι H v x->RelV x u->∃as,Reads s.heap u d as:=by
  intro v d x u e q r
  cases v with
  | non=>cases e;have e1:x=.non:=q;subst e1;cases r;exact⟨_,.none⟩
  | bl b=>cases e;have e1:x=.bl b:=q;subst e1;cases r;exact⟨_,.bool b⟩
  | int i=>cases e;have e1:x=.int i:=q;subst e1;obtain⟨t,rfl⟩:=r;exact⟨_,.int i t⟩
  | str z=>cases e;have e1:x=.str z:=q;subst e1;obtain⟨t,rfl⟩:=r;exact⟨_,.str z t⟩
  | _=>cases e
 intro n
 induction n with
 | zero=>exact flat
 | succ n ih =>
  intro v d x u e q r
  cases v with
  | non=>exact flat .non d x u e q r
  | bl b=>exact flat (.bl b) d x u e q r
  | int i=>exact flat (.int i) d x u e q r
  | str z=>exact flat (.str z) d x u e q r
  | tup xs =>
   obtain⟨a,vs,e1,sa,ra⟩:=q
   subst e1
   cases r
   obtain⟨ds,e2,rfl⟩:=Z8.mp (show(xs.mapM (toD h n)).map ZeC=Za d from e)
   obtain⟨its,rv,⟨o,ho,hc,m,hd⟩,hz⟩:=N.inv.tuple sa
   obtain⟨as,h1⟩:=Jbx N ih xs ds vs its e2 ra rv
   exact⟨_,.tuple ho hc hd h1⟩
  | rol xs =>
   obtain⟨a,vs,e1,sa,ra⟩:=q
   subst e1
   cases r
   obtain⟨ds,e2,rfl⟩:=Z8.mp (show(xs.mapM (toD h n)).map ZcZ=Za d from e)
   obtain⟨its,rv,⟨o,m,ho,hc,_,hd⟩,hz⟩:=N.inv.list sa.sq
   obtain⟨as,h1⟩:=Jbx N ih xs ds vs its e2 ra rv
   exact⟨_,.list ho hc hd h1⟩
  | ref i =>
   obtain⟨a,e1,ha⟩:=q
   subst e1
   cases r
   have e':(match h[i]? with|some (.lst xs)=>(xs.mapM (toD h n)).map ZcZ|_=>Zd)=Za d:=e
   cases hi:h[i]? with
   | none=>rw[hi] at e';cases e'
   | some ob =>
    rw[hi] at e'
    cases ob with
    | lst xs =>
     obtain⟨ds,e2,rfl⟩:=Z8.mp e'
     obtain⟨vs,e1,r1⟩:=N.at hi ha
     obtain⟨its,rv,⟨o,m,ho,hc,_,hd⟩,hz⟩:=N.inv.list (SqL.of e1)
     obtain⟨as,h1⟩:=Jbx N ih xs ds vs its e2 r1 rv
     exact⟨_,.list ho hc hd h1⟩
    | _=>cases e'
theorem Jbv (hf:∀v d,f v=Za d->d.depth<=n):∀(xs:List IV)(ds:List ZdU),xs.mapM f=Za ds->PyData.depthAll ds<=n
 | [],ds,e=>by simp at e;subst e;exact ZK _
 | x::xs,ds,e=>by
  rw[ZdV] at e
  cases e2:f x with
  | none=>rw[e2] at e;cases e
  | some d =>
   rw[e2] at e
   cases e3:xs.mapM f with
   | none=>rw[e3] at e;cases e
   | some dr =>
    rw[e3] at e
    cases e
    have h1:=hf x d e2
    have h2:=Jbv hf xs dr e3
    show max d.depth (PyData.depthAll dr)<=n
    omega
theorem Jlc:∀(n:Nat)(v:IV)(d:ZdU),toD h n v=Za d->d.depth<=n:=by
 intro n
 induction n with
 | zero =>
  intro v d e
  cases v<;>cases e<;>exact Zr _
 | succ n ih =>
  intro v d e
  cases v with
  | non=>cases e;exact ZK _
  | bl b=>cases e;exact ZK _
  | int i=>cases e;exact ZK _
  | str z=>cases e;exact ZK _
  | tup xs =>
   obtain⟨ds,e2,rfl⟩:=Z8.mp (show(xs.mapM (toD h n)).map ZeC=Za d from e)
   exact Zdw (Jbv ih xs ds e2)
  | rol xs =>
   obtain⟨ds,e2,rfl⟩:=Z8.mp (show(xs.mapM (toD h n)).map ZcZ=Za d from e)
   exact Zdw (Jbv ih xs ds e2)
  | ref i =>
   have e':(match h[i]? with|some (.lst xs)=>(xs.mapM (toD h n)).map ZcZ|_=>Zd)=Za d:=e
   cases hi:h[i]? with
   | none=>rw[hi] at e';cases e'
   | some ob =>
    rw[hi] at e'
    cases ob with
    | lst xs =>
     obtain⟨ds,e2,rfl⟩:=Z8.mp e'
     exact Zdw (Jbv ih xs ds e2)
    | _=>cases e'
noncomputable def VZ:IV->IV->Option Bool
 | .non,.non=>Za Zj
 | .int i,.int j=>Za (decide (i=j))
 | .str i,.str j=>Za (decide (i=j))
 | .bl i,.bl j=>Za (decide (i=j))
 | _,_=>Zd
noncomputable def QU (x y:IV)(h:IH):Option Bool:=match toD h 6 x,toD h 6 y with
 | some a,Za b=>if a.canLay0=Zj/\b.canLay0=Zj then Za (Zcj a b) else Zd
 | _,_=>Zd
noncomputable def cEq (x y:IV)(h:IH):Res IV:=match VZ x y with
 | some b=>.ok (.bl b) h
 | none=>match QU x y h with
  | some b=>.ok (.bl b) h
  | none=>.stuck
noncomputable def cNe (x y:IV)(h:IH):Res IV:=match VZ x y with
 | some b=>.ok (.bl (!b)) h
 | none=>match QU x y h with
  | some b=>.ok (.bl (!b)) h
  | none=>.stuck
theorem Jmp (e:QU x y h=Za b):∃da db,toD h 6 x=Za da/\toD h 6 y=Za db/\da.canLay0=Zj/\db.canLay0=Zj/\b=Zcj da db:=by
 unfold QU at e
 cases e1:toD h 6 x with
 | none=>rw[e1] at e;cases e
 | some da =>
  cases e2:toD h 6 y with
  | none=>rw[e1,e2] at e;cases e
  | some db =>
   rw[e1,e2] at e
   dsimp only at e
   split at e
   ·rename_i hz
    cases e
    exact⟨da,db,rfl,rfl,hz.1,hz.2,rfl⟩
   ·cases e
theorem Jla {K:W.Frag}{ι:List Zq}{H:Hp}{x y:IV}{b:Bool}{xv yv:V}(e:VZ x y=Za b)(qx:RV K ι H x xv)(qy:RV K ι H y yv):scal xv yv=Zj/\decide (xv=yv)=b:=by
 cases x with
 | non =>
  cases y with
  | non=>cases e;cases (show xv=.non from qx);cases (show yv=.non from qy);exact⟨rfl,rfl⟩
  | _=>cases e
 | int i =>
  cases y with
  | int j=>cases e;cases (show xv=.int i from qx);cases (show yv=.int j from qy);exact⟨rfl,by simp⟩
  | _=>cases e
 | str i =>
  cases y with
  | str j=>cases e;cases (show xv=.str i from qx);cases (show yv=.str j from qy);exact⟨rfl,by simp⟩
  | _=>cases e
 | bl i =>
  cases y with
  | bl j=>cases e;cases (show xv=.bl i from qx);cases (show yv=.bl j from qy);exact⟨rfl,by simp⟩
  | _=>cases e
 | _=>cases y<;>cases e
theorem o_eq (hu:X.A.units+64<cLine):OpI ce X (Za5 .Eq) cEq:=by
 intro pj s σ H ι σi h x y v u Q E N rx ry K
 obtain⟨xv,rx,qx⟩:=rx
 obtain⟨yv,ry,qy⟩:=ry
 unfold cEq at K
 cases es:VZ x y with
 | some b =>
  rw[es] at K
  obtain⟨h1,h2⟩:=Jla es qx qy
  exact JV (J3d (X:=X.wish E)) N.inv rx ry ⟨h1,by rw[h2];exact fin0 N K rfl⟩
 | none =>
  rw[es] at K
  dsimp only at K
  cases ed:QU x y h with
  | none=>rw[ed] at K;exact Zf K
  | some b =>
   rw[ed] at K
   obtain⟨da,db,e1,e2,c1,c2,rfl⟩:=Jmp ed
   obtain⟨as,r1⟩:=Jfz N 6 x da xv v e1 qx rx
   obtain⟨bs,r2⟩:=Jfz N 6 y db yv u e2 qy ry
   have d1:=Jlc 6 x da e1
   exact PySem.SeqAt.compareEq_reads r1 r2 c1 c2 (by omega) (fin0 N K rfl _ s N.inv rfl)
theorem o_ne (hu:X.A.units+64<cLine):OpI ce X (Za5 .NotEq) cNe:=by
 intro pj s σ H ι σi h x y v u Q E N rx ry K
 obtain⟨xv,rx,qx⟩:=rx
 obtain⟨yv,ry,qy⟩:=ry
 unfold cNe at K
 cases es:VZ x y with
 | some b =>
  rw[es] at K
  obtain⟨h1,h2⟩:=Jla es qx qy
  exact JV (J3i (X:=X.wish E)) N.inv rx ry ⟨h1,by rw[h2];exact fin0 N K rfl⟩
 | none =>
  rw[es] at K
  dsimp only at K
  cases ed:QU x y h with
  | none=>rw[ed] at K;exact Zf K
  | some b =>
   rw[ed] at K
   obtain⟨da,db,e1,e2,c1,c2,rfl⟩:=Jmp ed
   obtain⟨as,r1⟩:=Jfz N 6 x da xv v e1 qx rx
   obtain⟨bs,r2⟩:=Jfz N 6 y db yv u e2 qy ry
   have d1:=Jlc 6 x da e1
   exact PySem.SeqAt.compareNe_reads r1 r2 c1 c2 (by omega) (fin0 N K rfl _ s N.inv rfl)
noncomputable def isI:IV->IV->Option Bool
 | .non,.non=>Za Zj
 | .bl a,.bl b=>Za (a==b)
 | .bl _,.non=>Za Zm
 | .int _,.non=>Za Zm
 | .str _,.non=>Za Zm
 | .tup _,.non=>Za Zm
 | .rol _,.non=>Za Zm
 | .ref _,.non=>Za Zm
 | .non,.bl _=>Za Zm
 | .int _,.bl _=>Za Zm
 | .str _,.bl _=>Za Zm
 | .tup _,.bl _=>Za Zm
 | .rol _,.bl _=>Za Zm
 | .ref _,.bl _=>Za Zm
 | _,_=>Zd
noncomputable def cIs (x y:IV)(h:IH):Res IV:=match isI x y with
 | some b=>.ok (.bl b) h
 | none=>.stuck
noncomputable def VP (x y:IV)(h:IH):Res IV:=match isI x y with
 | some b=>.ok (.bl (!b)) h
 | none=>.stuck
theorem Jv3 {K:W.Frag}{ι:List Zq}{H:Hp}{x y:IV}{b:Bool}{v u:Zh}(e:isI x y=Za b)(rx:RU K ι H x v)(ry:RU K ι H y u):plainIs v u=Zj/\(v==u)=b:=by
 obtain⟨xv,rx,qx⟩:=rx
 obtain⟨yv,ry,qy⟩:=ry
 cases y with
 | non =>
  cases (show yv=.non from qy)
  cases ry
  cases x with
  | non=>cases e;cases (show xv=.non from qx);cases rx;exact⟨rfl,rfl⟩
  | bl c=>cases e;cases (show xv=.bl c from qx);cases rx;exact⟨rfl,rfl⟩
  | int c=>cases e;cases (show xv=.int c from qx);obtain⟨t,rfl⟩:=rx;exact⟨rfl,rfl⟩
  | str c=>cases e;cases (show xv=.str c from qx);obtain⟨t,rfl⟩:=rx;exact⟨rfl,rfl⟩
  | tup c=>cases e;obtain⟨a,vs,rfl,_⟩:=qx;cases rx;exact⟨rfl,rfl⟩
  | rol c=>cases e;obtain⟨a,vs,rfl,_⟩:=qx;cases rx;exact⟨rfl,rfl⟩
  | ref c=>cases e;obtain⟨a,rfl,_⟩:=qx;cases rx;exact⟨rfl,rfl⟩
 | bl d =>
  cases (show yv=.bl d from qy)
  cases ry
  cases x with
  | non=>cases e;cases (show xv=.non from qx);cases rx;exact⟨rfl,rfl⟩
  | bl c=>cases e;cases (show xv=.bl c from qx);cases rx;cases c<;>cases d<;>exact⟨rfl,rfl⟩
  | int c=>cases e;cases (show xv=.int c from qx);obtain⟨t,rfl⟩:=rx;exact⟨rfl,rfl⟩
  | str c=>cases e;cases (show xv=.str c from qx);obtain⟨t,rfl⟩:=rx;exact⟨rfl,rfl⟩
  | tup c=>cases e;obtain⟨a,vs,rfl,_⟩:=qx;cases rx;exact⟨rfl,rfl⟩
  | rol c=>cases e;obtain⟨a,vs,rfl,_⟩:=qx;cases rx;exact⟨rfl,rfl⟩
  | ref c=>cases e;obtain⟨a,rfl,_⟩:=qx;cases rx;exact⟨rfl,rfl⟩
 | _=>cases x<;>cases e
theorem o_is:OpI ce X (Za5 .Is) cIs:=by
 intro pj s σ H ι σi h x y v u Q E N rx ry K
 unfold cIs at K
 cases ei:isI x y with
 | none=>rw[ei] at K;exact Zf K
 | some b =>
  rw[ei] at K
  obtain⟨h1,h2⟩:=Jv3 ei rx ry
  exact wpAny_is_plain h1 (by rw[h2];exact fin0 N K rfl _ s N.inv rfl)
theorem Jx5:OpI ce X (Za5 .IsNot) VP:=by
 intro pj s σ H ι σi h x y v u Q E N rx ry K
 unfold VP at K
 cases ei:isI x y with
 | none=>rw[ei] at K;exact Zf K
 | some b =>
  rw[ei] at K
  obtain⟨h1,h2⟩:=Jv3 ei rx ry
  exact wpAny_isNot_plain h1 (by rw[h2];exact fin0 N K rfl _ s N.inv rfl)
inductive Ty where
 | non|bl|int|str|lst|tup|dct|ins (c:Str)|exc (c:Str)
noncomputable def tyI:IV->IH->Option Ty
 | .non,_=>Za .non
 | .bl _,_=>Za .bl
 | .int _,_=>Za .int
 | .str _,_=>Za .str
 | .tup _,_=>Za .tup
 | .rol _,_=>Za .lst
 | .ref i,h=>match h[i]? with
  | some (.lst _)=>Za .lst
  | some (.dct _)=>Za .dct
  | some (.ins c _)=>Za (.ins c)
  | _=>Zd
structure ClsI (K:W.Frag)(C:Zq):Prop where
 cl:Cls K C
 ha:W.findIn K (.ref C) "__class__"=Za (Za (.builtin "object.__class__"))
 hn:W.specialIn K (.builtin "object.__class__") "__get__"=Za (Za (.builtin "getset_descriptor.__get__"))
 htk:W.takesIn K (.builtin "object.__class__")=Za Zj
 hm:W.mroIn K C (.type "object")=Za Zj
structure IsOk (ce:CeT)(K:W.Frag)(c:Zh)(ans:Ty->Option Bool):Prop where
 non:∀b,ans .non=Za b->W.kitOne K (.type "NoneType") c=Za b
 bl:∀b,ans .bl=Za b->W.kitOne K (.type "bool") c=Za b
 int:∀b,ans .int=Za b->W.kitOne K (.type "int") c=Za b
 str:∀b,ans .str=Za b->W.kitOne K (.type "str") c=Za b
 lst:∀b,ans .lst=Za b->W.kitOne K (.type "list") c=Za b
 tup:∀b,ans .tup=Za b->W.kitOne K (.type "tuple") c=Za b
 dct:∀b,ans .dct=Za b->W.kitOne K (.type "dict") c=Za b
 ins:∀k C b,ans (.ins k)=Za b->ce k=Za C->ClsI K C/\W.kitOne K (.ref C) c=Za b
 exc:∀k C b,ans (.exc k)=Za b->W.nsIn K Z4 k=Za (Za (.ref C))->ExI K C/\W.kitOne K (.ref C) c=Za b
def eIsi (ans:Ty->Option Bool)(e:E1):E1:=λ σ h=>(e σ h).bind λ v h1=>match (tyI v h1).bind ans with
 | some b=>.ok (.bl b) h1
 | none=>.stuck
theorem Jxu {b:Bool}{Q:QvT}{E:QvT}{A:ZJ}(N:Now ce X pj ι σi h σ H s)(rx:RU X.K ι H x u)(O:IsOk ce X.K c ans) 
  (e:(tyI x h).bind ans=Za b)(hq:∀tk,Q (.bool b) { s with toks:=tk }):Zu (Z6 X.prog X.w) A (call (.builtin "isinstance") [u,c]) Q E s:=by
 obtain⟨xv,rx,qx⟩:=rx
 cases x with
 | non=>cases (show xv=.non from qx);cases rx;exact W.kia_one W.kitx_none N.inv.kIn Zaz (O.non b e) (λ z=>nomatch z) hq
 | bl i=>cases (show xv=.bl i from qx);cases rx;exact W.kia_one W.kitx_bool N.inv.kIn Zaz (O.bl b e) (λ z=>nomatch z) hq
 | int i=>cases (show xv=.int i from qx);obtain⟨t,rfl⟩:=rx;exact W.kia_one W.kitx_int N.inv.kIn Zaz (O.int b e) (λ z=>nomatch z) hq
 | str i=>cases (show xv=.str i from qx);obtain⟨t,rfl⟩:=rx;exact W.kia_one W.kitx_str N.inv.kIn Zaz (O.str b e) (λ z=>nomatch z) hq
 | tup xs =>
  obtain⟨a,vs,rfl,sa,_⟩:=qx
  cases rx
  obtain⟨its,rv,⟨o,ho,hc,m,hd⟩,hz⟩:=N.inv.tuple sa
  exact W.kia_one W.kitx_tuple N.inv.kIn ⟨o,ho,hc⟩ (O.tup b e) (λ z=>nomatch z) hq
 | rol xs =>
  obtain⟨a,vs,rfl,sa,_⟩:=qx
  cases rx
  obtain⟨its,rv,⟨o,m,ho,hc,_,hd⟩,hz⟩:=N.inv.list sa.sq
  exact W.kia_one W.kitx_list N.inv.kIn ⟨o,ho,hc⟩ (O.lst b e) (λ z=>nomatch z) hq
 | ref i =>
  obtain⟨a,rfl,ha⟩:=qx
  cases rx
  cases hi:h[i]? with
  | none=>simp[tyI,hi] at e
  | some ob =>
   cases ob with
   | lst xs =>
    simp only[tyI,hi] at e
    obtain⟨vs,e1,r1⟩:=N.at hi ha
    obtain⟨its,rv,⟨o,m,ho,hc,_,hd⟩,hz⟩:=N.inv.list (SqL.of e1)
    exact W.kia_one W.kitx_list N.inv.kIn ⟨o,ho,hc⟩ (O.lst b e) (λ z=>nomatch z) hq
   | dct kvs =>
    simp only[tyI,hi] at e
    obtain⟨vs,e1,r1⟩:=N.at hi ha
    obtain⟨_,_,ws,_,p⟩:=(show JC X.prog X.w H s.heap a (.dK vs) from N.inv.hok a _ e1)
    obtain⟨o,es,ep,h1,h2,_⟩:=p
    exact W.kia_one W.kitx_dict N.inv.kIn ⟨o,h1,h2.1⟩ (O.dct b e) (λ z=>nomatch z) hq
   | ins c fs =>
    simp only[tyI,hi] at e
    obtain⟨C,dx,vs,hC,hH,rp⟩:=N.at hi ha
    obtain⟨I,hk⟩:=O.ins c C b e hC
    obtain⟨mA,Ob,_⟩:=Jiq N.inv.hok hH
    obtain⟨od,J,_⟩:=Ob.look
    exact W.kia_one (W.kitx_own (I.cl.get _) I.cl.hd I.ha I.hn I.htk I.hm) N.inv.kIn J hk (λ z=>nomatch z) hq
   | exc c fs=>simp[tyI,hi] at e
   | hld c fs=>simp[tyI,hi] at e
   | tab q=>simp[tyI,hi] at e
variable {a cx:Expr}{ma:E1}{pos p:Pos}
def ClsE (X:Cx)(cx:Expr)(c:Zh):Prop:=∀(pj:PnT)(σ:L2.St)(H:Hp)(s:Zl)(Q:QvT)(E:QvT),Inv X pj σ H s->Q c s->Zu (Z6 X.prog X.w) X.A (Zbr cx X.env) Q E s
theorem XV (hg:Gl X x)(hm:X.mg x=Zd)(hv:Zc1 x=Za c)(hn:x≠"__name__":=by decide)(hdb:(x==("__debug__":Str))=Zm:=by decide):ClsE X (.Name x p) c:=λ _ _ _ _ _ _ I q=>Qh I hg hm hv q hn hdb
theorem Jw2 (hg:Gl X x)(hm:X.mg x=Za c)(hdb:(x==("__debug__":Str))=Zm:=by decide):ClsE X (.Name x p) c:=λ _ _ _ _ _ _ I q=>VT I hg hm q hdb
theorem J2v {ans:Ty->Option Bool}{c:Zh}(hc:ClsE X cx c)(O:IsOk ce X.K c ans)(ha:PEi ce X a ma)(hg:Gl X "isinstance")(hm:X.mg "isinstance"=Zd)(hv:Zc1 "isinstance"=Za (.builtin "isinstance"):=by rfl)
  (he:ZE [a,cx] X.env=(Zm,Zbr a X.env)::ZE [cx] X.env:=by rfl)(he2:ZE [cx] X.env=(Zm,Zbr cx X.env)::ZE [] X.env:=by rfl)(hpl:(Zb6 pos (ZE [cx] X.env)).any (·.1)=Zm:=by rfl):PEi ce X (.Call (.Name "isinstance" p) [a,cx] [] pos) (eIsi ans ma):=by
 intro pj s σ H ι σi h Q E N K
 refine Zac (Qh N.inv hg hm hv ?_ (by decide) (by decide))
 refine Zbw ?_ he hpl
 rw[he]
 show Zu _ _ (spliced ((Zm,Zbr a X.env)::Zb6 pos (ZE [cx] X.env))) _ _ s
 refine ZdT (ha.run N K λ x h1 u s1 H1 ι1 N1 n1 r1 K1=>?_)
 rw[he2]
 show Zu _ _ (spliced ((Zm,Zbr cx X.env)::Zb6 pos (ZE [] X.env))) _ _ s1
 refine ZdT (hc pj σ H1 s1 _ E N1.inv ?_)
 refine Calls.spliced_nil ?_
 cases e:(tyI x h1).bind ans with
 | none=>rw[e] at K1;exact Zf K1
 | some b =>
  rw[e] at K1
  exact Jxu N1 r1 O e λ tk=>K1 _ _ H1 ι1 ⟨N1.inv.tok tk,N1.rel,N1.st⟩ .refl ⟨.bl b,rfl,rfl⟩
def VG:Ty->Option Bool
 | .int=>Za Zj|.bl=>Za Zj|.ins _=>Zd|.exc _=>Zd|_=>Za Zm
def VF:Ty->Option Bool
 | .bl=>Za Zj|.ins _=>Zd|.exc _=>Zd|_=>Za Zm
def VI:Ty->Option Bool
 | .str=>Za Zj|.ins _=>Zd|.exc _=>Zd|_=>Za Zm
def Vm:Ty->Option Bool
 | .lst=>Za Zj|.ins _=>Zd|.exc _=>Zd|_=>Za Zm
def VJ:Ty->Option Bool
 | .tup=>Za Zj|.ins _=>Zd|.exc _=>Zd|_=>Za Zm
theorem Jq3 {K:W.Frag}:IsOk ce K (.type "bool") VF:=by
 refine⟨?_,?_,?_,?_,?_,?_,?_,(λ k C b e=>by cases e),(λ k C b e=>by cases e)⟩<;>(intro b e;cases e;first|rfl|with_unfolding_all rfl|kernel_rfl)
theorem Jtt {K:W.Frag}:IsOk ce K (.type "str") VI:=by
 refine⟨?_,?_,?_,?_,?_,?_,?_,(λ k C b e=>by cases e),(λ k C b e=>by cases e)⟩<;>(intro b e;cases e;first|rfl|with_unfolding_all rfl|kernel_rfl)
theorem Jkq {K:W.Frag}:IsOk ce K (.type "list") Vm:=by
 refine⟨?_,?_,?_,?_,?_,?_,?_,(λ k C b e=>by cases e),(λ k C b e=>by cases e)⟩<;>(intro b e;cases e;first|rfl|with_unfolding_all rfl|kernel_rfl)
theorem Jtu {K:W.Frag}:IsOk ce K (.type "tuple") VJ:=by
 refine⟨?_,?_,?_,?_,?_,?_,?_,(λ k C b e=>by cases e),(λ k C b e=>by cases e)⟩<;>(intro b e;cases e;first|rfl|with_unfolding_all rfl|kernel_rfl)
theorem Jts {K:W.Frag}:IsOk ce K (.type "int") VG:=by
 refine⟨?_,?_,?_,?_,?_,?_,?_,(λ k C b e=>by cases e),(λ k C b e=>by cases e)⟩<;>(intro b e;cases e;first|rfl|with_unfolding_all rfl|kernel_rfl)
end
def clOf (cells:List (Str×Zq)):List (Str×Zbt)->List (Str×Zq)->List (Str×Zq)
 | [],acc=>acc
 | (n,k)::r,acc=>clOf cells r (if (k==ZaF)=Zj then(match cells.lookup n with|some c=>(n,c)::acc|none=>acc) else acc)
theorem Jhb {env:Env}(names:List (Str×Zbt))(acc:List (Str×Zq))(h:∀x∈names,x.2=.free->∃c,env.cells.lookup x.1=Za c) :
  (forIn names acc (λ (x:Str×Zbt)(r:List (Str×Zq))=>if (x.2==ZaF)=Zj then(do let c<-cellOf env x.1;pure (Zbb ((x.1,c)::r))) else pure (Zbb r)):Sem (List (Str×Zq)))=pure (clOf env.cells names acc):=by
 induction names generalizing acc with
 | nil=>rfl
 | cons x r ih =>
  obtain⟨n,k⟩:=x
  have ih':=λ a=>ih a λ y hy=>h y (Zi _ hy)
  rw[List.forIn_cons]
  by_cases hk:(k==ZaF)=Zj
  ·have hk':k=.free:=by
    cases k<;>first|rfl|exact absurd hk (by decide)
   obtain⟨c,hc⟩:=h (n,k) Z0 hk'
   have e1:cellOf env n=pure c:=by unfold cellOf;rw[hc]
   simp only[hk,if_true,e1,pure_bind]
   rw[ih']
   simp only[clOf,hk,if_true,hc]
  ·simp only[hk,ZX,if_false,pure_bind]
   rw[ih']
   simp only[clOf,hk,ZX,if_false]
theorem Jao {scope:Zb1}{env:Env}(h:∀x∈scope.names,x.2=.free->∃c,env.cells.lookup x.1=Za c):Zdx scope env=pure (clOf env.cells scope.names []):=by
 have e:=Jhb (env:=env) scope.names [] h
 have e2:Zdx scope env=((forIn scope.names [] (λ (x:Str×Zbt)(r:List (Str×Zq))=>if (x.2==ZaF)=Zj then(do let c<-cellOf env x.1;pure (Zbb ((x.1,c)::r))) else pure (Zbb r)):Sem (List (Str×Zq)))>>=λ s=>pure s):=rfl
 rw[e2,e]
 rfl
theorem Jia {cells:List (Str×Zq)}:∀(names:List (Str×Zbt))(acc:List (Str×Zq)),(∀x c,acc.lookup x=Za c->cells.lookup x=Za c)->∀x c,(clOf cells names acc).lookup x=Za c->cells.lookup x=Za c
 | [],_,h,x,c,e=>h x c e
 | (n,k)::r,acc,h,x,c,e=>by
  refine Jia r _ ?_ x c e
  intro y d q
  split at q
  ·cases hc:cells.lookup n with
   | none=>rw[hc] at q;exact h y d q
   | some a =>
    rw[hc] at q
    simp only[Zai] at q
    cases hb:y==n with
    | true =>
     rw[hb] at q
     cases q
     rw[beq_iff_eq.mp hb]
     exact hc
    | false =>
     rw[hb] at q
     exact h y d q
  ·exact h y d q
theorem Jj4:∀(names:List (Str×Zbt))(acc:List (Str×Zq))(x:Str),(acc.lookup x).isSome=Zj->((clOf cells names acc).lookup x).isSome=Zj
 | [],_,_,h=>h
 | (n,k)::r,acc,x,h=>by
  refine Jj4 r _ x ?_
  split
  ·cases hc:cells.lookup n with
   | none=>exact h
   | some a =>
    simp only[Zai]
    cases hb:x==n with
    | true=>rfl
    | false=>exact h
  ·exact h
theorem XU {cells:List (Str×Zq)}:∀(names:List (Str×Zbt))(acc:List (Str×Zq))(x:Str)(c:Zq),(x,ZaF)∈names->cells.lookup x=Za c->((clOf cells names acc).lookup x).isSome=Zj
 | [],_,_,_,h,_=>by simp at h
 | (n,k)::r,acc,x,c,h,hc=>by
  rcases Z2.mp h with e|e
  ·obtain⟨rfl,rfl⟩:=Prod.mk.inj e
   refine Jj4 r _ _ ?_
   simp[hc]
  ·exact XU r _ x c e hc
theorem Jbb {env:Env}:∀{names:List (Str×Zbt)}{x:Str}{k:Zbt},
  (names.map λ (n,k)=>if (k==ZaF&&env.scope.kind==.function&&env.kindOf n==Za .cell) then(n,Zek) else(n,k)).lookup x=Za k ->
  ∃k0,names.lookup x=Za k0/\(k,k0)∈([(k0,k0),(.cell,.free)]:List (Zbt×Zbt))
 | [],_,_,h=>by simp at h
 | (n,k1)::r,x,k,h=>by
  have ih:=@Jbb env r x k
  have h':ZbJ x ((if (k1==ZaF&&env.scope.kind==.function&&env.kindOf n==Za .cell)=Zj then(n,Zek) else(n,k1))::_)=Za k:=h
  cases hx:x==n with
  | true =>
   refine⟨k1,by simp[Zai,hx],?_⟩
   by_cases hc:(k1==ZaF&&env.scope.kind==.function&&env.kindOf n==Za .cell)=Zj
   ·rw[if_pos hc] at h'
    simp only[Zai,hx] at h'
    cases h'
    simp only[Zp,beq_iff_eq] at hc
    rw[hc.1.1]
    simp
   ·rw[if_neg hc] at h'
    simp only[Zai,hx] at h'
    cases h'
    simp
  | false =>
   have h2:ZbJ x (r.map λ (n,k)=>if (k==ZaF&&env.scope.kind==.function&&env.kindOf n==Za .cell) then(n,Zek) else(n,k))=Za k:=by
    by_cases hc:(k1==ZaF&&env.scope.kind==.function&&env.kindOf n==Za .cell)=Zj
    ·rw[if_pos hc] at h';simpa only[Zai,hx] using h'
    ·rw[if_neg hc] at h';simpa only[Zai,hx] using h'
   obtain⟨k0,e,m⟩:=ih h2
   exact⟨k0,by simp only[Zai,hx];exact e,m⟩
theorem Jfg {env:Env}:∀{names:List (Str×Zbt)}{x:Str},names.lookup x=Za .free ->
  ∃k,(names.map λ (n,k)=>if (k==ZaF&&env.scope.kind==.function&&env.kindOf n==Za .cell) then(n,Zek) else(n,k)).lookup x=Za k/\(k=.cell∨k=.free)
 | [],_,h=>by simp at h
 | (n,k1)::r,x,h=>by
  have ih:=@Jfg env r x
  cases hx:x==n with
  | true =>
   simp only[Zai,hx] at h
   cases h
   by_cases hc:(ZaF==ZaF&&env.scope.kind==.function&&env.kindOf n==Za .cell)=Zj
   ·exact⟨.cell,by rw[Z7];dsimp only;rw[if_pos hc];simp only[Zai,hx],.inl rfl⟩
   ·exact⟨.free,by rw[Z7];dsimp only;rw[if_neg hc];simp only[Zai,hx],.inr rfl⟩
  | false =>
   simp only[Zai,hx] at h
   obtain⟨k,e,q⟩:=ih h
   refine⟨k,?_,q⟩
   rw[Z7]
   dsimp only
   by_cases hc:(k1==ZaF&&env.scope.kind==.function&&env.kindOf n==Za .cell)=Zj
   ·rw[if_pos hc];simp only[Zai,hx];exact e
   ·rw[if_neg hc];simp only[Zai,hx];exact e
def cxC (X:Cx)(N':List Str)(scope:Zb1)(C:Zq)(s:Zl)(H:Hp)(fp:List Zq):Cx :=
 { X with N:=N',s₀:=s,H₀:=H,env:=compEnvC scope (clOf X.env.cells scope.names []) C X.env,outer:=X.stack,ex:=fp,fn:=λ _=>Zm,pn:=[] }
def Q3 (N0 loc caps:List Str)(js:List Nat)(sc₀ scope:Zb1):Bool :=
 decide (scope.kind=.function)&&decide (sc₀.kind=.function)&&scope.names.all (λ x=>!(x.2==.cell))&&scope.names.all (λ x=>!(x.2==.local)||decide (scope.names.lookup x.1=Za .local)) &&
 scope.names.all (λ x=>!(x.2==.free)||decide (sc₀.names.lookup x.1=Za .cell)||decide (sc₀.names.lookup x.1=Za .free)) &&
 scope.names.all (λ x=>!(decide (scope.names.lookup x.1=Za .free))||(x.2==.free)) &&
 (js.zip caps).all (λ p=>decide (N0[p.1]?=Za p.2)&&decide (scope.names.lookup p.2=Za .free))&&decide (js.length=caps.length)&&decide (loc++caps).Nodup &&
 loc.all (λ n=>decide (scope.names.lookup n=Za .local))
open Classical in
def JH (chk:IH->Prop)(g:G1)(t:T1)(e:E1)(i0:Nat):List IV->ISt->IH->Res IV
 | [],_,h=>if chk h then .ok (.ref i0) h else .stuck
 | x::xs,σ,h=>if chk h then(match g x σ h with
   | .next σ1 h1=>(match t σ1 h1 with
    | .ok Zj h2=>(match e σ1 h2 with
     | .ok v h3=>(match h3[i0]? with
      | some (.lst acc)=>if acc.length<sizeLine then JH chk g t e i0 xs σ1 (h3.set i0 (.lst (acc++[v]))) else .stuck
      | _=>.stuck)
     | _=>.stuck)
    | .ok Zm h2=>JH chk g t e i0 xs σ1 h2
    | _=>.stuck)
   | _=>.stuck) else .stuck
def stC (nloc:Nat)(js:List Nat)(σ:ISt):ISt:=ZS nloc Zd++js.map λ j=>(σ[j]?).join
def Jx (it:I1)(nloc:Nat)(js:List Nat)(g:G1)(t:T1)(e:E1):E1:=λ σ h=>(it σ h).bind λ J h1=>JH J.chk g t e h1.length J.xs (stC nloc js σ) (h1++[.lst []])
theorem Jj6 {prog:ZC}{w:ZU}{A:ZJ}{R:Zeh->Zl->Prop}{s:Zl}{elt target iter:Expr}{ifs:List Expr}{scope:Zb1}{pos:Pos}{it acc:Zh}{env:Env}(I:Nat->Zl->Prop) 
  (turn:∀n s,I n s->Zu (Z6 prog w) A (Zbv it) (λ r s₁=>match r with
   | none=>R (.ok .next) s₁
   | some v=>Zu (Z6 prog w) A (ZcK target it v) (λ _ s₁'=>Zu (Z6 prog w) A (ZeA target env v) (λ _ s₂ =>
     Zu (Z6 prog w) A (forIn ifs Zj λ c r=>if r=Zj then do let ok<-isTrue c env (Zbr c env);pure (Zbb ok) else pure (Zbb r)) (λ ok s₃ =>
      if ok=Zj then Zu (Z6 prog w) A (Zbr elt env) (λ x s₄ =>
       Zu (Z6 prog w) A (call (.builtin "list.append") [acc,x]) (λ _ s₅=>∃m,m<n/\I m s₅) (λ _ _=>False) s₄) (λ _ _=>False) s₃
      else ∃m,m<n/\I m s₃) (λ _ _=>False) s₂) (λ _ _=>False) s₁') (λ _ _=>False) s₁) (λ _ _=>False) s)
  (n:Nat) (h:I n s):Zc2 (Z6 prog w) A (.compLoop (.ListComp elt [⟨target,iter,ifs,0⟩] scope pos) 0 it acc env) R s:=by
 refine codeAny_loop rfl I (λ n s hI=>?_) n h
 show Zu _ A ((compTurn (.ListComp elt [⟨target,iter,ifs,0⟩] scope pos) 0 it acc env).onRaise (λ x=>do Zew x env;theTreesLotGoes x)) _ _ s
 refine wpAny_noted (nof ?_)
 rw[compTurn_list]
 refine Zc (ZbD (Zc (Zas (turn n s hI) (λ r s₁ h₁=>?_) λ _ _ h'=>h')))
 cases r with
 | none=>exact Zk h₁
 | some v =>
  refine Zc (Zas h₁ (λ _ s₁' h₁'=>?_) λ _ _ h'=>h')
  refine Zc (Zas h₁' (λ _ s₂ h₂=>Zc (Zas h₂ (λ ok s₃ h₃=>?_) λ _ _ h'=>h')) λ _ _ h'=>h')
  cases ok with
  | false=>exact Zk ⟨rfl,h₃⟩
  | true =>
   exact Zc (Zc (Zas h₃ (λ x s₄ h₄=>Zc (Zas h₄ (λ _ s₅ h₅=>Zk (Zk ⟨rfl,h₅⟩)) λ _ _ h'=>h')) λ _ _ h'=>h'))
def PTsi (ce:CeT)(X:Cx)(ifs:List Expr)(m:T1):Prop:=PX ce X RB (forIn ifs Zj λ c r=>if r=Zj then do let ok<-isTrue c X.env (Zbr c X.env);pure (Zbb ok) else pure (Zbb r)) m
noncomputable def J7:T1:=λ _ h=>.ok Zj h
theorem Jwm:PTsi ce X [] J7:=λ _ s _ H ι _ _ _ _ N K=>wpAny_tests_nil (K Zj s H ι N .refl rfl)
theorem Jwn {ce:CeT}{X:Cx}{c:Expr}{m:T1}(hc:PTi ce X c m):PTsi ce X [c] m:=λ pj s σ H ι σi h Q E N K=>wpAny_tests_one (hc pj s σ H ι σi h Q E N K)
def Vj (ce:CeT)(X:Cx)(use:Option (Zh->Sem Unit))(pj:PnT)(ι:List Zq)(σi:ISt)(σ:L2.St)(H:Hp)(r:Res IV)(Q:QvT)(E:QvT):Prop :=
 match r with
 | .ok v h'=>∀D C m s' H' ι',Now ce X pj ι' σi h' σ H' s'->Nxt ι H ι' H'->RU X.K ι' H' v (.ref D)->s'.heap.Ns C m->FpOk X pj H' C->compPost (Z6 X.prog X.w) X.A E use Q (.ref D) C (.ok .next) s'
 | .exc n h'=>∀pl a s' H' ι',Now ce X (pj++pl) ι' σi h' σ H' s'->Nxt ι H ι' H'->ι'[n]?=Za a->E (.ref a) s'
 | .stuck=>False
theorem Vj.mono (k:Vj ce X use pj ι σi σ H r Q E)(n:Nxt ι H ι' H'):Vj ce X use pj ι' σi σ H' r Q E:=by
 cases r with
 | ok v h'=>exact λ D C m s' H2 ι2 N n2 q=>k D C m s' H2 ι2 N (n.trans n2) q
 | exc m h'=>exact λ pl a s' H2 ι2 N n2 q=>k pl a s' H2 ι2 N (n.trans n2) q
 | stuck=>exact k
structure TurnC (P:ZC)(w:ZU)(C:Cx->Hp->Prop)(tg:Expr)(J:It)(fp:List Zq)(it:Zq)(tn:Nat->Zar->Prop):Prop where
 obj:∀i h,tn i h->∀b∈fp,∃o,h.get? b=Za o/\∀v,o.data≠.cell v
 keep:∀i h h',tn i h->(∀b∈fp,∀o,h.get? b=Za o->h'.get? b=Za o)->tn i h'
 item:∀(X:Cx)(i:Nat)(s:Zl)(σ:L2.St)(H:Hp),C X H->Inv X [] σ H s->(∀b∈fp,FpOk X [] H b)->tn i s.heap->J.go i H ->
  Zu (Z6 P w) X.A (Zbv (.ref it)) (λ r s1=>∃u,r=Za u/\Zu (Z6 P w) X.A (ZcK tg (.ref it) u) (λ _ s2=>∃x H',Inv X [] σ H' s2/\RelV x u/\J.yld i H x H'/\tn (i+1) s2.heap/\∀b∈fp,H' b=Zd) (λ _ _=>False) s1) (λ _ _=>False) s
 done:∀(X:Cx)(i:Nat)(s:Zl)(σ:L2.St)(H:Hp),C X H->Inv X [] σ H s->(∀b∈fp,FpOk X [] H b)->tn i s.heap->J.stop i H->Zu (Z6 P w) X.A (Zbv (.ref it)) (λ r s1=>r=Zd/\Inv X [] σ H s1) (λ _ _=>False) s
 self:∀(A:ZJ)(i:Nat)(s:Zl)(Q:QvT)(E:QvT),tn i s.heap->Q (.ref it) s->Zu (Z6 P w) A (Zeg (.ref it)) Q E s
def J19 (X0:Cx)(X:Cx)(_:Hp):Prop:=X.prog=X0.prog/\X.w=X0.w/\X.K=X0.K/\X.calm=Zj
def RItC (C:Cx->Hp->Prop)(ce:CeT)(X:Cx)(tg:Expr)(pj:PnT)(ι':List Zq)(I:ItI)(itv:Zh)(s2:Zl)(H':Hp):Prop :=
 ∃(it:Zq)(fp:List Zq)(tn:Nat->Zar->Prop)(J:It),itv=.ref it/\TurnC X.prog X.w C tg J fp it tn/\tn 0 s2.heap/\(∀b∈fp,FpOk X pj H' b)/\ItOk ce X.K ι' H' J I
def PIc (C:Cx->Hp->Prop)(ce:CeT)(X:Cx)(tg iter:Expr)(m:I1):Prop :=
 ∀(pj:PnT)(s:Zl)(σ:L2.St)(H:Hp)(ι:List Zq)(σi:ISt)(h:IH)(Q:QvT)(E:QvT),Now ce X pj ι σi h σ H s ->
  (match m σi h with
   | .ok I h'=>∀itv s' H' ι',Now ce X pj ι' σi h' σ H' s'->Nxt ι H ι' H'->RItC C ce X tg pj ι' I itv s' H'->Q itv s'
   | .exc n h'=>∀pl a s' H' ι',Now ce X (pj++pl) ι' σi h' σ H' s'->Nxt ι H ι' H'->ι'[n]?=Za a->E (.ref a) s'
   | .stuck=>False) ->
  Zu (Z6 X.prog X.w) X.A (Zbr iter X.env) (λ v s1=>Zu (Z6 X.prog X.w) X.A (Zeg v) Q E s1) E s
theorem PIi.c (p:PIi ce X tg iter m):PIc (J19 X) ce X tg iter m:=λ pj s σ H ι σi h Q E N k=>p pj s σ H ι σi h Q E N (by
 cases e:m σi h with
 | exc n h'=>rw[e] at k;exact k
 | stuck=>rw[e] at k;exact k
 | ok I h' =>
  rw[e] at k
  intro itv s' H' ι' N' n' ⟨it,fp,tn,J,e1,T,r⟩
  refine k itv s' H' ι' N' n' ⟨it,fp,tn,J,e1,⟨T.obj,T.keep,λ X' i s σ H c=>?_,λ X' i s σ H c=>?_,T.self⟩,r⟩
  ·exact T.item X' c.1 c.2.1 c.2.2.1 c.2.2.2 i [] s σ H _
  ·exact T.done X' c.1 c.2.1 c.2.2.1 c.2.2.2 i [] s σ H _)
section
variable {ce:CeT}{X:Cx}
theorem Jj7 {N0 loc caps:List Str}{js:List Nat}{sc₀ scope:Zb1}{tg iter elt:Expr}{ifs:List Expr}{g:G1}{mt:T1}{me:E1}{pos ppos:Pos}{use:Option (Zh->Sem Unit)}(hi:PIc Cc ce X tg iter mi) 
  (hg:∀C s H fp,PGi ce (cxC X (loc++caps) scope C s H fp) tg g)(ht:∀C s H fp,PTsi ce (cxC X (loc++caps) scope C s H fp) ifs mt)(he:∀C s H fp,PEi ce (cxC X (loc++caps) scope C s H fp) elt me)
  (ok:Q3 N0 loc caps js sc₀ scope=Zj)(hN0:X.N=N0:=by rfl)(hsc:X.env.scope=sc₀:=by rfl)(hs:∀x,Zcv iter X.env x=pure x:=by intro _;rfl)
  {pj:PnT}{s:Zl}{σ:L2.St}{H:Hp}{ι:List Zq}{σi:ISt}{h:IH}{Q:QvT}{E:QvT}(hcc:∀C s H1 fp H',Ext H H'->Cc (cxC X (loc++caps) scope C s H1 fp) H')(N:Now ce X pj ι σi h σ H s)(K:Vj ce X use pj ι σi σ H (Jx mi loc.length js g mt me σi h) Q E) :
  Zu (Z6 X.prog X.w) X.A (comprehension (.ListComp elt [⟨tg,iter,ifs,0⟩] scope pos) scope X.env ppos (newList []) Zm (Zbr iter X.env) use) Q E s:=by
 simp only[Q3,Zp,decide_eq_true_eq,ZbZ,ZaV,ZaE,beq_iff_eq,beq_eq_false_iff_ne] at ok
 obtain⟨⟨⟨⟨⟨⟨⟨⟨⟨kF,kF0⟩,kNC⟩,kL⟩,kFr⟩,kFx⟩,kJ⟩,kLen⟩,kNd⟩,kLo⟩:=ok
 have hfree:∀x∈scope.names,x.2=.free->X.env.kindOf x.1=Za .cell∨X.env.kindOf x.1=Za .free:=λ x hx hk=>by
  have e:X.env.kindOf x.1=sc₀.names.lookup x.1:=by rw[<- hsc];rfl
  rw[e]
  rcases kFr x hx with(z|z)|z
  ·exact absurd hk z
  ·exact .inl z
  ·exact .inr z
 have hclos:Zdx scope X.env=pure (clOf X.env.cells scope.names []):=Jao λ x hx hk=>N.inv.ok.has x.1 (hfree x hx hk)
 refine wpAny_comprehension_free (use:=use) (e:=.ListComp elt [⟨tg,iter,ifs,0⟩] scope pos) rfl hs hclos kF (λ x hx hl=>(kL x hx).resolve_left λ z=>z hl) ?_
 refine hi pj s σ H ι σi h _ E N ?_
 unfold Jx at K
 cases e0:mi σi h with
 | exc n h'=>rw[e0] at K;exact K
 | stuck=>rw[e0] at K;exact K
 | ok Jt h1 =>
  rw[e0] at K
  intro itv s1 H1 ι1 N1 n1 RI
  obtain⟨it,fp,tn,J,e,T,st1,f1,OK⟩:=RI
  subst e
  -- the list
  refine ZbN ?_
  have fresh1:H1 s1.heap.objs.size=Zd:=N1.inv.hok.fresh (Zr _)
  have I2:Inv X pj σ (upd H1 s1.heap.objs.size (.lst [])) { s1 with heap:=s1.heap.push { cls:=.type "list",dict:=Zd,data:=.seq ([]:List Zh).toArray } } :=
   N1.inv.laid (t':=s1.toks) (λ b u e=>Ze _ e) (Zr _) ⟨ZK _,[],0,.nil,Zv _ rfl⟩
  obtain⟨R2,n2⟩:=N1.rel.alloc (o:=.lst []) (io:=.lst []) fresh1 ⟨[],J0,rfl⟩
  generalize hs2:({ s1 with heap:=s1.heap.push { cls:=.type "list",dict:=Zd,data:=.seq ([]:List Zh).toArray } }:Zl)=s2 at I2 ⊢
  generalize hD:s1.heap.objs.size=D at *
  generalize hH2:upd H1 D (.lst [])=H2 at *
  have N2:Now ce X pj (ι1++[D]) σi (h1++[.lst []]) σ H2 s2:=⟨I2,R2,N1.st.mono n2⟩
  have keep12:∀b o,s1.heap.get? b=Za o->s2.heap.get? b=Za o:=λ b o q=>by rw[<- hs2];exact Ze _ q
  have st2:tn 0 s2.heap:=T.keep 0 _ _ st1 λ b _ o q=>keep12 b o q
  have hat:(ι1++[D])[h1.length]?=Za D:=by
   rw[<- N1.rel.len,ZA (Zr _)]
   simp
  have f2:∀b∈fp,FpOk X pj H2 b:=λ b hb=>by
   refine⟨?_,(f1 b hb).2⟩
   obtain⟨o,ho,_⟩:=T.obj 0 _ st1 b hb
   have:b≠D:=Z3 (by rw[<- hD];exact Zz ho)
   rw[<- hH2,Jo this]
   exact(f1 b hb).1
  -- the block's own dict
  refine wpAny_newFunctionEnv (λ x hx=>kNC x hx) (by intro y hy;simp at hy) (λ h3 hns3 hsb3=>?_) kF
  generalize hC:s2.heap.objs.size=C at *
  have keep23:∀b o,s2.heap.get? b=Za o->h3.get? b=Za o:=λ b o q=>(hsb3.2 b (Z3 (by rw[<- hC];exact Zz q))).trans (Ze _ q)
  have cells':∀x c,(clOf X.env.cells scope.names []).lookup x=Za c->X.env.cells.lookup x=Za c:=Jia _ _ (λ x c q=>by simp at q)
  -- the context of the block
  have okX:(cxC X (loc++caps) scope C s2 H2 fp).Ok:=by
   refine⟨N.inv.ok.mod,kF,N.inv.ok.glob,N.inv.ok.blt,Zde hC,λ x y c a b=>N.inv.ok.inj x y c (cells' x c a) (cells' y c b),λ x hx=>?_,λ x c z=>?_,N.inv.ok.hd,N.inv.ok.frames,.inl rfl,λ b hb=>?_,λ b o q=>I2.bs b o q,
    Zaf N.inv.ok.bsz I2.sz,λ b o q hb=>?_,λ b hb z=>?_,I2.stack,I2.stkFree⟩
   ·have hx':(relabel scope X.env).names.lookup x=Za .cell∨(relabel scope X.env).names.lookup x=Za .free:=hx
    have hfr:scope.names.lookup x=Za .free:=by
     rcases hx' with z|z
     ·obtain⟨k0,e,m⟩:=Jbb z
      simp only[Z2,Zel,ZL,or_false] at m
      rcases m with⟨m1,_⟩|⟨_,m2⟩
      ·exact absurd (kNC _ (Zaj e)) (by rw[<- m1];intro q;exact q rfl)
      ·rw[m2] at e;exact e
     ·obtain⟨k0,e,m⟩:=Jbb z
      simp only[Z2,Zel,ZL,or_false] at m
      rcases m with⟨m1,_⟩|⟨m1,_⟩
      ·rw[<- m1] at e;exact e
      ·cases m1
    have hm:=Zaj hfr
    obtain⟨c,hc'⟩:=N.inv.ok.has x (hfree (x,.free) hm rfl)
    exact Zb4.mp (XU _ _ x c hm hc')
   ·exact absurd (show Zm=Zj from z) Zs
   ·have hbD:=f2 b hb
    obtain⟨o,ho,_⟩:=T.obj 0 _ st2 b hb
    exact⟨Z3 (by show b<C;rw[<- hC];exact Zz ho),λ x c q=>hbD.2.2.2.2.1 x c (cells' x c q)⟩
   ·rcases(f2 b hb).2.2.2.1 with z|z
    ·exact N.inv.ok.noex b o q z
    ·exact ZcF _ (ZI (Zz q) (Zaf N.inv.ok.bsz z))
   ·rcases Z2.mp (I2.stkSub b z) with e|e
    ·exact(f2 b hb).2.1 e
    ·exact(f2 b hb).2.2.1 e
  -- the block's state
  have lenJ:js.length=caps.length:=kLen
  have stl:(stC loc.length js σi).length=(loc++caps).length:=by simp[stC,lenJ]
  have R3:Rel ce X.K (ι1++[D]) (h1++[.lst []]) H2:=R2
  have I3:Inv (cxC X (loc++caps) scope C s2 H2 fp) [] (ZS loc.length Zd++js.map λ j=>(σ[j]?).join) H2 { s2 with heap:=h3,toks:=s2.toks+([]:List (Str×Zh)).length }:=by
   refine⟨okX,rfl,I2.bare,Un.kept keep23,⟨_,hns3,λ i x v a b c=>?_⟩,λ x c q=>?_,I2.hok.fresh (Zde hC),λ x c q=>I2.freeC x c (cells' x c q),λ p hp=>absurd (show p∈([]:PnT) from hp) (by simp),I2.hok.kept keep23,by show _=(loc++caps).length;simp[lenJ]⟩
   ·have hi:loc.length<=i:=by
     refine Zc4 λ hlt=>?_
     rw[ZH (by simpa using hlt),ZbY] at b
     split at b<;>cases b
    obtain⟨k,rfl⟩:∃k,i=loc.length+k:=⟨i-loc.length,by omega⟩
    have a':(loc++caps)[loc.length+k]?=Za x:=a
    rw[ZA (by omega)] at a'
    rw[ZA (by simp)] at b
    simp only[Nat.add_sub_cancel_left,ZbH,Zy] at a' b
    cases ej:js[k]? with
    | none=>rw[ej] at b;cases b
    | some j =>
     rw[ej] at b
     have b':(σ[j]?).join=Za v:=Zao b
     have hσ:σ[j]?=Za (Za v):=by
      cases es:σ[j]? with
      | none=>rw[es] at b';cases b'
      | some o=>rw[es] at b';rw[show o=Za v from b']
     have hz:=kJ (j,x) (List.mem_iff_getElem?.mpr ⟨k,by rw[List.getElem?_zip_eq_some];exact⟨ej,a'⟩⟩)
     obtain⟨hx1,hx2⟩:=hz
     obtain⟨m,hn,hl⟩:=I2.loc
     have hk:=hfree (x,.free) (Zaj hx2) rfl
     obtain⟨u,ru,lk⟩:=hl j x v (by rw[hN0];exact hx1) hσ (by rcases hk with q|q;exact .inr (.inl q);exact .inr (.inr q))
     rcases lk with⟨q,_⟩|⟨q,c,hc',hcell⟩
     ·rcases hk with q'|q'<;>(rw[q'] at q;cases q)
     ·obtain⟨kk,ek,hkk⟩:=Jfg (env:=X.env) hx2
      have hcl:=XU (cells:=X.env.cells) scope.names [] x c (Zaj hx2) hc'
      obtain⟨c',hc2⟩:=Zb4.mp hcl
      have:=cells' x c' hc2
      rw[hc'] at this
      cases this
      obtain⟨oc,hoc,hd⟩:=hcell
      refine⟨u,ru,.inr ⟨?_,c,hc2,oc,keep23 _ _ hoc,hd⟩⟩
      rcases hkk with rfl|rfl
      ·exact .inl ek
      ·exact .inr ek
   ·obtain⟨v,o,ho,hd⟩:=I2.cell x c (cells' x c q)
    exact⟨v,o,keep23 _ _ ho,hd⟩
  have N3:Now ce (cxC X (loc++caps) scope C s2 H2 fp) [] (ι1++[D]) (stC loc.length js σi) (h1++[.lst []]) (ZS loc.length Zd++js.map λ j=>(σ[j]?).join) H2 { s2 with heap:=h3,toks:=s2.toks+([]:List (Str×Zh)).length }:=by
   refine⟨I3,R3,by simp[stC],λ i v q=>?_⟩
   unfold stC at q
   have hi:loc.length<=i:=by
    refine Zc4 λ hlt=>?_
    rw[ZH (by simpa using hlt),ZbY] at q
    split at q<;>cases q
   rw[ZA (by simpa using hi)] at q
   simp only[ZbH,Zy] at q
   cases ej:js[i-loc.length]? with
   | none=>rw[ej] at q;cases q
   | some j =>
    rw[ej] at q
    have q':(σi[j]?).join=Za v:=Zao q
    have hσ:σi[j]?=Za (Za v):=by
     cases es:σi[j]? with
     | none=>rw[es] at q';cases q'
     | some o=>rw[es] at q';rw[show o=Za v from q']
    obtain⟨u,hu,qu⟩:=N2.st.at_ j v hσ
    refine⟨u,?_,qu⟩
    rw[ZA (by simpa using hi)]
    simp only[ZbH,Zy,ej,ZcN,hu]
    rfl
  have st3:tn 0 h3:=T.keep 0 _ _ st2 λ b _ o q=>keep23 b o q
  have K2:Vj ce X use pj (ι1++[D]) σi σ H2 (JH Jt.chk g mt me h1.length Jt.xs (stC loc.length js σi) (h1++[.lst []])) Q E:=Vj.mono (r:=JH Jt.chk g mt me h1.length Jt.xs (stC loc.length js σi) (h1++[.lst []])) K (n1.trans n2)
  have loop:Zc2 (Z6 X.prog X.w) X.A (.compLoop (.ListComp elt [⟨tg,iter,ifs,0⟩] scope pos) 0 (.ref it) (.ref D) (compEnvC scope (clOf X.env.cells scope.names []) C X.env)) (compPost (Z6 X.prog X.w) X.A E use Q (.ref D) C)
    { s2 with heap:=h3,toks:=s2.toks+([]:List (Str×Zh)).length }:=by
   refine Jj6 (λ n s'=>∃k ιk σk hk σ' H',Now ce (cxC X (loc++caps) scope C s2 H2 fp) [] ιk σk hk σ' H' s'/\Nxt (ι1++[D]) H2 ιk H'/\tn k s'.heap/\(∀b∈fp,H' b=Zd)/\n=Jt.xs.length-k/\k<=Jt.xs.length/\Vj ce X use pj ιk σi σ H' (JH Jt.chk g mt me h1.length (Jt.xs.drop k) σk hk) Q E) ?_ Jt.xs.length
    ⟨0,ι1++[D],stC loc.length js σi,h1++[.lst []],_,H2,N3,.refl,st3,λ b hb=>(f2 b hb).1,by simp,ZK _,by simpa using K2⟩
   have stat:∀{H':Hp},(∀b∈fp,H' b=Zd)->∀b∈fp,FpOk (cxC X (loc++caps) scope C s2 H2 fp) [] H' b:=λ hn b hb =>
    ⟨hn b hb,(okX.exf b hb).1,okX.exfs b hb,.inl hb,(okX.exf b hb).2,λ p hp=>absurd (show p∈([]:PnT) from hp) (by simp)⟩
   rintro n s4 ⟨k,ιk,σk,hk,σ4,H4,N4,n4,st4,fr4,rfl,hkl,K4⟩
   by_cases hlt:k<Jt.xs.length
   ·have hd:Jt.xs.drop k=Jt.xs[k]::Jt.xs.drop (k+1):=Za9 hlt
    rw[hd] at K4
    unfold JH at K4
    split at K4
    ·rename_i hck
     obtain⟨go,yl⟩:=OK.go k Jt.xs[k] hk H4 ιk (n2.trans n4) N4.rel hck (Zb hlt)
     refine thn (T.item (cxC X (loc++caps) scope C s2 H2 fp) k s4 σ4 H4 (hcc _ _ _ _ _ (n1.trans (n2.trans n4)).ext) N4.inv (stat fr4) st4 go) λ r s5 ⟨u,hr,h5⟩=>?_
     subst hr
     refine thn h5 λ _ s6 ⟨x,H6,I6,r6,y6,st6,fr6⟩=>?_
     obtain⟨R6,n6,q6⟩:=yl x H6 y6
     have I6':=I6.pinned (stat fr6) (T.obj _ _ st6)
     have N6:Now ce (cxC X (loc++caps) scope C s2 H2 fp) ([]++Q9 fp s6.heap) ιk σk hk σ4 H6 s6:=⟨I6',R6,N4.st.mono n6⟩
     have again:∀{σ7:L2.St}{H7:Hp}{s7:Zl}{σ7i:ISt}{h7:IH}{ι7:List Zq},Now ce (cxC X (loc++caps) scope C s2 H2 fp) ([]++Q9 fp s6.heap) ι7 σ7i h7 σ7 H7 s7->Nxt ιk H6 ι7 H7->Vj ce X use pj ιk σi σ H4 (JH Jt.chk g mt me h1.length (Jt.xs.drop (k+1)) σ7i h7) Q E ->
       ∃m,m<Jt.xs.length-k/\∃k ιk σk hk σ' H',Now ce (cxC X (loc++caps) scope C s2 H2 fp) [] ιk σk hk σ' H' s7/\Nxt (ι1++[D]) H2 ιk H'/\tn k s7.heap/\(∀b∈fp,H' b=Zd)/\m=Jt.xs.length-k/\k<=Jt.xs.length/\Vj ce X use pj ιk σi σ H' (JH Jt.chk g mt me h1.length (Jt.xs.drop k) σk hk) Q E :=
      λ {σ7 H7 s7 σ7i h7 ι7} N7 n7 K7=>by
       have nn:Nxt ιk H4 ι7 H7:=n6.trans n7
       refine⟨Jt.xs.length-(k+1),by omega,k+1,ι7,σ7i,h7,σ7,H7,N7.pins,n4.trans nn,T.keep _ _ _ st6 λ b hb o e=>(N7.inv.pin (b,o) (Zo _ (Zo _ (Yi hb e)))).1,λ b hb=>?_,rfl,hlt,K7.mono nn⟩
       obtain⟨o,e,d⟩:=T.obj _ _ st6 b hb
       exact(N7.inv.pin (b,o) (Zo _ (Zo _ (Yi hb e)))).2.1
     cases eg:g Jt.xs[k] σk hk with
     | next σg hgg =>
      rw[eg] at K4
      dsimp only at K4
      refine hg C s2 H2 fp _ s6 σ4 H6 ιk σk hk _ u (λ _ s7=>Zu (Z6 X.prog X.w) X.A (forIn ifs Zj λ c r=>if r=Zj then do let ok<-isTrue c _ (Zbr c _);pure (Zbb ok) else pure (Zbb r)) _ _ s7) (λ _ _=>False) N6 ⟨x,r6,q6⟩ ?_
      rw[eg]
      intro s7 σ7 H7 ι7 N7 n7
      refine ht C s2 H2 fp _ s7 σ7 H7 ι7 σg hgg _ (λ _ _=>False) N7 ?_
      cases et:mt σg hgg with
      | ok c h8 =>
       rw[et] at K4
       intro d s8 H8 ι8 N8 n8 rd
       have rd':d=c:=rd
       subst rd'
       cases d with
       | false=>exact again N8 (n7.trans n8) K4
       | true =>
        dsimp only at K4
        refine he C s2 H2 fp _ s8 σ7 H8 ι8 σg h8 _ (λ _ _=>False) N8 ?_
        cases ee:me σg h8 with
        | ok v h9 =>
         rw[ee] at K4
         dsimp only at K4
         intro w s9 H9 ι9 N9 n9 rw9
         have hat9:ι9[h1.length]?=Za D:=(((n4.trans n6).trans n7).trans (n8.trans n9)).at hat
         cases hl:h9[h1.length]? with
         | none=>rw[hl] at K4;exact Zf K4
         | some ob =>
          rw[hl] at K4
          cases ob with
          | lst acc =>
           dsimp only at K4
           split at K4
           ·rename_i hz
            obtain⟨vs,eD,rD⟩:=N9.at hl hat9
            obtain⟨wv,rw9,qw⟩:=rw9
            have ap:=Jku (X:=(cxC X (loc++caps) scope C s2 H2 fp).wish λ _ _=>False) ([]++Q9 fp s6.heap) s9 σ7 H9 (.ref D) [wv] (.ref D) [w] (λ _ H'=>H'=upd H9 D (.lst (vs++[wv]))) (N9.inv.wish _) rfl (.cons rw9 .nil) ⟨D,vs,wv,rfl,rfl,eD,by rw[rD.length];exact hz,rfl⟩
            refine Zas ap (λ _ s10 hq=>?_) λ _ _ z=>z
            obtain⟨z,H10,I10,_,rfl⟩:=hq
            have n10:Nxt ι9 H9 ι9 (upd H9 D (.lst (vs++[wv]))):=⟨⟨[],by simp⟩,Ext.upd_mut eD (by rw[eD];exact Zaz)⟩
            obtain⟨R10,_⟩:=N9.rel.write (o:=.lst (vs++[wv])) (io:=.lst (acc++[v])) hat9 eD (by rw[eD];exact Zaz) ⟨_,J0,(RVs.mono n10 _ _ rD).append (RVs.one (RV.mono n10 _ _ qw))⟩
            exact again ⟨I10.unwish,R10,N9.st.mono n10⟩ (((n7.trans n8).trans n9).trans n10) K4
           ·exact Zf K4
          | _=>exact Zf K4
        | _=>rw[ee] at K4;exact Zf K4
      | _=>rw[et] at K4;exact Zf K4
     | _=>rw[eg] at K4;exact Zf K4
    ·exact Zf K4
   ·have hke:Jt.xs.drop k=[]:=Zdj (by omega)
    rw[hke] at K4
    unfold JH at K4
    split at K4
    ·rename_i hck
     have stop:=OK.stop k hk H4 ιk (n2.trans n4) N4.rel hck (by omega)
     refine thn (T.done (cxC X (loc++caps) scope C s2 H2 fp) k s4 σ4 H4 (hcc _ _ _ _ _ (n1.trans (n2.trans n4)).ext) N4.inv (stat fr4) st4 stop) λ r s5 ⟨hr,I5⟩=>?_
     subst hr
     obtain⟨m,hnm,_⟩:=I5.loc
     -- back to the def's own frame
     have hos:s5.os=s2.os:=I5.os
     obtain⟨hp5,g5,d5,t5,os5⟩:=s5
     obtain rfl:os5=s2.os:=hos
     have J5:Inv X pj σ H4 { s2 with heap:=hp5,gens:=g5,drawn:=d5,toks:=t5 }:=I2.call (ch:=fp) I5.base I5.hok I5.bare λ b hb=>⟨(f2 b hb).2.2.2.1,(f2 b hb).2.1,(f2 b hb).2.2.2.2.1,(f2 b hb).2.2.2.2.2⟩
     have fC:FpOk X pj H4 C:=I2.fpOk (Zde hC) I5.free
     exact K4 D C m _ H4 ιk ⟨J5,N4.rel,(N2.st.mono n4)⟩ .refl ⟨.ref D,rfl,D,rfl,n4.at hat⟩ hnm fC
    ·exact Zf K4
  exact codeAny_compStart_list loop (T.self X.A 0 _ _ _ st3 loop)
theorem Now.letgo {pj:PnT}{ι:List Zq}{σi:ISt}{h:IH}{σ:L2.St}{H:Hp}{s:Zl}{C:Zq}{h':Zar}(N:Now ce X pj ι σi h σ H s)(fC:FpOk X pj H C)(sb:Zb3 C s.heap h'):Now ce X pj ι σi h σ H { s with heap:=h' } :=
 ⟨N.inv.turned (it:=C) (t':=s.toks) (λ b o hb q=>(sb.2 b hb).trans q) fC.1 fC.2.1 fC.2.2.2.1 fC.2.2.2.2.1 fC.2.2.2.2.2,N.rel,N.st⟩
theorem Jv2 {N0 loc caps:List Str}{js:List Nat}{sc₀ scope:Zb1}{tg iter elt:Expr}{ifs:List Expr}{g:G1}{mt:T1}{me:E1}{pos:Pos}(hc:X.calm=Zj)(hi:PIi ce X tg iter mi) 
  (hg:∀C s H fp,PGi ce (cxC X (loc++caps) scope C s H fp) tg g)(ht:∀C s H fp,PTsi ce (cxC X (loc++caps) scope C s H fp) ifs mt)(he:∀C s H fp,PEi ce (cxC X (loc++caps) scope C s H fp) elt me)
  (ok:Q3 N0 loc caps js sc₀ scope=Zj)(hN0:X.N=N0:=by rfl)(hsc:X.env.scope=sc₀:=by rfl)(hs:∀x,Zcv iter X.env x=pure x:=by intro _;rfl):PEi ce X (.ListComp elt [⟨tg,iter,ifs,0⟩] scope pos) (Jx mi loc.length js g mt me):=by
 intro pj s σ H ι σi h Q E N K
 rw[eval_ListComp]
 refine Jj7 hi.c hg ht he ok hN0 hsc hs (λ _ _ _ _ _ _=>⟨rfl,rfl,rfl,hc⟩) N ?_
 cases e0:Jx mi loc.length js g mt me σi h with
 | exc n h'=>rw[e0] at K;exact K
 | stuck=>rw[e0] at K;exact K
 | ok v h' =>
  rw[e0] at K
  exact λ D C m s' H' ι' N' n' r hns fC=>⟨m,hns,λ h2 sb=>K _ _ H' ι' (N'.letgo fC sb) n' r⟩
theorem Jwh {N0 loc caps:List Str}{js:List Nat}{sc₀ scope:Zb1}{tg iter elt:Expr}{ifs:List Expr}{g:G1}{mt:T1}{me:E1}{pos pos2 pos3:Pos}{i:Nat}{x:Str}(hc:X.calm=Zj)(hi:PIi ce X tg iter mi) 
  (hg:∀C s H fp,PGi ce (cxC X (loc++caps) scope C s H fp) tg g)(ht:∀C s H fp,PTsi ce (cxC X (loc++caps) scope C s H fp) ifs mt)(he:∀C s H fp,PEi ce (cxC X (loc++caps) scope C s H fp) elt me)
  (ok:Q3 N0 loc caps js sc₀ scope=Zj)(hN0:X.N=N0:=by rfl)(hsc:X.env.scope=sc₀:=by rfl)(hs:∀x,Zcv iter X.env x=pure x)
  (hN:X.N.Nodup)(hix:X.N[i]?=Za x)(hlx:Loc X.env.scope x)(hf:X.fn x=Zj∨X.env.scope.names.lookup x=Za .local)
  (hsw:ZdM (.ListComp elt [⟨tg,iter,ifs,0⟩] scope pos) (Za (.Name x pos2)) pos3.line X.env=pure Zj) :
  PS1 ce X (.Assign [.Name x pos2] (.ListComp elt [⟨tg,iter,ifs,0⟩] scope pos) pos3) (Jj i (Jx mi loc.length js g mt me)):=by
 intro pj s σ H ι σi h Q E N K
 rw[exec_Assign_Name_used _ _ _ _ hsw]
 refine Zc (ZbD (Zc ?_))
 rw[arm_evalThenUse_ListComp]
 refine Zc ?_
 refine Jj7 (use:=Za (ZeA (.Name x pos2) X.env)) hi.c hg ht he ok hN0 hsc hs (λ _ _ _ _ _ _=>⟨rfl,rfl,rfl,hc⟩) N ?_
 unfold Jj at K
 cases e0:Jx mi loc.length js g mt me σi h with
 | exc n h'=>rw[e0] at K;exact λ pl a s' H' ι' N' n' q=>K pl a s' σ H' ι' N' n' q s' (.inl rfl)
 | stuck=>rw[e0] at K;exact K
 | ok v h' =>
  rw[e0] at K
  intro D C m s' H' ι' N' n' r hns fC
  obtain⟨w,rw',q⟩:=r
  obtain⟨oC,es,ep,hoC,hdC,hrest⟩:=id hns
  have hp:Inv X (pj++Q9 [C] s'.heap) σ H' s':=N'.inv.pinned (λ b hb=>(show b=C by simpa using hb)▸fC) (λ b hb=>by
   have e:b=C:=by simpa using hb
   subst e
   exact⟨oC,hoC,λ v z=>by rw[hdC] at z;cases z⟩)
  refine wpAny_assign_Name (Jf2 hp hN hix hlx rw' (λ s2 I2=>?_) hf)
  have hC2:=(I2.pin (C,oC) (Zo _ (Zo _ (Yi (by simp) hoC)))).1
  refine⟨m,⟨oC,es,ep,hC2,hdC,hrest⟩,λ h2 sb=>Zk ?_⟩
  have N2:Now ce X pj ι' (σi.set i (Za v)) h' (σ.set i (Za w)) H' s2:=⟨I2.unpinned,N'.rel,N'.st.set i q⟩
  exact Zk (K _ _ H' ι' (N2.letgo fC sb) n')
def Vb (x:Str):List IV:=x.cps.toList.map λ c=>.str ⟨#[c]⟩
def Its (x:Str):It:=⟨λ i _=>i<x.cps.size,λ i H y H'=>H'=H/\∃c,x.cps[i]?=Za c/\y=.str ⟨#[c]⟩,λ i _=>x.cps.size<=i⟩
theorem Jnl {P:ZC}{w:ZU}{K:W.Frag}{tg:Expr}{x:Str}{t:Tok}(it:Zq)(hty:["enumerate","zip","dict_itemiterator","dict_reverseitemiterator","odict_iterator","itertools.zip_longest","itertools.pairwise"].contains ty=Zm) 
  (W:∀A:ZJ,A.handled=Zd->Walks P w A it [it] [it] x.cps.size (SignAt x) (λ i h=>h.IsStrIter it ty x t i))
  (We:∀(A:ZJ)(E:QvT)(s:Zl)(i:Nat)(Q:Option Zh->Zl->Prop),A.handled=Zd->s.heap.IsStrIter it ty x t i->x.cps[i]?=Zd->(∀h',ZcW it s.heap h'->Q Zd { s with heap:=h' })->Zu (Z6 P w) A (Zbv (.ref it)) Q E s)
  (Ws:∀(A:ZJ)(E:QvT)(s:Zl)(i:Nat)(Q:QvT),s.heap.IsStrIter it ty x t i->Q (.ref it) s->Zu (Z6 P w) A (Zeg (.ref it)) Q E s):Turn P w K tg (Its x) [it] it (λ i h=>h.IsStrIter it ty x t i) where
 mem:=by simp
 obj:=λ i h st b hb=>by
  have e:b=it:=by simpa using hb
  subst e
  obtain⟨o,e,c,d⟩:=st
  exact⟨o,e,λ v z=>by rw[d] at z;cases z⟩
 keep:=λ i h h' st k=>by
  obtain⟨o,e,r⟩:=st
  exact⟨o,k it (by simp) o e,r⟩
 item:=by
  intro X hP hw hK hc i pj s σ H E I hf st hg
  subst hP hw hK
  obtain⟨f0,f1,f2,f3,f4,f5⟩:=hf it (by simp)
  refine(W X.A (I.ok.hd hc)).item i s _ _ hg st λ v h' tk hv st' kk=>?_
  obtain⟨c,u,hcc,rfl⟩:=hv
  have I1:Inv X pj σ H { s with heap:=h',toks:=tk }:=I.turned (λ b o hb e=>kk b o (by simpa using hb) e) f0 f1 f3 f4 f5
  obtain⟨o,e,c1,d1⟩:=id st'
  exact⟨_,rfl,Jtk (s:={ s with heap:=h',toks:=tk }) e c1 d1 hty ⟨.str ⟨#[c]⟩,H,I1,⟨u,rfl⟩,⟨rfl,c,hcc,rfl⟩,st',λ b hb=>(hf b hb).1⟩⟩
 done:=by
  intro X hP hw hK hc i pj s σ H E I hf st hg
  subst hP hw hK
  obtain⟨f0,f1,f2,f3,f4,f5⟩:=hf it (by simp)
  have hi:x.cps.size<=i:=hg
  have hx:x.cps[i]?=Zd:=by simp[hi]
  exact We X.A _ s i _ (I.ok.hd hc) st hx λ h' eb=>⟨rfl,I.turned (t':=s.toks) (λ b o hb e=>eb b o hb e) f0 f1 f3 f4 f5⟩
 self:=λ A i s Q E st h=>Ws A E s i Q st h
def Jty:IV->IH->Res ItI
 | .str x,h=>.ok ⟨Vb x,λ _=>True⟩ h
 | _,_=>.stuck
def iStr (e:E1):I1:=λ σ h=>(e σ h).bind Jty
theorem Jv5 {x:Str}{ι:List Zq}{H₀:Hp}:ItOk ce X.K ι H₀ (Its x) ⟨Vb x,λ _=>True⟩:=by
 refine⟨λ k v h H ι' hp R hck hx=>?_,λ k h H ι' hp R hck hx=>?_⟩
 ·have hk:k<x.cps.size:=by
   have:=(Zt.mp hx).1
   simpa [Vb] using this
  refine⟨hk,λ y H' hy=>?_⟩
  obtain⟨rfl,c,hc,rfl⟩:=hy
  simp only[Vb,Zy,Zcu,hc] at hx
  cases hx
  exact⟨R,.refl,rfl⟩
 ·have:(Vb x).length=x.cps.size:=by simp[Vb]
  show x.cps.size<=k
  rw[<- this]
  exact hx
theorem Joq {tg l:Expr}{ml:E1}(hl:PEi ce X l ml):PIi ce X tg l (iStr ml):=by
 intro pj s σ H ι σi h Q E N K
 refine hl pj s σ H ι σi h _ E N ?_
 unfold iStr at K
 cases e0:ml σi h with
 | exc n h'=>rw[e0] at K;exact K
 | stuck=>rw[e0] at K;exact K
 | ok v h' =>
  rw[e0] at K
  intro u s1 H1 ι1 N1 n1 r1
  obtain⟨w,rw',q⟩:=r1
  have fresh:∀b∈[s1.heap.objs.size],FpOk X pj H1 b:=λ b hb=>by
   have e:b=s1.heap.objs.size:=by simpa using hb
   subst e
   exact N1.inv.fpOk (Zr _) (N1.inv.hok.fresh (Zr _))
  cases v with
  | str x =>
   have e1:w=.str x:=q
   subst e1
   obtain⟨t,rfl⟩:=rw'
   simp only[Res.bind,Jty] at K
   cases ha:x.cps.all (· < 128) with
   | true =>
    refine wpAny_pyIter_ascii ha (K _ _ H1 ι1 ⟨N1.inv.kept (t':=s1.toks) λ b o e=>Ze _ e,N1.rel,N1.st⟩ n1 ?_)
    exact⟨s1.heap.objs.size,[s1.heap.objs.size],_,Its x,rfl,Jnl (ty:="str_ascii_iterator") (t:=t) _ (by decide) (λ A hA=>Walks.strAscii hA _ x t) (λ A E s i Q hA st hx hQ=>wpAny_pyNext_ascii_end hA st hx hQ) (λ A E s i Q st hq=>wpAny_pyIter_striter_ascii st hq),⟨_,Zv _ rfl,rfl,rfl⟩,fresh,Jv5⟩
   | false =>
    refine wpAny_pyIter_wide ha (K _ _ H1 ι1 ⟨N1.inv.kept (t':=s1.toks) λ b o e=>Ze _ e,N1.rel,N1.st⟩ n1 ?_)
    exact⟨s1.heap.objs.size,[s1.heap.objs.size],_,Its x,rfl,Jnl (ty:="str_iterator") (t:=t) _ (by decide) (λ A hA=>Walks.strWide hA _ x t) (λ A E s i Q hA st hx hQ=>wpAny_pyNext_wide_end hA st hx hQ) (λ A E s i Q st hq=>wpAny_pyIter_striter_wide st hq),⟨_,Zv _ rfl,rfl,rfl⟩,fresh,Jv5⟩
  | _=>simp only[Res.bind,Jty] at K
def Ite (K:W.Frag)(a:Zq):It :=
 ⟨λ i H=>∃xs x,SqL K H a xs/\xs[i]?=Za x,λ i H y H'=>∃p x,H p=Zd/\y=.ref p/\H'=upd H p (.tup [.int (i:Int),x])/\∀xs,SqL K H a xs->xs[i]?=Za x,λ i H=>∃xs,SqL K H a xs/\xs.length<=i⟩
theorem Jsl {P:ZC}{w:ZU}{K:W.Frag}{es:List Expr}{k:Nat}{p:Pos}(a it e:Zq)(hne:e≠it):Turn P w K (.Tuple es k p) (Ite K a) [e,it] e (λ i h=>(∃old,IsEnum h e it (i:Int) old)/\h.IsListIter it a i) where
 mem:=by simp
 obj:=λ i h st b hb=>by
  obtain⟨⟨old,he⟩,o,e1,c,d⟩:=st
  simp only[Z2,ZL,or_false] at hb
  rcases hb with rfl|rfl
  ·exact⟨_,he,λ v z=>by
    have z':Data.fields _=Zf9 v:=z
    cases z'⟩
  ·exact⟨o,e1,λ v z=>by rw[d] at z;cases z⟩
 keep:=λ i h h' st k=>⟨let ⟨old,he⟩:=st.1;⟨old,k e (by simp) _ he⟩,st.2.at λ o e=>k it (by simp) o e⟩
 item:=by
  intro X hP hw hK hc i pj s σ H E I hf st hg
  subst hP hw hK
  obtain⟨⟨old,he⟩,hit⟩:=st
  obtain⟨xs,x,hq,hx⟩:=hg
  obtain⟨its,rv,pl,hz⟩:=I.list hq
  obtain⟨u,hu,ru⟩:=rv.get hx
  have fe:=hf e (by simp)
  have fi:=hf it (by simp)
  have hn:H s.heap.objs.size=Zd:=I.hok.fresh (Zr _)
  refine wpAny_pyNext_enum_item he hit pl.isList (x:=u) (by simpa using hu) hne λ h' he' hit' ht hsz kk=>?_
  refine⟨_,rfl,wpAny_letOwnedTupleGo_enum he' λ h2 he2 sb=>?_⟩
  have ltE:e<s.heap.objs.size:=Zz he
  have neT:s.heap.objs.size≠e:=ZaA ltE
  have k2:∀b o,b≠e->b≠it->s.heap.get? b=Za o->h2.get? b=Za o:=λ b o h1 h3 q=>(sb.2 b h1).trans (kk b o h1 h3 q)
  have hl2:h2.IsListIter it a (i+1):=by
   obtain⟨o,q,r⟩:=hit'
   exact⟨o,(sb.2 it (ZO hne)).trans q,r⟩
  have t2:h2.get? s.heap.objs.size=Za { cls:=.type "tuple",data:=.seq #[.int i s.toks,u] }:=(sb.2 _ neT).trans ht
  -- the two records turn, then the tuple is tracked
  obtain⟨oe,hoe⟩:∃o,s.heap.get? e=Za o:=⟨_,he⟩
  obtain⟨oi,hoi,_⟩:=id hit
  have neP:∀b u,H b=Za u->b≠s.heap.objs.size:=λ b u q=>Va q hn
  have I1:Inv X pj σ (upd H s.heap.objs.size (.tup [.int (i:Int),x])) { s with heap:=h2,toks:=s.toks+1 }:=by
   refine I.step (g':=s.gens) (d':=s.drawn) (ch:=[e,it]) (λ b hb=>?_) (λ b o _ _ hc q _=>k2 b o (λ z=>hc (by simp[z])) (λ z=>hc (by simp[z])) q) (λ b o _ _ hc q _=>⟨o.slots,k2 b o (λ z=>hc (by simp[z])) (λ z=>hc (by simp[z])) q⟩) (λ b o _ q n=>?_)
    (λ b o hc q=>⟨o,k2 b o (λ z=>hc (by simp[z])) (λ z=>hc (by simp[z])) q⟩) (λ b xs q=>by rw[Jo (neP b _ q)];exact q) (λ b o u q=>by rw[Jo (neP b _ q)];exact q) (λ b ps q=>⟨#[],by rw[Jo (neP b _ q),q];simp⟩) (λ m hm=>?_) (λ b u q=>?_) I.bare
   ·simp only[Z2,ZL,or_false] at hb
    rcases hb with rfl|rfl
    ·exact⟨fe.2.2.2.1,fe.2.1,fe.2.2.2.2.1,fe.2.2.2.2.2⟩
    ·exact⟨fi.2.2.2.1,fi.2.1,fi.2.2.2.2.1,fi.2.2.2.2.2⟩
   ·rw[Jo (Z3 (Zz q))];exact n
   ·obtain⟨o,es,ep,ho,r⟩:=hm
    exact⟨o,es,ep,k2 _ o (ZO fe.2.1) (ZO fi.2.1) ho,r⟩
   ·by_cases hb:b=s.heap.objs.size
    ·subst hb
     rw[J0] at q
     cases q
     exact⟨by show 2<=sizeLine;decide,[.int i s.toks,u],.cons ⟨_,rfl⟩ (.cons ru .nil),⟨_,t2,rfl,_,rfl⟩⟩
    ·rw[Jo hb] at q
     have n1:b≠e:=λ z=>by rw[z,fe.1] at q;cases q
     have n2:b≠it:=λ z=>by rw[z,fi.1] at q;cases q
     refine(I.hok b u q).stay (λ c v hc r=>k2 c v ?_ ?_ r) (λ c q=>by rw[Jo (neP c _ q)];exact q) λ c ys q=>by rw[Jo (neP c _ q)];exact q
     ·rcases hc with z|z
      ·rw[z];exact n1
      ·intro y;rw[y,fe.1] at z;cases z
     ·rcases hc with z|z
      ·rw[z];exact n2
      ·intro y;rw[y,fi.1] at z;cases z
  refine⟨.ref s.heap.objs.size,_,I1,rfl,⟨s.heap.objs.size,x,hn,rfl,rfl,λ ys hy=>by rw[I.list_inj hy hq];exact hx⟩,⟨⟨_,he2⟩,hl2⟩,λ b hb=>?_⟩
  simp only[Z2,ZL,or_false] at hb
  rcases hb with rfl|rfl
  ·rw[Jo (Z3 ltE)];exact fe.1
  ·rw[Jo (Z3 (Zz hoi))];exact fi.1
 done:=by
  intro X hP hw hK hc i pj s σ H E I hf st hg
  subst hP hw hK
  obtain⟨⟨old,he⟩,hit⟩:=st
  obtain⟨xs,hq,hx⟩:=hg
  obtain⟨its,rv,p,hz⟩:=I.list hq
  obtain⟨f0,f1,f2,f3,f4,f5⟩:=hf it (by simp)
  have hl:=rv.length
  exact wpAny_pyNext_enum_end (I.ok.hd hc) he hit p.isList (by simp;omega) λ h' eb=>⟨rfl,I.turned (t':=s.toks) (λ b o hb e=>eb b o hb e) f0 f1 f3 f4 f5⟩
 self:=λ _ _ _ _ _ st h=>let ⟨_,he⟩:=st.1;wpAny_pyIter_enum he h
noncomputable def Qe (n:Nat):List IV->List IV
 | []=>[]
 | x::xs=>.tup [.int n,x]::Qe (n+1) xs
theorem Jeg:∀(xs:List IV)(n k:Nat),(Qe n xs)[k]?=(xs[k]?).map λ x=>.tup [.int ((n+k:Nat):Int),x]
 | [],_,_=>by simp[Qe]
 | x::xs,n,0=>by simp[Qe]
 | x::xs,n,k+1=>by
  simp only[Qe,Zbd]
  rw[Jeg xs (n+1) k]
  have:n+1+k=n+(k+1):=by omega
  rw[this]
theorem VR:∀(xs:List IV)(n:Nat),(Qe n xs).length=xs.length
 | [],_=>rfl
 | _::xs,n=>by simp[Qe,VR xs]
def Q7:List IV->IH->Res ItI
 | [.ref i],h=>match h[i]? with
  | some (.lst xs)=>.ok ⟨Qe 0 xs,λ h'=>h'[i]?=Za (.lst xs)⟩ h
  | _=>.stuck
 | _,_=>.stuck
theorem Jz7 {i:Nat}{ι:List Zq}(ha:ι[i]?=Za a):ItOk ce X.K ι H₀ (Ite X.K a) ⟨Qe 0 xs,λ h'=>h'[i]?=Za (.lst xs)⟩:=by
 refine⟨λ k v h H ι' hp R hck hx=>?_,λ k h H ι' hp R hck hx=>?_⟩
 ·obtain⟨vs,e1,r1⟩:=R.get hck (hp.at ha)
  have hx':(Qe 0 xs)[k]?=Za v:=hx
  rw[Jeg] at hx'
  obtain⟨x,hxk,rfl⟩:=Z8.mp hx'
  obtain⟨u,hu,qu⟩:=r1.get hxk
  refine⟨⟨vs,u,SqL.of e1,hu⟩,λ y H' hy=>?_⟩
  obtain⟨p,x',hp0,rfl,rfl,hy⟩:=hy
  have:=hy vs (SqL.of e1)
  rw[hu] at this
  cases this
  obtain⟨R',n'⟩:=R.grow (o:=.tup [.int (k:Int),u]) hp0
  refine⟨R',n',p,_,rfl,SqT.of J0,⟨_,_,rfl,?_,_,_,rfl,RV.mono n' _ _ qu,rfl⟩⟩
  show V.int (k:Int)=V.int ((0+k:Nat):Int)
  simp
 ·obtain⟨vs,e1,r1⟩:=R.get hck (hp.at ha)
  exact⟨vs,SqL.of e1,by rw[r1.length,<-VR xs 0];exact hx⟩
theorem Jzz {es:List Expr}{kt:Nat}{pt:Pos}{a:Expr}{ma:A1}{p pos:Pos}(hg:Gl X "enumerate")(hm:X.mg "enumerate"=Zd)(ha:PAi ce X [a] ma)(hs:ZE [a] X.env=[(Zm,Zbr a X.env)]:=by rfl):PIi ce X (.Tuple es kt pt) (.Call (.Name "enumerate" p) [a] [] pos) (iRg Q7 ma):=by
 intro pj s σ H ι σi h Q E N K
 refine Call_ (Qh N.inv hg hm boot_enumerate (ZaJ ?_ hs rfl))
 refine ha pos pj s σ H ι σi h _ E N ?_
 unfold iRg at K
 cases e0:ma σi h with
 | exc n h'=>rw[e0] at K;exact K
 | stuck=>rw[e0] at K;exact K
 | ok vs h' =>
  rw[e0] at K
  intro us s1 H1 ι1 N1 n1 r1
  obtain⟨xs,rv,qs⟩:=r1
  match vs,K with
  | [.ref i],K =>
   obtain⟨w,e1,q⟩:=qs.one_of
   subst e1
   obtain⟨b,e3,hb⟩:=q
   subst e3
   obtain⟨u,rfl,ru⟩:=QE rv
   cases ru
   cases hi:h'[i]? with
   | none=>simp only[Res.bind,Q7,hi] at K
   | some ob =>
    cases ob with
    | lst ys =>
     simp only[Res.bind,Q7,hi] at K
     obtain⟨ws,eH,rH⟩:=N1.at hi hb
     obtain⟨z,its,n,r,hl,eo⟩:=N1.inv.lstM eH
     refine call_enumerate_1 eo λ h2 he hit hsz kp=>?_
     refine wpAny_pyIter_enum he (K _ _ H1 ι1 ⟨N1.inv.kept (t':=s1.toks) kp,N1.rel,N1.st⟩ n1 ?_)
     refine⟨s1.heap.objs.size+1,[s1.heap.objs.size+1,s1.heap.objs.size],_,Ite X.K b,rfl,Jsl b s1.heap.objs.size (s1.heap.objs.size+1) (ZaA (Zax _)),⟨⟨_,he⟩,hit⟩,λ c hc=>?_,Jz7 hb⟩
     simp only[Z2,ZL,or_false] at hc
     rcases hc with rfl|rfl
     ·exact N1.inv.fpOk (ZaG _) (N1.inv.hok.fresh (ZaG _))
     ·exact N1.inv.fpOk (Zr _) (N1.inv.hok.fresh (Zr _))
    | _=>simp only[Res.bind,Q7,hi] at K
  | [],K=>exact Zf K
  | .non::_,K=>exact Zf K
  | .bl _::_,K=>exact Zf K
  | .str _::_,K=>exact Zf K
  | .tup _::_,K=>exact Zf K
  | .rol _::_,K=>exact Zf K
  | .int _::_,K=>exact Zf K
  | .ref _::_::_,K=>exact Zf K
end
noncomputable def Xt:IV->IH->Res ItI
 | .str x,h=>Jty (.str x) h
 | v,h=>itOf v h
def Ju (e:E1):I1:=λ σ h=>(e σ h).bind Xt
theorem Jtn {ce:CeT}{X:Cx}{tg l:Expr}{ml:E1}(hl:PEi ce X l ml):PIi ce X tg l (Ju ml):=by
 intro pj s σ H ι σi h Q E N K
 cases e0:ml σi h with
 | ok v h' =>
  cases v with
  | str x=>exact Joq (tg:=tg) hl pj s σ H ι σi h Q E N (by unfold iStr;unfold Ju at K;rw[e0] at K ⊢;exact K)
  | _=>exact Jqv (tg:=tg) hl pj s σ H ι σi h Q E N (by unfold iVal;unfold Ju at K;rw[e0] at K ⊢;exact K)
 | exc n h'=>exact Jqv (tg:=tg) hl pj s σ H ι σi h Q E N (by unfold iVal;unfold Ju at K;rw[e0] at K ⊢;exact K)
 | stuck=>exact Jqv (tg:=tg) hl pj s σ H ι σi h Q E N (by unfold iVal;unfold Ju at K;rw[e0] at K ⊢;exact K)
section
variable {ce:CeT}{X:Cx}
theorem x_sl:SlI ce X slI:=by
 intro pj s σ H ι σi h x v vl vu lo hi sl Q E N rx hs pl pu K
 obtain⟨xv,rx,qx⟩:=rx
 cases x with
 | ref i =>
  obtain⟨a,e1,ha⟩:=qx
  subst e1
  dsimp only[slI] at K
  cases hi':h[i]? with
  | none=>rw[hi'] at K;exact Zf K
  | some ob =>
   rw[hi'] at K
   cases ob with
   | lst xs =>
    obtain⟨vs,e1,r1⟩:=N.at hi' ha
    exact Jwr (Jr9 (X:=X.wish E)) N.inv rx hs pl pu ⟨a,vs,rfl,SqL.of e1,λ p hp=>finA N K p hp ⟨_,J0,RVs.new hp (r1.cut lo hi)⟩⟩
   | _=>exact Zf K
 | rol xs =>
  obtain⟨a,vs,e1,sa,ra⟩:=qx
  subst e1
  exact Jwr (Jr9 (X:=X.wish E)) N.inv rx hs pl pu ⟨a,vs,rfl,sa.sq,λ p hp=>finA N K p hp ⟨_,J0,RVs.new hp (ra.cut lo hi)⟩⟩
 | _=>exact Zf K
noncomputable def Vq:IV->IH->Res IV
 | .ref i,h=>match h[i]? with
  | some (.lst xs)=>.ok (.ref h.length) (h++[.lst xs])
  | _=>.stuck
 | .rol xs,h=>.ok (.ref h.length) (h++[.lst xs])
 | .tup xs,h=>.ok (.ref h.length) (h++[.lst xs])
 | _,_=>.stuck
theorem Jzh:Qt ce X (.type "list") (on1 Vq):=V2 λ pj s σ H ι σi h x xv u Q E N ru qx K=>by
 cases x with
 | ref i =>
  obtain⟨a,e1,ha⟩:=qx
  subst e1
  dsimp only[Vq] at K
  cases hi:h[i]? with
  | none=>rw[hi] at K;exact Zf K
  | some ob =>
   rw[hi] at K
   cases ob with
   | lst xs =>
    obtain⟨vs,e1,r1⟩:=N.at hi ha
    exact QP (Jcl (X:=X.wish E)) N.inv (.cons ru .nil) ⟨a,vs,rfl,.inl (SqL.of e1),λ p hp=>finA N K p hp ⟨_,J0,RVs.new hp r1⟩⟩
   | _=>exact Zf K
 | rol xs =>
  obtain⟨a,vs,e1,sa,ra⟩:=qx
  subst e1
  exact QP (Jcl (X:=X.wish E)) N.inv (.cons ru .nil) ⟨a,vs,rfl,.inl sa.sq,λ p hp=>finA N K p hp ⟨_,J0,RVs.new hp ra⟩⟩
 | tup xs =>
  obtain⟨a,vs,e1,sa,ra⟩:=qx
  subst e1
  exact QP (Jcl (X:=X.wish E)) N.inv (.cons ru .nil) ⟨a,vs,rfl,.inr sa,λ p hp=>finA N K p hp ⟨_,J0,RVs.new hp ra⟩⟩
 | _=>exact Zf K
noncomputable def Xc:IV->IH->Res IV
 | .ref i,h=>match h[i]? with
  | some (.lst xs)=>.ok (.tup xs) h
  | _=>.stuck
 | .tup xs,h=>.ok (.tup xs) h
 | _,_=>.stuck
theorem Jw1:Qt ce X (.type "tuple") (on1 Xc):=V2 λ pj s σ H ι σi h x xv u Q E N ru qx K=>by
 cases x with
 | ref i =>
  obtain⟨a,e1,ha⟩:=qx
  subst e1
  dsimp only[Xc] at K
  cases hi:h[i]? with
  | none=>rw[hi] at K;exact Zf K
  | some ob =>
   rw[hi] at K
   cases ob with
   | lst xs =>
    obtain⟨vs,e1,r1⟩:=N.at hi ha
    exact QP (Jd8 (X:=X.wish E)) N.inv (.cons ru .nil) ⟨a,vs,rfl,.inl ⟨SqL.of e1,λ p hp=>finT N K p hp r1⟩⟩
   | _=>exact Zf K
 | tup xs =>
  have qx':=qx
  obtain⟨a,vs,e1,sa,ra⟩:=qx
  subst e1
  exact QP (Jd8 (X:=X.wish E)) N.inv (.cons ru .nil) ⟨a,vs,rfl,.inr ⟨sa,fin0 N K qx'⟩⟩
 | _=>exact Zf K
def VO:List IV->Option (List Bool)
 | []=>Za []
 | .bl b::r=>(VO r).map (b:: ·)
 | _::_=>Zd
noncomputable def allI:IV->IH->Res IV
 | .ref i,h=>match h[i]? with
  | some (.lst xs)=>(match VO xs with
   | some bs=>.ok (.bl (bs.all id)) h
   | none=>.stuck)
  | _=>.stuck
 | _,_=>.stuck
theorem Jml {K:W.Frag}{ι:List Zq}{H:Hp}:∀{xs:List IV}{bs:List Bool}{vs:List V}{us:List Zh},VO xs=Za bs->RVs K ι H xs vs->Vals vs us->us=bs.map Zdv
 | [],bs,vs,us,e,q,r=>by
  cases e
  have e1:vs=[]:=q
  subst e1
  cases r
  rfl
 | x::xs,bs,vs,us,e,q,r=>by
  obtain⟨v,vr,e1,q1,q2⟩:=q
  subst e1
  cases r with
  | cons r1 r2 =>
   cases x with
   | bl b =>
    obtain⟨b2,e2,rfl⟩:=Z8.mp (show(VO xs).map (b:: ·)=Za bs from e)
    cases (show v=.bl b from q1)
    cases r1
    rw[Jml e2 q2 r2]
    rfl
   | _=>cases e
theorem Jpn (bs:List Bool):((Z9 bs.length).all λ i=>bs.getD i Zj)=bs.all id:=by
 induction bs with
 | nil=>rfl
 | cons b r ih =>
  rw[ZN,List.range_succ_eq_map,Zau,List.all_map,Zau]
  have e:((Z9 r.length).all ((λ i=>(b::r).getD i Zj)∘Nat.succ))=(Z9 r.length).all λ i=>r.getD i Zj:=by
   congr 1
  rw[e,ih]
  rfl
theorem J2e (hh:X.A.handled=Zd):Qt ce X (.builtin "all") (on1 allI):=V2 λ pj s σ H ι σi h x xv u Q E N ru qx K=>by
 cases x with
 | ref i =>
  obtain⟨a,e1,ha⟩:=qx
  subst e1
  cases ru
  dsimp only[allI] at K
  cases hi:h[i]? with
  | none=>rw[hi] at K;exact Zf K
  | some ob =>
   rw[hi] at K
   cases ob with
   | lst xs =>
    dsimp only at K
    cases hb:VO xs with
    | none=>rw[hb] at K;exact Zf K
    | some bs =>
     rw[hb] at K
     obtain⟨vs,e1,r1⟩:=N.at hi ha
     obtain⟨its,rv,pl,hz⟩:=N.inv.list (SqL.of e1)
     have eu:=Jml hb r1 rv
     subst eu
     refine call_all_walk (ZaU pl.isList ?_)
     have hlt:a<s.heap.objs.size:=by obtain⟨o,_,ho,_⟩:=pl;exact Zz ho
     have ne:a≠s.heap.objs.size:=Z3 hlt
     refine⟨s.heap.objs.size,_,_,_,_,_,λ i=>bs.getD i Zj,rfl,ZcR (prog:=X.prog) (w:=X.w) (A:=X.A.in1) hh s.heap.objs.size a ne (bs.map Zdv).toArray,⟨⟨_,Zv _ rfl,rfl,rfl⟩,?_⟩,?_,λ h' tk kk=>?_⟩
     ·obtain⟨o,n,ho,hc,_,hd⟩:=pl
      exact⟨o,Ze _ ho,hc,n,hd⟩
     ·intro i v s' Q' E' hP hq
      simp only[ZeR,Zy] at hP
      obtain⟨b,hb',rfl⟩:=Z8.mp hP
      refine Zbg ?_
      have:bs.getD i Zj=b:=by simp[List.getD,hb']
      rw[<- this]
      exact hq
     ·rw[show(bs.map Zdv).toArray.size=bs.length by simp,Jpn]
      have I1:Inv X pj σ H { s with heap:=s.heap.push { cls:=.type "list_iterator",data:=.fields #[.ref a,.int 0 0] } }:=N.inv.kept (t':=s.toks) λ b o e=>Ze _ e
      have f:=N.inv.fpOk (Zr _) (N.inv.hok.fresh (Zr _))
      exact fin0 N K rfl _ _ (I1.turned (t':=tk) (it:=s.heap.objs.size) (λ b o hb e=>kk b o (by simpa using hb) e) f.1 f.2.1 f.2.2.2.1 f.2.2.2.2.1 f.2.2.2.2.2) rfl
   | _=>exact Zf K
 | _=>exact Zf K
def MtI (ce:CeT)(X:Cx)(T id:String)(g:IV->List IV->IH->Res IV):Prop :=
 ∀(pj:PnT)(s:Zl)(σ:L2.St)(H:Hp)(ι:List Zq)(σi:ISt)(h:IH)(x:IV)(xs:List IV)(v:Zh)(us:List Zh)(Q:QvT)(E:QvT),Now ce X pj ι σi h σ H s->RU X.K ι H x v->RUs X.K ι H xs us ->
  Kont ce X RU pj ι σi σ H (g x xs h) Q E->Zu (Z6 X.prog X.w) X.A (call (.builtin id) (v::us)) Q E s
def tyOk (T:String):IV->IH->Bool
 | .str _,_=>T=="str"
 | .int _,_=>T=="int"
 | .ref i,h=>match h[i]? with
  | some (.lst _)=>T=="list"
  | some (.dct _)=>T=="dict"
  | _=>Zm
 | .rol _,_=>T=="list"
 | _,_=>Zm
def eBm (T:String)(g:IV->List IV->IH->Res IV)(o:E1)(a:A1):E1:=λ σ h=>(o σ h).bind λ x h1=>if tyOk T x h1=Zj then(a σ h1).bind λ xs h2=>g x xs h2 else .stuck
theorem Jwo (N:Now ce X pj ι σi h σ H s)(q:RV X.K ι H x xv)(e:tyOk T x h=Zj):tyV X.K T xv H:=by
 cases x with
 | str y=>cases (show xv=.str y from q);exact beq_iff_eq.mp e
 | int y=>cases (show xv=.int y from q);exact beq_iff_eq.mp e
 | rol y =>
  obtain⟨a,vs,rfl,sa,_⟩:=q
  exact .inl ⟨beq_iff_eq.mp e,vs,sa.sq⟩
 | ref i =>
  obtain⟨a,rfl,ha⟩:=q
  cases hi:h[i]? with
  | none=>simp[tyOk,hi] at e
  | some ob =>
   cases ob with
   | lst xs =>
    simp only[tyOk,hi] at e
    obtain⟨vs,e1,_⟩:=N.at hi ha
    exact .inl ⟨beq_iff_eq.mp e,vs,SqL.of e1⟩
   | dct kvs =>
    simp only[tyOk,hi] at e
    obtain⟨vs,e1,_⟩:=N.at hi ha
    exact .inr (.inr (.inl ⟨beq_iff_eq.mp e,.inl ⟨vs,e1⟩⟩))
   | _=>simp[tyOk,hi] at e
 | _=>simp[tyOk] at e
variable {o a:Expr}{es:List Expr}{mo:E1}{ma:A1}{name:Str}{apos cpos:Pos}{T id:String}{g:IV->List IV->IH->Res IV}
theorem i_bm (pa:PlainAttrs T)(slot:Slot T name id)(hty:typeOf (.builtin id)=pure (.type "method_descriptor"))(hm:MtI ce X T id g)(ho:PEi ce X o mo)(ha:PAi ce X (a::es) ma) 
  (hbase:Zd1 o name X.env (Zbr o X.env)=Zbr o X.env:=by rfl)
  (hfew:((Zb6 cpos (ZE (a::es) X.env)).all (λ x=>!x.1)&&(Zex cpos (ZcY [] X.env)).all (λ x=>x.1.isSome)
   && decide ((a::es).length+([]:List Zfl).length+(if ([]:List Zfl).isEmpty then 0 else 1)<30))=Zj:=by rfl)
  (hline:(apos.endLine==cpos.line)=Zj:=by rfl) (hs:ZE (a::es) X.env=(Zm,Zbr a X.env)::ZE es X.env:=by rfl) (hplain:(Zb6 cpos (ZE es X.env)).any (·.1)=Zm:=by rfl) :
  PEi ce X (.Call (.Attribute o name apos) (a::es) [] cpos) (eBm T g mo ma):=by
 intro pj s σ H ι σi h Q E N K
 refine wpAny_Call_method_late hbase hfew hline rfl (ho.run N K λ x h1 v s1 H1 ι1 N1 n1 r1 K1=>?_)
 by_cases hty1:tyOk T x h1=Zj
 ·rw[if_pos hty1] at K1
  obtain⟨xv,rx,qx⟩:=r1
  obtain⟨h1',h2'⟩:=Jwp N1.inv rx (Jwo N1 qx hty1)
  refine⟨T,id,pa,slot,hty,h1',h2',?_⟩
  have hA:=(ha cpos).run (Q1:=λ us s2=>Zu (Z6 X.prog X.w) X.A (call (.builtin id) (v::us)) Q E s2) N1 K1 λ xs h2 us s2 H2 ι2 N2 n2 r2 K2=>hm pj s2 σ H2 ι2 σi h2 x xs v us Q E N2 ⟨xv,rx,RV.mono n2 _ _ qx⟩ r2 K2
  rw[hs] at hA ⊢
  exact ZeD (by show(Zm||(Zb6 cpos (ZE es X.env)).any (·.1))=Zm;rw[hplain]<;>rfl) (Calls.evalArgs_plain hA)
 ·rw[if_neg hty1] at K1
  exact Zf K1
theorem J2r (pa:PlainAttrs T)(slot:Slot T name id)(hty:typeOf (.builtin id)=pure (.type "method_descriptor"))(hm:MtI ce X T id g)(ho:PEi ce X o mo) 
  (hbase:Zd1 o name X.env (Zbr o X.env)=Zbr o X.env:=by rfl)(hline:(apos.endLine==cpos.line)=Zj:=by rfl):PEi ce X (.Call (.Attribute o name apos) [] [] cpos) (eBm T g mo Jd):=by
 intro pj s σ H ι σi h Q E N K
 refine wpAny_Call_method0_late hbase hline (ho.run N K λ x h1 v s1 H1 ι1 N1 n1 r1 K1=>?_)
 by_cases hty1:tyOk T x h1=Zj
 ·rw[if_pos hty1] at K1
  obtain⟨xv,rx,qx⟩:=r1
  obtain⟨h1',h2'⟩:=Jwp N1.inv rx (Jwo N1 qx hty1)
  exact⟨T,id,pa,slot,hty,h1',h2',ZeD rfl (PySem.evalArgs_none (hm pj s1 σ H1 ι1 σi h1 x [] v [] Q E N1 ⟨xv,rx,qx⟩ .nil K1))⟩
 ·rw[if_neg hty1] at K1
  exact Zf K1
theorem Jwq {pj:PnT}{s:Zl}{σ:L2.St}{H:Hp}{Q:QvT}{E:QvT}{r:V->List V->Hp->VK->Prop}{x:V}{xs:List V}{v:Zh}{us:List Zh}(p:MtM (X.wish E) id r)(I:Inv X pj σ H s)(rx:RelV x v)(rs:Vals xs us)
  (k:r x xs H λ z H'=>∀u s',Inv X pj σ H' s'->RelV z u->Q u s'):Zu (Z6 X.prog X.w) X.A (call (.builtin id) (v::us)) Q E s :=
 Zas (p pj s σ H x xs v us _ (I.wish E) rx rs k) (λ u s' ⟨_,_,I',r,q⟩=>q u s' I'.unwish r) λ _ _ z=>z
theorem finW {b:Zq}{vs ws:List V}{w:V}(N:Now ce X pj ι σi h σ H s)(K:Kont ce X RU pj ι σi σ H (.ok v (h.set i (.lst ys))) Q E) 
  (hb:ι[i]?=Za b)(eH:H b=Za (.lst vs))(r:RVs X.K ι H ys ws)(q:RV X.K ι H v w):∀u s',Inv X pj σ (upd H b (.lst ws)) s'->RelV w u->Q u s':=λ u s' I ru=>by
 have n:Nxt ι H ι (upd H b (.lst ws)):=⟨⟨[],by simp⟩,Ext.upd_mut eH (by rw[eH];exact Zaz)⟩
 obtain⟨R,_⟩:=N.rel.write (o:=.lst ws) (io:=.lst ys) hb eH (by rw[eH];exact Zaz) ⟨_,J0,RVs.mono n _ _ r⟩
 exact K u s' _ ι ⟨I,R,N.st.mono n⟩ n ⟨w,ru,RV.mono n _ _ q⟩
def VL:IV->List IV->IH->Res IV
 | .ref i,[y],h=>match h[i]? with
  | some (.lst xs)=>if xs.length<sizeLine then .ok .non (h.set i (.lst (xs++[y]))) else .stuck
  | _=>.stuck
 | _,_,_=>.stuck
theorem Jt6:MtI ce X "list" "list.append" VL:=by
 intro pj s σ H ι σi h x xs v us Q E N rx rs K
 obtain⟨xv,rx,qx⟩:=rx
 obtain⟨vs,rv,qs⟩:=rs
 cases x with
 | ref i =>
  match xs,K with
  | [y],K =>
   obtain⟨a,rfl,ha⟩:=qx
   obtain⟨w,rfl,qw⟩:=qs.one_of
   dsimp only[VL] at K
   cases hi:h[i]? with
   | none=>rw[hi] at K;exact Zf K
   | some ob =>
    rw[hi] at K
    cases ob with
    | lst zs =>
     dsimp only at K
     split at K
     ·rename_i hz
      obtain⟨ws,e1,r1⟩:=N.at hi ha
      exact Jwq (Jku (X:=X.wish E)) N.inv rx rv ⟨a,ws,w,rfl,rfl,e1,by rw[r1.length];exact hz,finW N K ha e1 (r1.append (RVs.one qw)) rfl⟩
     ·exact Zf K
    | _=>exact Zf K
  | [],K=>exact Zf K
  | _::_::_,K=>exact Zf K
 | _=>cases xs<;>exact Zf K
def setI:IV->IV->IV->ISt->IH->SRes
 | .ref i,.int k,v,σ,h=>match h[i]? with
  | some (.lst xs)=>(match ixN xs.length k with
   | some j=>.next σ (h.set i (.lst (xs.set j v)))
   | none=>.stuck)
  | _=>.stuck
 | _,_,_,_,_=>.stuck
end
section
variable {ce:CeT}{X:Cx}
noncomputable def keyI:IV->Option Key
 | .int i=>Za (.inl i)
 | .str x=>Za (.inr x)
 | _=>Zd
theorem Jfx {K:W.Frag}{ι:List Zq}{H:Hp}{x:IV}{v:V}{k:Key}(e:keyI x=Za k)(r:RV K ι H x v):v=kV k:=by
 cases x with
 | int i=>cases e;exact r
 | str y=>cases e;exact r
 | _=>cases e
def maxI:IV->IV->IH->Res IV
 | .int i,.int j,h=>.ok (.int (if j>i then j else i)) h
 | _,_,_=>.stuck
def minI:IV->IV->IH->Res IV
 | .int i,.int j,h=>.ok (.int (if j<i then j else i)) h
 | _,_,_=>.stuck
theorem J2g (hc:X.calm=Zj):Qt ce X (.builtin "max") (on2 maxI):=by
 intro pj s σ H ι σi h xs us Q E N r K
 obtain⟨vs,rv,q⟩:=r
 match xs,K with
 | [x,y],K =>
  obtain⟨v,w,rfl,qx,qy⟩:=q.two_of
  cases x with
  | int i =>
   cases y with
   | int j =>
    cases (show v=.int i from qx)
    cases (show w=.int j from qy)
    exact QP (Jpz (X:=X.wish E) hc) N.inv rv ⟨i,j,rfl,fin0 N K rfl⟩
   | _=>exact Zf K
  | _=>cases y<;>exact Zf K
 | [],K=>exact Zf K
 | [_],K=>exact Zf K
 | _::_::_::_,K=>exact Zf K
theorem J2h (hc:X.calm=Zj):Qt ce X (.builtin "min") (on2 minI):=by
 intro pj s σ H ι σi h xs us Q E N r K
 obtain⟨vs,rv,q⟩:=r
 match xs,K with
 | [x,y],K =>
  obtain⟨v,w,rfl,qx,qy⟩:=q.two_of
  cases x with
  | int i =>
   cases y with
   | int j =>
    cases (show v=.int i from qx)
    cases (show w=.int j from qy)
    exact QP (Jp0 (X:=X.wish E) hc) N.inv rv ⟨i,j,rfl,fin0 N K rfl⟩
   | _=>exact Zf K
  | _=>cases y<;>exact Zf K
 | [],K=>exact Zf K
 | [_],K=>exact Zf K
 | _::_::_::_,K=>exact Zf K
noncomputable def Vv:List IV->Option (List Str)
 | []=>Za []
 | .str x::r=>(Vv r).map (x:: ·)
 | _=>Zd
theorem Jsg {K:W.Frag}{ι:List Zq}{H:Hp}:∀{xs:List IV}{zs:List Str}{vs:List V}{us:List Zh},Vv xs=Za zs->RVs K ι H xs vs->Vals vs us->∃l:List (Str×Tok),us=ZfC l/\l.map (·.1)=zs
 | [],zs,vs,us,e,q,r=>by
  cases e
  have e1:vs=[]:=q
  subst e1
  cases r
  exact⟨[],rfl,rfl⟩
 | x::xs,zs,vs,us,e,q,r=>by
  obtain⟨v,vr,e1,q1,q2⟩:=q
  subst e1
  cases r with
  | cons r1 r2 =>
   cases x with
   | str y =>
    obtain⟨z2,e2,rfl⟩:=Z8.mp (show(Vv xs).map (y:: ·)=Za zs from e)
    cases (show v=.str y from q1)
    obtain⟨t,rfl⟩:=r1
    obtain⟨l,rfl,hl⟩:=Jsg e2 q2 r2
    exact⟨(y,t)::l,rfl,by rw[Z7,hl]⟩
   | _=>cases e
end
noncomputable def JA:List IV->Option (List Int)
 | []=>Za []
 | .int i::r=>(JA r).map (i:: ·)
 | _=>Zd
theorem Vo {K:W.Frag}{ι:List Zq}{H:Hp}:∀{xs:List IV}{ns:List Int}{vs:List V}{us:List Zh},JA xs=Za ns->RVs K ι H xs vs->Vals vs us->Zbh us ns
 | [],ns,vs,us,e,q,r=>by
  cases e
  have e1:vs=[]:=q
  subst e1
  cases r
  exact .nil
 | x::xs,ns,vs,us,e,q,r=>by
  obtain⟨v,vr,e1,q1,q2⟩:=q
  subst e1
  cases r with
  | cons r1 r2 =>
   cases x with
   | int i =>
    obtain⟨n2,e2,rfl⟩:=Z8.mp (show(JA xs).map (i:: ·)=Za ns from e)
    cases (show v=.int i from q1)
    obtain⟨t,rfl⟩:=r1
    exact .cons i t (Vo e2 q2 r2)
   | _=>cases e
theorem Jbw:∀{us:List Zh}{ns:List Int},Zbh us ns->us.length=ns.length
 | _,_,.nil=>rfl
 | _,_,.cons _ _ r=>by simp[Jbw r]
section
variable {ce:CeT}{X:Cx}
noncomputable def sumI:IV->IH->Res IV
 | .ref i,h=>match h[i]? with
  | some (.lst xs)=>(match JA xs with
   | some ns=>.ok (.int ns.sum) h
   | none=>.stuck)
  | _=>.stuck
 | _,_=>.stuck
theorem J2i (hh:X.A.handled=Zd):Qt ce X (.builtin "sum") (on1 sumI):=V2 λ pj s σ H ι σi h x xv u Q E N ru qx K=>by
 cases x with
 | ref i =>
  obtain⟨a,e1,ha⟩:=qx
  subst e1
  cases ru
  dsimp only[sumI] at K
  cases hi:h[i]? with
  | none=>rw[hi] at K;exact Zf K
  | some ob =>
   rw[hi] at K
   cases ob with
   | lst xs =>
    dsimp only at K
    cases hb:JA xs with
    | none=>rw[hb] at K;exact Zf K
    | some ns =>
     rw[hb] at K
     obtain⟨vs,e1,r1⟩:=N.at hi ha
     obtain⟨its,rv,pl,hz⟩:=N.inv.list (SqL.of e1)
     have are:=Vo hb r1 rv
     obtain⟨ys,hy⟩:=are.allInts.items
     have pl':s.heap.IsList a (intItems ys):=hy▸pl.isList
     refine sum_intListG hh pl' λ h2 tk t2 kk=>?_
     have en:ns=ys.toList.map (·.1):=by
      have q1:=are.numsOf
      have q2:=congrArg (λ z:Array Zh=>numsOf z.toList) hy
      simp only at q2
      rw[<- q1]
      exact q2.trans (nums_intItems ys)
     have es:preSum (numAt ys) ys.size=ns.sum:=by
      rw[preSum_eq,en,Zdh (by simp)]
     rw[es]
     exact fin0 N K rfl _ _ (N.inv.kept (t':=tk) kk) ⟨_,rfl⟩
   | _=>exact Zf K
 | _=>exact Zf K
end
def JG (f:Nat->Int):Nat->Int
 | 0=>0
 | 1=>f 0
 | j+2=>if f (j+1)>JG f (j+1) then f (j+1) else JG f (j+1)
theorem Je1 (f:Nat->Int)(hj:0<j):JG f (j+1)=if f j>JG f j then f j else JG f j:=by
 cases j with
 | zero=>omega
 | succ j=>rfl
section
variable {pr:ZC}{wd:ZU}{B:ZJ}{R:Zeh->Zl->Prop}{it:Zq}{fps wrs:List Zq}{n:Nat}{P:Nat->Zh->Prop}{St:Nat->Zar->Prop}
abbrev Jwe (v:Zh)(c:Nat):Obj:={ cls:=.type "list",dict:=Zd,data:=.seq #[v,v] c,slots:=#[] }
theorem Jit:(toString "max"++toString ".loop":String)="max.loop":=by decide
theorem Jx2 {kw:List (Str×Zh)}(W:Walks pr wd B.in1 it fps wrs n P St)(f:Nat->Int)(hf:∀i v,P i v->∃t,v=.int (f i) t)(C:Zq)(hC:C∉fps) :
  ∀(r j:Nat)(z:Zl)(v:Zh)(u:Tok)(c:Nat),n-j=r->0<j->j<=n->St j z.heap->v=.int (JG f j) u->z.heap.get? C=Za (Jwe v c) ->
   (∀u h2 tk,(∀a o,a∉wrs->a≠C->z.heap.get? a=Za o->h2.get? a=Za o)->R (.ok (.ret (.int (JG f n) u))) { z with heap:=h2,toks:=tk }) ->
   Zc2 (Z6 pr wd) B (.builtin "max.loop" ⟨[.ref it,.none,.ref C],kw⟩) R z:=by
 have hw:C∉wrs:=λ q=>hC (W.sub _ q)
 intro r
 induction r with
 | zero =>
  intro j z v u c hr h0 hj st ev gC fin
  obtain rfl:j=n:=by omega
  subst ev
  refine Zaa Zdk ?_
  rw[ZG ZaN _]
  show Zu _ B.in1 (Zca (.ref C)>>=_) _ _ z
  refine Zc (Zba gC rfl ?_)
  show Zu _ B.in1 (tryCatch (Zbv (.ref it)) _>>=_) _ _ z
  refine Zc (Za1 (W.done z _ _ st λ h2 tk keep=>?_))
  have gC2:=keep C _ hw gC
  show Zu _ B.in1 (Zey C (λ _=>#[])>>=_) _ _ _
  refine Zc ?_
  refine Zbn gC2 rfl (Zc (Zbo (Zk ?_)))
  exact fin u _ tk λ a o ha hb e=>(Zw _ _ (ZO hb)).trans (keep a o ha e)
 | succ r ih =>
  intro j z v u c hr h0 hj st ev gC fin
  have lt:j<n:=by omega
  subst ev
  refine Zaa Zdk ?_
  rw[ZG ZaN _]
  show Zu _ B.in1 (Zca (.ref C)>>=_) _ _ z
  refine Zc (Zba gC rfl ?_)
  show Zu _ B.in1 (tryCatch (Zbv (.ref it)) _>>=_) _ _ z
  refine Zc (Za1 (W.item j z _ _ lt st λ y h2 tk hP st2 keep=>?_))
  obtain⟨t,rfl⟩:=hf j y hP
  have gC2:=keep C _ hw gC
  have cmp:=CmpOf.ints_gt (prog:=pr) (w:=wd) (A:=B.in1) (P:=λ i v=>∃t,v=.int (if i=0 then f j else JG f j) t) (λ i=>if i=0 then f j else JG f j) (λ _ _ q=>q)
  show Zu _ B.in1 (tryCatch (Zci [ZbI (f j) t,ZbI (f j) t] (Zda .Gt (.int (f j) t) (.int (JG f j) u)>>=_)) _>>=_) _ _ _
  refine Zc (Za1 (ZT (Zc (cmp 0 1 _ _ _ _ _ ⟨t,by simp⟩ ⟨u,by simp⟩ ?_))))
  refine Zc (ZT (Zbg ?_))
  refine Zc (Zbo (Zk ?_))
  have step:=Je1 f h0
  by_cases hb:f j>JG f j
  ·rw[if_pos hb] at step
   simp only[if_true,show ¬(1:Nat)=0 by decide,if_false,decide_eq_true hb]
   refine Zc ?_
   refine Zbn gC2 rfl (Zc (Zbo ?_))
   rw[Jit]
   refine Zk ⟨Zav ZaN _,ih (j+1) _ (.int (f j) t) t _ (by omega) (by omega) lt (W.frame _ _ _ st2 λ a ha o e=>?_) (by rw[step]) (Zae _ gC2 rfl) λ u2 h3 tk3 k3=>?_⟩
   ·exact(Zw _ _ (λ q:C=a=>hC (by rw[q];exact ha))).trans e
   ·exact fin u2 h3 tk3 λ a o ha hc e=>k3 a o ha hc ((Zw _ _ (ZO hc)).trans (keep a o ha e))
  ·rw[if_neg hb] at step
   simp only[if_true,show ¬(1:Nat)=0 by decide,if_false,decide_eq_false hb,ZX]
   refine Zc (Zbo ?_)
   rw[Jit]
   refine Zk ⟨Zav ZaN _,ih (j+1) _ (.int (JG f j) u) u c (by omega) (by omega) lt st2 (by rw[step]) gC2 λ u2 h3 tk3 k3=>?_⟩
   exact fin u2 h3 tk3 λ a o ha hc e=>k3 a o ha hc (keep a o ha e)
end
theorem Jpp (a v:Zh):ZdW "max" ⟨[a],[(ZaO "default",v)]⟩:=by unfold ZdW;kernel_rfl
section
variable {pr:ZC}{wd:ZU}{B:ZJ}{E:QvT}{z:Zl}{l:Zq}{us:List Zh}{ns:List Int}{d:Option Zh}{Q:QvT}{kw:List (Str×Zh)}
def J2a (ns:List Int)(d:Option Zh)(v:Zh):Prop:=(ns=[]/\d=Za v)∨(ns≠[]/\∃u,v=.int (JG (λ i=>ns.getD i 0) ns.length) u)
theorem Jrl (hk:ZaK "max" ["key","default"] 0 ⟨[],kw⟩=pure [Zd,d])(ha:ZdW "max" ⟨[.ref l],kw⟩)(hn:ns=[]->∃v,d=Za v)(hh:B.handled=Zd)(hl:z.heap.IsList l us.toArray)(hi:Zbh us ns) 
  (hQ:∀v h2 tk,J2a ns d v->(∀b o,z.heap.get? b=Za o->h2.get? b=Za o)->Q v { z with heap:=h2,toks:=tk }) :
  Zu (Z6 pr wd) B (call (.builtin "max") [.ref l] kw) Q E z:=by
 obtain⟨ol,hol,_⟩:=id hl
 have lt:l<z.heap.objs.size:=Zz hol
 have ll:=Jbw hi
 refine kmk_tree PySem.F.kind_max PySem.F.plain_max PySem.F.entry_max ha ?_
 show Zu _ B.in1 (ZaK "max" ["key","default"] 0 ⟨[],kw⟩>>=_) _ _ z
 refine Zc (Zed hk ?_)
 refine Zc (Zk ?_)
 refine Zc (ZaU hl ?_)
 refine Zc (ZbT ?_ (ZK _))
 rw[Jit]
 have ne:l≠z.heap.objs.size:=Z3 lt
 have W:=ZcR (prog:=pr) (w:=wd) (A:=B.in1) hh z.heap.objs.size l ne us.toArray
 have sz:us.toArray.size=us.length:=Zx ..
 have hS:(z.heap.push { cls:=.type "list_iterator",data:=.fields #[.ref l,.int 0 0] }).objs.size=z.heap.objs.size+1:=ZcS ..
 have hC:(z.heap.push { cls:=.type "list_iterator",data:=.fields #[.ref l,.int 0 0] }).objs.size∉[z.heap.objs.size,l]:=by
  rw[hS]
  simp only[Z2,ZL,or_false,not_or]
  exact⟨ZaA (Zax _),ZaA (ZaW lt)⟩
 have hw:(z.heap.push { cls:=.type "list_iterator",data:=.fields #[.ref l,.int 0 0] }).objs.size∉[z.heap.objs.size]:=by
  rw[hS]
  simp only[Z2,ZL,or_false]
  exact ZaA (Zax _)
 have old:∀b o,z.heap.get? b=Za o->((z.heap.push { cls:=.type "list_iterator",data:=.fields #[.ref l,.int 0 0] }).push (ZM "list" #[] 0)).get? b=Za o:=λ b o e=>Ze _ (Ze _ e)
 have gI:((z.heap.push { cls:=.type "list_iterator",data:=.fields #[.ref l,.int 0 0] }).push (ZM "list" #[] 0)).get? z.heap.objs.size=Za { cls:=.type "list_iterator",data:=.fields #[.ref l,.int 0 0] }:=Ze _ (Zv _ rfl)
 have gC:((z.heap.push { cls:=.type "list_iterator",data:=.fields #[.ref l,.int 0 0] }).push (ZM "list" #[] 0)).get? (z.heap.push { cls:=.type "list_iterator",data:=.fields #[.ref l,.int 0 0] }).objs.size=Za (ZM "list" #[] 0):=Zv _ rfl
 have notin:∀b o,z.heap.get? b=Za o->b∉[z.heap.objs.size]:=λ b o e q=>Z3 (Zz e) (Z5.mp q)
 have notC:∀b o,z.heap.get? b=Za o->b≠(z.heap.push { cls:=.type "list_iterator",data:=.fields #[.ref l,.int 0 0] }).objs.size:=λ b o e=>by rw[hS];exact Z3 (ZaW (Zz e))
 refine Zk ⟨Zav ZaN _,Zaa Zdk ?_⟩
 rw[ZG ZaN _]
 show Zu _ B.in1 (Zca (.ref _)>>=_) _ _ _
 refine Zc (Zba gC rfl ?_)
 show Zu _ B.in1 (tryCatch (Zbv (.ref z.heap.objs.size)) _>>=_) _ _ _
 by_cases h0:us.length=0
 ·refine Zc (Za1 (W.done _ _ _ (by rw[sz,h0];exact⟨⟨_,gI,rfl,rfl⟩,(hl.push _).push _⟩) λ h2 tk keep=>?_))
  obtain⟨v,rfl⟩:=hn (Zal (by omega))
  show Zu _ B.in1 (rule _>>=_) _ _ _
  refine Zc (Zdy (Zk ?_))
  refine hQ v h2 tk (.inl ⟨Zal (by omega),rfl⟩) λ b o e=>keep b o (notin b o e) (old b o e)
 ·refine Zc (Za1 (W.item 0 _ _ _ (by rw[sz];omega) ⟨⟨_,gI,rfl,rfl⟩,(hl.push _).push _⟩ λ y h2 tk hP st2 keep=>?_))
  have gC2:=keep _ _ hw gC
  show Zu _ B.in1 (Zey (z.heap.push { cls:=.type "list_iterator",data:=.fields #[.ref l,.int 0 0] }).objs.size (λ _=>#[y,y])>>=_) _ _ _
  refine Zc ?_
  refine Zbn gC2 rfl ?_
  rw[Jit]
  have hf:∀(i:Nat)(v:Zh),us.toArray[i]?=Za v->∃t,v=.int ((λ i=>ns.getD i 0) i) t:=λ i v q=>Zff hi i v (by simpa using q)
  obtain⟨t,rfl⟩:=hf 0 y hP
  refine Zk ⟨Zav ZaN _,Jx2 W (λ i=>ns.getD i 0) hf _ hC _ 1 _ _ t _ rfl (by decide) (by rw[sz];omega) (W.frame _ _ _ st2 λ a ha o e=>?_) rfl (Zae _ gC2 rfl) λ u h3 tk3 k3=>?_⟩
  ·exact(Zw _ _ (λ q=>hC (by rw[q];exact ha))).trans e
  ·rw[sz,ll]
   refine hQ _ h3 tk3 (.inr ⟨λ q=>h0 (by rw[ll,q];rfl),u,rfl⟩) λ b o e=>k3 b o (notin b o e) (notC b o e) ((Zw _ _ (ZO (notC b o e))).trans (keep b o (notin b o e) (old b o e)))
end
section
variable {ce:CeT}{X:Cx}
def maxD (ns:List Int)(d:IV):IV:=if ns=[] then d else .int (JG (λ i=>ns.getD i 0) ns.length)
def XX (aa:A1)(md:E1):E1:=λ σ h=>(aa σ h).bind λ xs h1=>(md σ h1).bind λ d h2=>match xs with
 | [.ref i]=>(match h2[i]? with
  | some (.lst ys)=>(match JA ys with
   | some ns=>.ok (maxD ns d) h2
   | none=>.stuck)
  | _=>.stuck)
 | _=>.stuck
theorem Jz2 {a de:Expr}{aa:A1}{md:E1}{p pos kp:Pos}(hh:X.A.handled=Zd)(hg:Gl X "max")(hm:X.mg "max"=Zd)(ha:PAi ce X [a] aa)(hd:PEi ce X de md)(hs:ZE [a] X.env=[(Zm,Zbr a X.env)]) :
  PEi ce X (.Call (.Name "max" p) [a] [⟨Za "default",de,kp⟩] pos) (XX aa md):=λ pj s σ H ι σi h Q E N K=>by
 refine Zac (Qh N.inv hg hm rfl ?_)
 refine Zfg ?_ (by rw[hs];rfl) (by rw[hs];rfl) rfl rfl
 refine(ha pos).run N K λ xs h1 us s1 H1 ι1 N1 n1 r1 K1=>?_
 refine Zbs (Zc (PX.run hd N1 K1 λ d h2 du s2 H2 ι2 N2 n2 r2 K2=>Zc (ZbD (Zk (ZbU ?_)))))
 obtain⟨vs,rv,qs⟩:=r1.mono n2
 match xs,K2 with
 | [.ref i],K2 =>
  obtain⟨w,rfl,ad,rfl,hav⟩:=qs.one_of
  obtain⟨u,rfl,ru⟩:=QE rv
  cases ru
  dsimp only at K2
  cases hi:h2[i]? with
  | none=>rw[hi] at K2;exact Zf K2
  | some ob =>
   rw[hi] at K2
   cases ob with
   | lst ys =>
    dsimp only at K2
    cases hb:JA ys with
    | none=>rw[hb] at K2;exact Zf K2
    | some ns =>
     rw[hb] at K2
     dsimp only at K2
     obtain⟨ws,e1,r3⟩:=N2.at hi hav
     obtain⟨its,rv2,pl,_⟩:=N2.inv.list (SqL.of e1)
     refine Jrl (d:=Za du) rfl (Jpp _ _) (λ _=>⟨_,rfl⟩) hh pl.isList (Vo hb r3 rv2) λ v h3 tk mi kk=>?_
     have N3:Now ce X pj ι2 σi h2 σ H2 { s2 with heap:=h3,toks:=tk }:=⟨N2.inv.kept (t':=tk) kk,N2.rel,N2.st⟩
     rcases mi with⟨e,ev⟩|⟨e,t,rfl⟩
     ·cases ev
      have em:maxD ns d=d:=if_pos e
      rw[em] at K2
      exact K2 _ _ _ _ N3 .refl r2
     ·have em:maxD ns d=.int (JG (λ i=>ns.getD i 0) ns.length):=if_neg e
      rw[em] at K2
      exact K2 _ _ _ _ N3 .refl ⟨.int _,⟨t,rfl⟩,rfl⟩
   | _=>exact Zf K2
 | [],K2=>exact Zf K2
 | [.non],K2=>exact Zf K2
 | [.bl _],K2=>exact Zf K2
 | [.int _],K2=>exact Zf K2
 | [.str _],K2=>exact Zf K2
 | [.tup _],K2=>exact Zf K2
 | [.rol _],K2=>exact Zf K2
 | x::_::_,K2=>cases x<;>exact Zf K2
end
def metB (f:Nat->Str)(i:Nat)(k:Str):Bool:=(Z9 i).any λ j=>decide (k=f j)
def cntD (f:Nat->Str):Nat->Nat
 | 0=>0
 | i+1=>if metB f i (f i) then cntD f i else cntD f i+1
theorem Jri (f:Nat->Str)(i:Nat)(k:Str):metB f (i+1) k=(metB f i k||decide (k=f i)):=by simp[metB,ZcO]
theorem Jln (f:Nat->Str):∀i,cntD f i<=i
 | 0=>Zr _
 | i+1=>by
  have:=Jln f i
  unfold cntD
  split<;>omega
section
variable {pr:ZC}{wd:ZU}{B:ZJ}{R:Zeh->Zl->Prop}{it:Zq}{fps wrs:List Zq}{G:Array Zep->Array Zep->Prop}{n:Nat}{P:Nat->Zh->Prop}{St:Nat->Zl->Prop}
abbrev Vk (pr:ZC)(wd:ZU)(hp:Zar)(a:Zq)(f:Nat->Str)(i:Nat):Prop:=hp.SetOf (Zd2 pr wd) a (λ k=>metB f i k) (cntD f i)
theorem Vk.moved {hp h2:Zar}(q:Vk pr wd hp a f i)(m:∀o,hp.get? a=Za o->h2.get? a=Za o):Vk pr wd h2 a f i:=by
 obtain⟨o,es,ep,t,ho,rest⟩:=q
 exact⟨o,es,ep,t,m o ho,rest⟩
theorem Jup (W:WalksS pr wd B.in1 it fps wrs G n P St)(C:Zq)(hC:C∉fps)(f:Nat->Str)(hf:∀i v,P i v->∃t,v=.str (f i) t)(room:n+1<Zb8) :
  ∀(r i:Nat)(z:Zl),n-i=r->i<=n->St i z->Vk pr wd z.heap C f i->(∀z2,Moved (C::wrs) G z z2->Vk pr wd z2.heap C f n->R (.ok (.ret .none)) z2) ->
   Zc2 (Z6 pr wd) B (.builtin "set.update.loop" ⟨[.ref C,.ref it],[]⟩) R z:=by
 have nw:C∉wrs:=λ q=>hC (W.sub _ q)
 have more:∀b∈wrs,b∈C::wrs:=λ b q=>Zi _ q
 intro r
 induction r with
 | zero =>
  intro i z hr hi st hS fin
  obtain rfl:i=n:=by omega
  refine Zaa ZaS ?_
  rw[ZG Zaq _]
  show Zu _ B.in1 (Zbv (.ref it)>>=_) _ _ z
  refine Zc (W.done z _ _ st λ z2 mv=>?_)
  show Zu _ B.in1 (ret ZV) _ _ z2
  exact Zk (fin z2 (mv.mono more) (hS.moved λ o e=>mv.heap C _ nw e))
 | succ r ih =>
  intro i z hr hi st hS fin
  have lt:i<n:=by omega
  refine Zaa ZaS ?_
  rw[ZG Zaq _]
  show Zu _ B.in1 (Zbv (.ref it)>>=_) _ _ z
  refine Zc (W.item i z _ _ lt st λ v z2 hP st2 mv=>?_)
  obtain⟨t,rfl⟩:=hf i v hP
  have hS2:Vk pr wd z2.heap C f i:=hS.moved λ o e=>mv.heap C _ nw e
  have ki:(Zd2 pr wd).is (f i) (.str (f i) t)=Zj:=strKind_is _ _ _ _
  show Zu _ B.in1 (Zci [Zfk (f i) t] (setAdd C (.str (f i) t))>>=_) _ _ z2
  refine Zc (ZT ?_)
  unfold setAdd
  refine ZT ?_
  refine Zc ((Zd2 pr wd).pyHash (k:=f i) ki ?_)
  have rm:cntD f i+1<Zb8:=by have:=Jln f i;omega
  refine wpAny_setAddHashed_of (knd:=Zd2 pr wd) (s:={ z2 with toks:=z2.toks+1 }) ki rfl hS2 rm λ h3 sb hS3=>?_
  have hS4:Vk pr wd h3 C f (i+1):=SetOf_congr hS3 (λ k=>(Jri f i k).symm) (by show _=cntD f (i+1);rfl)
  refine Zk ⟨Zav Zaq _,ih (i+1) _ (by omega) lt (W.frame _ z2 _ _ st2 (ZaG _) λ b q o e=>?_) hS4 λ z5 m5 hS5=>?_⟩
  ·rw[sb.2 b (λ e2:b=C=>hC (by rw[<- e2];exact q))];exact e
  ·refine fin z5 (Moved.trans W.gtrans ((mv.mono more).then_heap (ZaG _) λ b o q e=>?_) m5) hS5
   rw[sb.2 b (λ e2:b=C=>q (by rw[e2];exact Z0))];exact e
end
section
variable {pr:ZC}{wd:ZU}{B:ZJ}{E:QvT}{z:Zl}{l:Zq}{us:List Zh}{zs:List Str}{Q:QvT}
abbrev JE (led:Bool):Obj:={ cls:=.type "set",dict:=Zd,data:=.set #[] 0 (.fresh 0 0 led) }
abbrev QB (zs:List Str):Nat->Str:=λ i=>zs.getD i Str.empty
set_option maxRecDepth 100000 in
theorem Jun {l2:List (Str×Tok)}(hh:B.handled=Zd)(hl:z.heap.IsList l us.toArray)(eu:us=ZfC l2)(ez:l2.map (·.1)=zs)(room:zs.length+1<Zb8)
  (fin:∀(h2:Zar)(tk:Nat),Vk pr wd h2 z.heap.objs.size (QB zs) zs.length->(∀b o,z.heap.get? b=Za o->h2.get? b=Za o)->Q (.ref z.heap.objs.size) { z with heap:=h2,toks:=tk }) :
  Zu (Z6 pr wd) B (call (.type "set") [.ref l]) Q E z:=by
 have len:us.toArray.size=zs.length:=by rw[eu,<-ez];simp[ZfC]
 have vals:∀(i:Nat)(v:Zh),us.toArray[i]?=Za v->∃t,v=.str (QB zs i) t:=λ i v q=>by
  rw[eu] at q
  simp only[ZfC,ZeR,Zy] at q
  obtain⟨p,hp,rfl⟩:=Z8.mp q
  refine⟨p.2,?_⟩
  rw[<- ez]
  simp[QB,Zg,Zy,hp]
 obtain⟨c,tl,hmro⟩:=PySem.F.called_set.mro
 have hmade:=PySem.F.called_set.made
 have hsub:=PySem.F.called_set.sub
 refine ZeB (ZeL ?_)
 show Zu _ _ (callAny (.type "set") _) _ _ _
 refine Zk ⟨Code.quiet_builtin _ (by decide +kernel),Zaa Zez ?_⟩
 rw[Around.under_plain (ZeS "set" [.ref l] []) rfl]
 have no1:=PySem.F.called_set.notType
 have no2:=PySem.F.called_set.canCreate
 have ok1:=ZeE (.ref l)
 repeat (any_goals (first|assumption|wp_step))
 refine Zch (code_set_new_1 (.ref l) (E:=E) (Q₁:=λ obj z1=>∃led:Bool,obj=.ref z.heap.objs.size/\z1={ z with heap:=z.heap.push (JE led) }) λ led=>⟨led,rfl,rfl⟩) λ res z1 hr=>?_
 cases res with
 | error e=>exact hr
 | ok fl =>
  cases fl with
  | ret obj =>
   obtain⟨led,rfl,rfl⟩:=hr
   have gS:(z.heap.push (JE led)).get? z.heap.objs.size=Za (JE led):=Zv _ rfl
   have tS:Zem { z with heap:=z.heap.push (JE led) } (.ref z.heap.objs.size) "set":=⟨_,gS,rfl⟩
   have in1:=PySem.F.called_set.init.lookup
   have in2:=PySem.F.called_set.init.bind (.ref z.heap.objs.size)
   repeat (any_goals (first|assumption|wp_step))
   refine Zch (codeAny_call_builtin (R:=wants (λ res z2=>res=.none/\∃h2 tk,z2={ z with heap:=h2,toks:=tk }/\Vk pr wd h2 z.heap.objs.size (QB zs) zs.length/\(∀b o,z.heap.get? b=Za o->h2.get? b=Za o)) E)
    PySem.F.called_set.init.plain ZeF (check_set_init_1 tS ?_)) λ res2 z2 hr2=>?_
   ·obtain⟨ol,hol,hcl,nl,hdl⟩:=hl
    obtain⟨ocls,odict,odata,oslots⟩:=ol
    simp only at hcl hdl
    subst hcl;subst hdl
    have gl:(z.heap.push (JE led)).get? l=Za { cls:=.type "list",dict:=odict,data:=.seq us.toArray nl,slots:=oslots }:=Ze _ hol
    have sb1:=PySem.F.sub_list_set
    have sb2:=ZdX
    have dne:(ZdO "list"==ZdO "dict")=Zm:=by decide
    have hl1:(z.heap.push (JE led)).IsList l us.toArray:=⟨_,gl,rfl,nl,rfl⟩
    unfold ZbO.«set.__init__» noKeywords ZdB
    generalize hPI:Zeg=PI
    wp_walk
    subst hPI
    refine ZaU hl1 ?_
    refine Zc (ZdY ?_)
    have lS:l<z.heap.objs.size:=Zz hol
    have h3:B.in1.in1.in1.handled=Zd:=by simp[hh]
    have neI:l≠(z.heap.push (JE led)).objs.size:=by rw[ZbG];exact Z3 (ZaW lS)
    have nC:z.heap.objs.size∉[(z.heap.push (JE led)).objs.size,l]:=by
     rw[ZbG]
     simp only[Z2,ZL,or_false,not_or]
     exact⟨Z3 (Zax _),ZaA lS⟩
    refine Jup ((ZcR h3 _ l neI us.toArray).toS) z.heap.objs.size nC (QB zs) vals (by rw[len];exact room) (us.toArray.size-0) 0 _ (by omega) (ZK _) ⟨⟨_,Zv _ rfl,rfl,rfl⟩,(hl1.push _)⟩ ?start ?stop
    case start =>
     have g0:((z.heap.push (JE led)).push { cls:=.type "list_iterator",data:=.fields #[.ref l,.int 0 0] }).get? z.heap.objs.size=Za (JE led):=Ze _ gS
     exact SetOf_congr ((setObjOf_fresh (knd:=Zd2 pr wd) led).setOf g0 (by unfold Zb8;omega)) (λ _=>rfl) rfl
    case stop =>
     intro z5 mv hS5
     obtain⟨h5,g5,d5,tk5,os5⟩:=z5
     have eg:g5=z.gens:=mv.gens
     have ed:d5=z.drawn:=mv.drawn
     have eo:os5=z.os:=mv.os
     subst eg;subst ed;subst eo
     show Zu _ _ _ _ _ _
     refine Zk ?_
     show Zu _ _ (ret ZV) _ _ _
     rw[len] at hS5
     refine Zk ⟨rfl,h5,tk5,rfl,hS5,λ b o e=>?_⟩
     have lb:=Zz e
     have b1:b≠z.heap.objs.size:=Z3 lb
     have b2:b≠(z.heap.push (JE led)).objs.size:=by rw[ZbG];exact Z3 (ZaW lb)
     exact mv.heap b o (by simp only[Z2,ZL,or_false,not_or];exact⟨b1,b2⟩) (Ze _ (Ze _ e))
   ·cases res2 with
    | error e=>exact hr2
    | ok fl2 =>
     cases fl2 with
     | ret rv =>
      obtain⟨rfl,h2,tk,rfl,hS2,keep⟩:=hr2
      repeat (any_goals (first|assumption|wp_step))
      exact fin _ _ hS2 keep
     | _=>exact hr2.elim
  | _=>exact hr.elim
end
section
variable {ce:CeT}{X:Cx}
def XW (aa:A1):E1:=λ σ h=>(aa σ h).bind λ xs h1=>match xs with
 | [.ref i]=>(match h1[i]? with
  | some (.lst ys)=>(match Vv ys with
   | some zs=>if zs.length+1<Zb8 then .ok (.int (cntD (QB zs) zs.length)) h1 else .stuck
   | none=>.stuck)
  | _=>.stuck)
 | _=>.stuck
theorem Jto {a:Expr}{aa:A1}{p pos p2 pos2:Pos}(hh:X.A.handled=Zd)(g1:Gl X "len")(m1:X.mg "len"=Zd)(g2:Gl X "set")(m2:X.mg "set"=Zd)(ha:PAi ce X [a] aa)(hs:ZE [a] X.env=[(Zm,Zbr a X.env)]) :
  PEi ce X (.Call (.Name "len" p) [.Call (.Name "set" p2) [a] [] pos2] [] pos) (XW aa):=λ pj s σ H ι σi h Q E N K=>by
 refine Zac (Qh N.inv g1 m1 rfl ?_)
 refine Zbw ?_ rfl rfl
 refine Zc8 ?_
 refine Zac (Qh N.inv g2 m2 rfl ?_)
 refine ZaJ ?_ hs rfl
 refine(ha pos2).run N K λ xs h1 us s1 H1 ι1 N1 n1 r1 K1=>?_
 obtain⟨vs,rv,qs⟩:=r1
 match xs,K1 with
 | [.ref i],K1 =>
  obtain⟨w,rfl,ad,rfl,hav⟩:=qs.one_of
  obtain⟨u,rfl,ru⟩:=QE rv
  cases ru
  dsimp only at K1
  cases hi:h1[i]? with
  | none=>rw[hi] at K1;exact Zf K1
  | some ob =>
   rw[hi] at K1
   cases ob with
   | lst ys =>
    dsimp only at K1
    cases hb:Vv ys with
    | none=>rw[hb] at K1;exact Zf K1
    | some zs =>
     rw[hb] at K1
     dsimp only at K1
     split at K1
     ·rename_i room
      obtain⟨ws,e1,r3⟩:=N1.at hi hav
      obtain⟨its,rv2,pl,_⟩:=N1.inv.list (SqL.of e1)
      obtain⟨l2,eu,ez⟩:=Jsg hb r3 rv2
      refine Jun hh pl.isList eu ez room λ h2 tk hS keep=>Zc9 ?_
      obtain⟨o,es,ep,t,ho,hex,hd,hel,hmem,hbb,hf,hn⟩:=hS
      have fit:(es.size:Int)<2^63:=by
       have:=Jln (QB zs) zs.length
       have sb:Zb8<=2^40:=by unfold Zb8;decide
       omega
      refine call_len_set ho hex hd hf fit ?_
      rw[hn]
      exact K1 _ _ _ _ ⟨(N1.inv.kept (t':=_) keep),N1.rel,N1.st⟩ .refl ⟨.int _,⟨_,rfl⟩,rfl⟩
     ·exact Zf K1
   | _=>exact Zf K1
 | [],K1=>exact Zf K1
 | [.non],K1=>exact Zf K1
 | [.bl _],K1=>exact Zf K1
 | [.int _],K1=>exact Zf K1
 | [.str _],K1=>exact Zf K1
 | [.tup _],K1=>exact Zf K1
 | [.rol _],K1=>exact Zf K1
 | x::_::_,K1=>cases x<;>exact Zf K1
end
section
variable {α β:Type}{h h1:IH}{σ:ISt}
theorem Ya (v:IV)(σ:ISt):Ja 0 (Za v::σ) h=.ok v h:=rfl
theorem Jtg (n:Nat)(x:Option IV)(σ:ISt):Ja (n+1) (x::σ) h=Ja n σ h:=rfl
end
def MulS (x:Str)(n:Int):Bool:=decide (x.length<=1000/\ -1000<=n/\n<=1000)
theorem MulS.ok (h:MulS x n=Zj):MulOk x n:=by
 simp only[MulS,decide_eq_true_eq] at h
 obtain⟨h1,h2,h3⟩:=h
 refine⟨?_,λ hn _=>?_,λ hn _=>?_⟩
 ·simp only[Zd5,decide_eq_false_iff_not]
  omega
 ·have e:(1000:Int)<=(2^63-1)/n:=by
   rw[Int.le_ediv_iff_mul_le (by omega)]
   have:(1000:Int)*n<=1000*1000:=Int.mul_le_mul_of_nonneg_left h3 (by decide)
   omega
  omega
 ·have:x.length*n.toNat<=1000*1000:=Nat.mul_le_mul h1 (by omega)
  have hb:1000000<sizeLine:=by decide
  unfold Builtin.Str.tooLong
  simp only[decide_eq_false_iff_not]
  omega
theorem Jx9:OpR X (Zbc .Mult) (λ x y H Q=>∃i j,x=.str i/\y=.int j/\MulS i j=Zj/\Q (.str (ZfD i j)) H):=by
 intro pj s σ H x y v u Q I rx ry h
 obtain⟨i,j,rfl,rfl,hz,q⟩:=h
 obtain⟨t,rfl⟩:=rx
 obtain⟨t',rfl⟩:=ry
 exact SB.mul (MulS.ok hz) λ t' tk=>⟨.str (ZfD i j),H,I.tok _,⟨_,rfl⟩,q⟩
def JN (x y:IV)(h:IH):Res IV:=match x with
 | .str i=>(match y with
  | .int j=>if MulS i j then .ok (.str (ZfD i j)) h else .stuck
  | _=>.stuck)
 | x=>Xz x y h
section
variable {ce:CeT}{X:Cx}
theorem J0r:OpI ce X (Zbc .Mult) JN:=by
 intro pj s σ H ι σi h x y v u Q E N rx ry K
 cases x with
 | str i =>
  obtain⟨xv,rx,qx⟩:=rx
  obtain⟨yv,ry,qy⟩:=ry
  cases y with
  | int j =>
   have e1:xv=.str i:=qx
   have e2:yv=.int j:=qy
   subst e1 e2
   dsimp only[JN] at K
   split at K
   ·rename_i hz
    exact JV (Jx9 (X:=X.wish E)) N.inv rx ry ⟨i,j,rfl,rfl,hz,fin0 N K rfl⟩
   ·exact Zf K
  | _=>exact Zf K
 | _=>exact J3a pj s σ H ι σi h _ y v u Q E N rx ry K
end
noncomputable def valI (kvs:List (Key×IV))(k:Key):Option IV:=(kvs.find? λ kv=>decide (kv.1=k)).map (·.2)
theorem Vw {p:Key×IV}(e:p.1=k):valI (p::r) k=Za p.2:=by simp[valI,Zcp,e]
theorem Ve {p:Key×IV}(e:¬p.1=k):valI (p::r) k=valI r k:=by simp[valI,Zcp,e]
theorem RPs.get {K:W.Frag}{ι:List Zq}{H:Hp}(k:Key):∀{xs:List (Key×IV)}{vs:List (Key×V)},RPs K ι H xs vs->(valI xs k=Zd/\valV vs k=Zd)∨∃v w,valI xs k=Za v/\valV vs k=Za w/\RV K ι H v w
 | [],_,h=>by
  have e:_=[]:=h
  subst e
  exact .inl ⟨rfl,rfl⟩
 | x::xs,_,h=>by
  obtain⟨v,r,rfl,q,t⟩:=h
  by_cases e:x.1=k
  ·exact .inr ⟨x.2,v,Vw e,Jjg e,q⟩
  ·rw[Ve e,Jjf e]
   exact RPs.get k t
theorem RPs.snoc {K:W.Frag}{ι:List Zq}{H:Hp}{k:Key}{v:IV}{w:V}(q:RV K ι H v w):∀{xs:List (Key×IV)}{vs:List (Key×V)},RPs K ι H xs vs->RPs K ι H (xs++[(k,v)]) (vs++[(k,w)])
 | [],_,h=>by
  have e:_=[]:=h
  subst e
  exact⟨w,[],rfl,q,rfl⟩
 | x::xs,_,h=>by
  obtain⟨v',r,rfl,q',t⟩:=h
  exact⟨v',r++[(k,w)],rfl,q',RPs.snoc q t⟩
theorem Jiw {vs:List (Key×V)}{k:Key}{w:V}(e:valV vs k=Zd):putK vs k w=vs++[(k,w)]:=by
 unfold putK
 rw[if_neg]
 rw[Jje,e]
 exact Zs
section
variable {ce:CeT}{X:Cx}
def Xp:E1:=λ _ h=>.ok (.ref h.length) (h++[.dct []])
theorem Jzy:PEi ce X (.Dict [] [] pos) Xp:=λ pj s σ H ι σi h Q E N K=>by
 have hn:=N.inv.hok.fresh (Zr s.heap.objs.size)
 have I1:=N.inv.laid (a:=s.heap.objs.size) (o:=.dK []) (h':=s.heap.push { cls:=.type "dict",data:=.dict #[] }) (t':=s.toks) (λ _ _ q=>Ze _ q) (Zr _) (Jtc s.heap N.inv.big)
 obtain⟨R1,n1⟩:=N.rel.alloc (o:=.dK []) (io:=.dct []) hn ⟨[],J0,rfl⟩
 have N1:Now ce X pj (ι++[s.heap.objs.size]) σi (h++[.dct []]) σ (upd H s.heap.objs.size (.dK [])) _:=⟨I1,R1,N.st.mono n1⟩
 have h0:(ι++[s.heap.objs.size])[h.length]?=Za s.heap.objs.size:=by rw[<- N.rel.len,ZA (Zr _)];simp
 exact wpAny_Dict_empty (K _ _ _ (ι++[s.heap.objs.size]) N1 n1 ⟨.ref _,rfl,_,rfl,h0⟩)
def Jmb:IV->List IV->IH->Res IV
 | .ref i,[y,v],h=>match h[i]? with
  | some (.dct kvs)=>(match keyI y with
   | some k=>(match valI kvs k with
    | some w=>.ok w h
    | none=>if kvs.length<sizeLine then .ok v (h.set i (.dct (kvs++[(k,v)]))) else .stuck)
   | none=>.stuck)
  | _=>.stuck
 | _,_,_=>.stuck
theorem Jt8:MtI ce X "dict" "dict.setdefault" Jmb:=by
 intro pj s σ H ι σi h x xs v us Q E N rx rs K
 obtain⟨xv,rx,qx⟩:=rx
 obtain⟨vs,rv,qs⟩:=rs
 cases x with
 | ref i =>
  match xs,K with
  | [y,y2],K =>
   obtain⟨a,rfl,ha⟩:=qx
   obtain⟨w,w2,rfl,qw,qw2⟩:=qs.two_of
   dsimp only[Jmb] at K
   cases hi:h[i]? with
   | none=>rw[hi] at K;exact Zf K
   | some ob =>
    rw[hi] at K
    cases ob with
    | dct kvs =>
     dsimp only at K
     cases ek:keyI y with
     | none=>rw[ek] at K;exact Zf K
     | some k =>
      rw[ek] at K
      dsimp only at K
      obtain⟨ws,e1,r1⟩:=N.at hi ha
      cases Jfx ek qw
      cases rv with
      | @cons _ _ _ _ ru t =>
      cases t with
      | @cons _ u2 _ _ ru2 t =>
      cases t
      cases (show v=.ref a from rx)
      obtain⟨z,hd,ps,rel,dd⟩:=Jtd N.inv.hok e1
      have hz:ps.length<=sizeLine:=by rw[<- rel.length];exact z
      refine call_meetsIn ZdC dd.typeIs PySem.F.entry_dict_setdefault (PySem.F.args_dict_setdefault_3 _ _ _) (kt_meets_setdefault (QZ X.prog X.w) a (Jt1 ru) hd u2) ⟨ps,dd,hz,λ v' hv=>?_,λ hn h' dd' hs=>?_⟩
      ·rcases r1.get k with⟨p,q⟩|⟨v1,w1,p,q,r⟩
       ·have rr:=rel.val k
        rw[q] at rr
        rw[RelO.none_of rr] at hv
        cases hv
       ·rw[p] at K
        have rr:=rel.val k
        rw[q,hv] at rr
        exact fin0 (w:=w1) N K r _ _ (N.inv.tok _) rr
      ·rcases r1.get k with⟨p,q⟩|⟨v1,w1,p,q,r⟩
       ·rw[p] at K
        dsimp only at K
        split at K
        ·rename_i hl
         have he:∃q,h'.get? a=Za q:=let ⟨q,_,_,hq,_⟩:=dd';⟨q,hq⟩
         have hlen:(putK ws k w2).length<=sizeLine:=by rw[Jiw q,Z1,r1.length];exact hl
         have I4:=Jp4 (t':=s.toks+1) N.inv (by rw[e1];exact Zaz) hs he (Jvx hlen hd (rel.put k ru2) dd')
         have n:Nxt ι H ι (upd H a (.dK (putK ws k w2))):=⟨⟨[],by simp⟩,Ext.upd_mut e1 (by rw[e1];exact Zaz)⟩
         obtain⟨R4,_⟩:=N.rel.write (o:=.dK (putK ws k w2)) (io:=.dct (kvs++[(k,y2)])) ha e1 (by rw[e1];exact Zaz) ⟨_,J0,(congrArg (λ P=>RPs X.K ι (upd H a (.dK (putK ws k w2))) (kvs++[(k,y2)]) P) (Jiw q)).mpr (RPs.mono n _ _ (r1.snoc qw2))⟩
         exact K _ _ _ ι ⟨I4,R4,N.st.mono n⟩ n ⟨w2,ru2,RV.mono n _ _ qw2⟩
        ·exact Zf K
       ·have rr:=rel.val k
        rw[q,hn] at rr
        exact Zf rr
    | _=>exact Zf K
  | [],K=>exact Zf K
  | [_],K=>exact Zf K
  | _::_::_::_,K=>exact Zf K
 | _=>cases xs<;>exact Zf K
end
noncomputable def putD (kvs:List (Key×IV))(k:Key)(v:IV):List (Key×IV) :=
 if (kvs.any λ kv=>decide (kv.1=k))=Zj then kvs.map (λ kv=>if kv.1=k then(kv.1,v) else kv) else kvs++[(k,v)]
theorem RPs.any {K:W.Frag}{ι:List Zq}{H:Hp}(k:Key):∀{xs:List (Key×IV)}{vs:List (Key×V)},RPs K ι H xs vs->(xs.any λ kv=>decide (kv.1=k))=vs.any λ kv=>decide (kv.1=k)
 | [],_,h=>by
  have e:_=[]:=h
  subst e
  rfl
 | x::xs,_,h=>by
  obtain⟨v,r,rfl,q,t⟩:=h
  rw[ZcG,ZcG,RPs.any k t]
theorem RPs.upd {K:W.Frag}{ι:List Zq}{H:Hp}{k:Key}{v:IV}{w:V}(q:RV K ι H v w):∀{xs:List (Key×IV)}{vs:List (Key×V)},RPs K ι H xs vs->RPs K ι H (xs.map λ kv=>if kv.1=k then(kv.1,v) else kv) (vs.map λ kv=>if kv.1=k then(kv.1,w) else kv)
 | [],_,h=>by
  have e:_=[]:=h
  subst e
  exact rfl
 | x::xs,_,h=>by
  obtain⟨v',r,rfl,q',t⟩:=h
  rw[Z7,Z7]
  by_cases e:x.1=k
  ·rw[if_pos e,if_pos e]
   exact⟨w,_,rfl,q,RPs.upd q t⟩
  ·rw[if_neg e,if_neg e]
   exact⟨v',_,rfl,q',RPs.upd q t⟩
theorem RPs.putKK {K:W.Frag}{ι:List Zq}{H:Hp}{k:Key}{v:IV}{w:V}{xs:List (Key×IV)}{vs:List (Key×V)}(q:RV K ι H v w)(r:RPs K ι H xs vs):RPs K ι H (putD xs k v) (putK vs k w):=by
 unfold putD putK
 rw[r.any k]
 split
 ·exact r.upd q
 ·exact r.snoc q
section
variable {ce:CeT}{X:Cx}
def VX (x y:IV)(h:IH):Res IV:=match x with
 | .ref i=>(match h[i]? with
  | some (.dct kvs)=>(match keyI y with
   | some k=>(match valI kvs k with
    | some v=>.ok v h
    | none=>.stuck)
   | none=>.stuck)
  | _=>.stuck)
 | _=>.stuck
theorem J37:IxI ce X VX:=by
 intro value slice pj s σ H ι σi h x y v u Q E N rx ry K hs
 obtain⟨xv,rx,qx⟩:=rx
 obtain⟨yv,ry,qy⟩:=ry
 cases x with
 | ref i =>
  obtain⟨a,e1,ha⟩:=qx
  subst e1
  dsimp only[VX] at K
  cases hi:h[i]? with
  | none=>rw[hi] at K;exact Zf K
  | some ob =>
   rw[hi] at K
   cases ob with
   | dct kvs =>
    dsimp only at K
    cases ek:keyI y with
    | none=>rw[ek] at K;exact Zf K
    | some k =>
     rw[ek] at K
     dsimp only at K
     obtain⟨ws,e1,r1⟩:=N.at hi ha
     cases Jfx ek qy
     cases (show v=.ref a from rx)
     obtain⟨z,hd,ps,rel,dd⟩:=Jtd N.inv.hok e1
     rcases r1.get k with⟨p,q⟩|⟨v1,w1,p,q,r⟩
     ·rw[p] at K;exact Zf K
     ·rw[p] at K
      have rr:=rel.val k
      rw[q] at rr
      obtain⟨w',hw,rw'⟩:=RelO.some_of rr
      exact Zdg (x:=w') dd.typeIs PySem.F.slot_dict_getitem.lookup (wpAny_getItem_of (Q:=λ r s'=>r=w'/\Q r s') (Jt1 ry) dd.mapOf hw ⟨rfl,fin0 N K r _ _ (N.inv.tok _) rw'⟩) hs
   | _=>exact Zf K
 | _=>exact Zf K
noncomputable def cInD (x c:IV)(h:IH):Res IV:=match c with
 | .ref i=>(match h[i]? with
  | some (.dct kvs)=>(match keyI x with
   | some k=>.ok (.bl (valI kvs k).isSome) h
   | none=>.stuck)
  | _=>.stuck)
 | _=>.stuck
theorem J28:OpI ce X (Za5 .In) cInD:=by
 intro pj s σ H ι σi h x y v u Q E N rx ry K
 obtain⟨xv,rx,qx⟩:=rx
 obtain⟨yv,ry,qy⟩:=ry
 cases y with
 | ref i =>
  obtain⟨a,e1,ha⟩:=qy
  subst e1
  dsimp only[cInD] at K
  cases hi:h[i]? with
  | none=>rw[hi] at K;exact Zf K
  | some ob =>
   rw[hi] at K
   cases ob with
   | dct kvs =>
    dsimp only at K
    cases ek:keyI x with
    | none=>rw[ek] at K;exact Zf K
    | some k =>
     rw[ek] at K
     dsimp only at K
     obtain⟨ws,e1,r1⟩:=N.at hi ha
     cases Jfx ek qx
     cases (show u=.ref a from ry)
     obtain⟨z,hd,ps,rel,dd⟩:=Jtd N.inv.hok e1
     refine wpAny_in_of (Jt1 rx) hd dd.mapOf ?_
     rw[<- (rel.val k).isSome_eq]
     have es:(valV ws k).isSome=(valI kvs k).isSome:=by
      rcases r1.get k with⟨p,q⟩|⟨v1,w1,p,q,r⟩<;>rw[p,q]<;>rfl
     rw[es]
     exact fin0 N K rfl _ _ (N.inv.tok _) rfl
   | _=>exact Zf K
 | _=>exact Zf K
def Yr:IV->IV->IV->ISt->IH->SRes
 | .ref i,iv,v,σ,h=>match h[i]? with
  | some (.dct kvs)=>(match keyI iv with
   | some k=>if kvs.length<sizeLine then .next σ (h.set i (.dct (putD kvs k v))) else .stuck
   | none=>.stuck)
  | _=>.stuck
 | _,_,_,_,_=>.stuck
def gSbD (o i:E1):G1:=λ v σ h=>rS σ (o σ h) λ ov h1=>rS σ (i σ h1) λ iv h2=>Yr ov iv v σ h2
theorem Jzq {oe ie:Expr}{mo mi:E1}{pos:Pos}(ho:PEi ce X oe mo)(hi:PEi ce X ie mi)
  (ha:∀v,ZeA (.Subscript oe ie pos) X.env v=(do
   let ov<-Zci [v] (Zbr oe X.env)
   let iv<-Zci [v,ov] (Zbr ie X.env)
   Zf2 pos
   Zci [v,ov,iv] (setItem ov iv v)
   release [v,ov,iv] [])):PGi ce X (.Subscript oe ie pos) (gSbD mo mi):=by
 intro pj s σ H ι σi h v u Q E N r K
 rw[ha]
 refine Zc (ZT (krun ho N K λ ov h1 ou s1 H1 ι1 N1 n1 r1 K1=>?_))
 refine Zc (ZT (krun hi N1 K1 λ iv h2 iu s2 H2 ι2 N2 n2 r2 K2=>?_))
 have r':RU X.K ι2 H2 v u:=(r.mono n1).mono n2
 obtain⟨ox,ro,qo⟩:=r1.mono n2
 obtain⟨ix,ri,qi⟩:=r2
 obtain⟨vx,rvx,qv⟩:=r'
 refine Zc (ZbD (Zc (ZT ?_)))
 cases ov with
 | ref i =>
  obtain⟨a,rfl,haa⟩:=qo
  dsimp only[Yr] at K2
  cases hh:h2[i]? with
  | none=>rw[hh] at K2;exact Zf K2
  | some ob =>
   rw[hh] at K2
   cases ob with
   | dct kvs =>
    dsimp only at K2
    cases ek:keyI iv with
    | none=>rw[ek] at K2;exact Zf K2
    | some k =>
     rw[ek] at K2
     dsimp only at K2
     split at K2
     ·rename_i hl
      obtain⟨ws,e1,r1'⟩:=N2.at hh haa
      cases Jfx ek qi
      cases (show ou=.ref a from ro)
      obtain⟨z,hd,ps,rel,dd⟩:=Jtd N2.inv.hok e1
      have hz:ps.length<=sizeLine:=by rw[<- rel.length];exact z
      have hlen:(putK ws k vx).length<=sizeLine:=by
       have h1:=Jlz ws k vx
       have h2:=r1'.length
       omega
      refine wpAny_setItem_pairs (hsz:=hz) (Jt1 ri) dd λ h' dd' hs=>?_
      have he:∃q,h'.get? a=Za q:=let ⟨q,_,_,hq,_⟩:=dd';⟨q,hq⟩
      have I4:=Jp4 (t':=s2.toks+1) N2.inv (by rw[e1];exact Zaz) hs he (Jvx hlen hd (rel.put k rvx) dd')
      have n:Nxt ι2 H2 ι2 (upd H2 a (.dK (putK ws k vx))):=⟨⟨[],by simp⟩,Ext.upd_mut e1 (by rw[e1];exact Zaz)⟩
      obtain⟨R3,_⟩:=N2.rel.write (o:=.dK (putK ws k vx)) (io:=.dct (putD kvs k v)) haa e1 (by rw[e1];exact Zaz) ⟨_,J0,RPs.putKK (RV.mono n _ _ qv) (RPs.mono n _ _ r1')⟩
      exact wpAny_release (K2 _ σ _ ι2 ⟨I4,R3,N2.st.mono n⟩ n)
     ·exact Zf K2
   | _=>exact Zf K2
 | _=>exact Zf K2
end
def leZ (a b:Int):Bool:=decide (a<=b)
def Vc (ns:List Int):List Int:=ns.mergeSort leZ
theorem Ju1 (ns:List Int):(Vc ns).Pairwise (· <= ·):=by
 have:=List.pairwise_mergeSort (le:=leZ) (λ a b c h1 h2=>by simp only[leZ,decide_eq_true_eq] at *;omega) (λ a b=>by simp only[leZ,ZaE,decide_eq_true_eq];omega) ns
 exact this.imp λ h=>by simpa [leZ] using h
theorem Ju0 {ns ns':List Int}(p:ns'.Perm ns)(s:ns'.Pairwise (· <= ·)):ns'=Vc ns :=
 List.Perm.eq_of_pairwise (le:=(· <= ·)) (λ a b _ _ h1 h2=>Int.le_antisymm h1 h2) s (Ju1 ns) (p.trans (List.mergeSort_perm ns leZ).symm)
theorem XG:∀{us:List Zh}{ns:List Int},Zbh us ns->Vals (ns.map V.int) us
 | _,_,.nil=>.nil
 | _,_,.cons _ _ r=>.cons ⟨_,rfl⟩ (XG r)
theorem Jiy {K:W.Frag}{ι:List Zq}{H:Hp}:∀ns:List Int,RVs K ι H (ns.map IV.int) (ns.map V.int)
 | []=>rfl
 | _::ns=>⟨_,_,rfl,rfl,Jiy ns⟩
def srtI (xs:List IV):Option (List IV):=match JA xs with
 | some ns=>Za ((Vc ns).map .int)
 | none=>Zd
section
variable {ce:CeT}{X:Cx}
def J3x:IV->IH->Res IV
 | .ref i,h=>match h[i]? with
  | some (.lst xs)=>if xs.length<64 then(match srtI xs with
   | some ys=>.ok (.ref h.length) (h++[.lst ys])
   | none=>.stuck) else .stuck
  | _=>.stuck
 | _,_=>.stuck
end
def JL (f:Nat->Int):Nat->Int
 | 0=>0
 | 1=>f 0
 | j+2=>if f (j+1)<JL f (j+1) then f (j+1) else JL f (j+1)
theorem Jev (f:Nat->Int)(hj:0<j):JL f (j+1)=if f j<JL f j then f j else JL f j:=by
 cases j with
 | zero=>omega
 | succ j=>rfl
section
variable {pr:ZC}{wd:ZU}{B:ZJ}{R:Zeh->Zl->Prop}{it:Zq}{fps wrs:List Zq}{n:Nat}{P:Nat->Zh->Prop}{St:Nat->Zar->Prop}
theorem Jiu:(toString "min"++toString ".loop":String)="min.loop":=by decide
theorem Jx1 {kw:List (Str×Zh)}(W:Walks pr wd B.in1 it fps wrs n P St)(f:Nat->Int)(hf:∀i v,P i v->∃t,v=.int (f i) t)(C:Zq)(hC:C∉fps) :
  ∀(r j:Nat)(z:Zl)(v:Zh)(u:Tok)(c:Nat),n-j=r->0<j->j<=n->St j z.heap->v=.int (JL f j) u->z.heap.get? C=Za (Jwe v c) ->
   (∀u h2 tk,(∀a o,a∉wrs->a≠C->z.heap.get? a=Za o->h2.get? a=Za o)->R (.ok (.ret (.int (JL f n) u))) { z with heap:=h2,toks:=tk }) ->
   Zc2 (Z6 pr wd) B (.builtin "min.loop" ⟨[.ref it,.none,.ref C],kw⟩) R z:=by
 have hw:C∉wrs:=λ q=>hC (W.sub _ q)
 intro r
 induction r with
 | zero =>
  intro j z v u c hr h0 hj st ev gC fin
  obtain rfl:j=n:=by omega
  subst ev
  refine Zaa Zbk ?_
  rw[ZG ZQ _]
  show Zu _ B.in1 (Zca (.ref C)>>=_) _ _ z
  refine Zc (Zba gC rfl ?_)
  show Zu _ B.in1 (tryCatch (Zbv (.ref it)) _>>=_) _ _ z
  refine Zc (Za1 (W.done z _ _ st λ h2 tk keep=>?_))
  have gC2:=keep C _ hw gC
  show Zu _ B.in1 (Zey C (λ _=>#[])>>=_) _ _ _
  refine Zc ?_
  refine Zbn gC2 rfl (Zc (Zbo (Zk ?_)))
  exact fin u _ tk λ a o ha hb e=>(Zw _ _ (ZO hb)).trans (keep a o ha e)
 | succ r ih =>
  intro j z v u c hr h0 hj st ev gC fin
  have lt:j<n:=by omega
  subst ev
  refine Zaa Zbk ?_
  rw[ZG ZQ _]
  show Zu _ B.in1 (Zca (.ref C)>>=_) _ _ z
  refine Zc (Zba gC rfl ?_)
  show Zu _ B.in1 (tryCatch (Zbv (.ref it)) _>>=_) _ _ z
  refine Zc (Za1 (W.item j z _ _ lt st λ y h2 tk hP st2 keep=>?_))
  obtain⟨t,rfl⟩:=hf j y hP
  have gC2:=keep C _ hw gC
  have cmp:=CmpOf.ints_lt (prog:=pr) (w:=wd) (A:=B.in1) (P:=λ i v=>∃t,v=.int (if i=0 then f j else JL f j) t) (λ i=>if i=0 then f j else JL f j) (λ _ _ q=>q)
  show Zu _ B.in1 (tryCatch (Zci [ZbI (f j) t,ZbI (f j) t] (Zda .Lt (.int (f j) t) (.int (JL f j) u)>>=_)) _>>=_) _ _ _
  refine Zc (Za1 (ZT (Zc (cmp 0 1 _ _ _ _ _ ⟨t,by simp⟩ ⟨u,by simp⟩ ?_))))
  refine Zc (ZT (Zbg ?_))
  refine Zc (Zbo (Zk ?_))
  have step:=Jev f h0
  by_cases hb:f j<JL f j
  ·rw[if_pos hb] at step
   simp only[if_true,show ¬(1:Nat)=0 by decide,if_false,decide_eq_true hb]
   refine Zc ?_
   refine Zbn gC2 rfl (Zc (Zbo ?_))
   rw[Jiu]
   refine Zk ⟨Zav ZQ _,ih (j+1) _ (.int (f j) t) t _ (by omega) (by omega) lt (W.frame _ _ _ st2 λ a ha o e=>?_) (by rw[step]) (Zae _ gC2 rfl) λ u2 h3 tk3 k3=>?_⟩
   ·exact(Zw _ _ (λ q:C=a=>hC (by rw[q];exact ha))).trans e
   ·exact fin u2 h3 tk3 λ a o ha hc e=>k3 a o ha hc ((Zw _ _ (ZO hc)).trans (keep a o ha e))
  ·rw[if_neg hb] at step
   simp only[if_true,show ¬(1:Nat)=0 by decide,if_false,decide_eq_false hb,ZX]
   refine Zc (Zbo ?_)
   rw[Jiu]
   refine Zk ⟨Zav ZQ _,ih (j+1) _ (.int (JL f j) u) u c (by omega) (by omega) lt st2 (by rw[step]) gC2 λ u2 h3 tk3 k3=>?_⟩
   exact fin u2 h3 tk3 λ a o ha hc e=>k3 a o ha hc (keep a o ha e)
end
theorem Jpq (a:Zh):ZdW "min" ⟨[a],[]⟩:=by unfold ZdW;kernel_rfl
section
variable {pr:ZC}{wd:ZU}{B:ZJ}{E:QvT}{z:Zl}{l:Zq}{us:List Zh}{ns:List Int}{Q:QvT}
theorem Jx0 (hh:B.handled=Zd)(hl:z.heap.IsList l us.toArray)(hi:Zbh us ns)(hne:ns≠[]) 
  (hQ:∀v h2 tk,(∃u,v=.int (JL (λ i=>ns.getD i 0) ns.length) u)->(∀b o,z.heap.get? b=Za o->h2.get? b=Za o)->Q v { z with heap:=h2,toks:=tk }) :
  Zu (Z6 pr wd) B (call (.builtin "min") [.ref l]) Q E z:=by
 obtain⟨ol,hol,_⟩:=id hl
 have lt:l<z.heap.objs.size:=Zz hol
 have ll:=Jbw hi
 refine kmk_tree PySem.F.kind_min PySem.F.plain_min PySem.F.entry_min (Jpq _) ?_
 show Zu _ B.in1 (ZaK "min" ["key","default"] 0 ⟨[],[]⟩>>=_) _ _ z
 refine Zc (Zed (show ZaK "min" ["key","default"] 0 ⟨[],[]⟩=pure [Zd,Zd] from rfl) ?_)
 refine Zc (Zk ?_)
 refine Zc (ZaU hl ?_)
 refine Zc (ZbT ?_ (ZK _))
 rw[Jiu]
 have ne:l≠z.heap.objs.size:=Z3 lt
 have W:=ZcR (prog:=pr) (w:=wd) (A:=B.in1) hh z.heap.objs.size l ne us.toArray
 have sz:us.toArray.size=us.length:=Zx ..
 have hS:(z.heap.push { cls:=.type "list_iterator",data:=.fields #[.ref l,.int 0 0] }).objs.size=z.heap.objs.size+1:=ZcS ..
 have hC:(z.heap.push { cls:=.type "list_iterator",data:=.fields #[.ref l,.int 0 0] }).objs.size∉[z.heap.objs.size,l]:=by
  rw[hS]
  simp only[Z2,ZL,or_false,not_or]
  exact⟨ZaA (Zax _),ZaA (ZaW lt)⟩
 have hw:(z.heap.push { cls:=.type "list_iterator",data:=.fields #[.ref l,.int 0 0] }).objs.size∉[z.heap.objs.size]:=by
  rw[hS]
  simp only[Z2,ZL,or_false]
  exact ZaA (Zax _)
 have old:∀b o,z.heap.get? b=Za o->((z.heap.push { cls:=.type "list_iterator",data:=.fields #[.ref l,.int 0 0] }).push (ZM "list" #[] 0)).get? b=Za o:=λ b o e=>Ze _ (Ze _ e)
 have gI:((z.heap.push { cls:=.type "list_iterator",data:=.fields #[.ref l,.int 0 0] }).push (ZM "list" #[] 0)).get? z.heap.objs.size=Za { cls:=.type "list_iterator",data:=.fields #[.ref l,.int 0 0] }:=Ze _ (Zv _ rfl)
 have gC:((z.heap.push { cls:=.type "list_iterator",data:=.fields #[.ref l,.int 0 0] }).push (ZM "list" #[] 0)).get? (z.heap.push { cls:=.type "list_iterator",data:=.fields #[.ref l,.int 0 0] }).objs.size=Za (ZM "list" #[] 0):=Zv _ rfl
 have notin:∀b o,z.heap.get? b=Za o->b∉[z.heap.objs.size]:=λ b o e q=>Z3 (Zz e) (Z5.mp q)
 have notC:∀b o,z.heap.get? b=Za o->b≠(z.heap.push { cls:=.type "list_iterator",data:=.fields #[.ref l,.int 0 0] }).objs.size:=λ b o e=>by rw[hS];exact Z3 (ZaW (Zz e))
 refine Zk ⟨Zav ZQ _,Zaa Zbk ?_⟩
 rw[ZG ZQ _]
 show Zu _ B.in1 (Zca (.ref _)>>=_) _ _ _
 refine Zc (Zba gC rfl ?_)
 show Zu _ B.in1 (tryCatch (Zbv (.ref z.heap.objs.size)) _>>=_) _ _ _
 have h0:¬us.length=0:=λ q=>hne (Zal (by omega))
 ·refine Zc (Za1 (W.item 0 _ _ _ (by rw[sz];omega) ⟨⟨_,gI,rfl,rfl⟩,(hl.push _).push _⟩ λ y h2 tk hP st2 keep=>?_))
  have gC2:=keep _ _ hw gC
  show Zu _ B.in1 (Zey (z.heap.push { cls:=.type "list_iterator",data:=.fields #[.ref l,.int 0 0] }).objs.size (λ _=>#[y,y])>>=_) _ _ _
  refine Zc ?_
  refine Zbn gC2 rfl ?_
  rw[Jiu]
  have hf:∀(i:Nat)(v:Zh),us.toArray[i]?=Za v->∃t,v=.int ((λ i=>ns.getD i 0) i) t:=λ i v q=>Zff hi i v (by simpa using q)
  obtain⟨t,rfl⟩:=hf 0 y hP
  refine Zk ⟨Zav ZQ _,Jx1 W (λ i=>ns.getD i 0) hf _ hC _ 1 _ _ t _ rfl (by decide) (by rw[sz];omega) (W.frame _ _ _ st2 λ a ha o e=>?_) rfl (Zae _ gC2 rfl) λ u h3 tk3 k3=>?_⟩
  ·exact(Zw _ _ (λ q=>hC (by rw[q];exact ha))).trans e
  ·rw[sz,ll]
   refine hQ _ h3 tk3 ⟨u,rfl⟩ λ b o e=>k3 b o (notin b o e) (notC b o e) ((Zw _ _ (ZO (notC b o e))).trans (keep b o (notin b o e) (old b o e)))
end
section
variable {ce:CeT}{X:Cx}
def VV:IV->IH->Res IV
 | .ref i,h=>match h[i]? with
  | some (.lst xs)=>(match JA xs with
   | some ns=>if ns=[] then .stuck else .ok (.int (JL (λ i=>ns.getD i 0) ns.length)) h
   | none=>.stuck)
  | _=>.stuck
 | _,_=>.stuck
theorem Jzj (hh:X.A.handled=Zd):Qt ce X (.builtin "min") (on1 VV):=V2 λ pj s σ H ι σi h x xv u Q E N ru qx K=>by
 cases x with
 | ref i =>
  obtain⟨a,e1,ha⟩:=qx
  subst e1
  cases ru
  dsimp only[VV] at K
  cases hi:h[i]? with
  | none=>rw[hi] at K;exact Zf K
  | some ob =>
   rw[hi] at K
   cases ob with
   | lst xs =>
    dsimp only at K
    cases hb:JA xs with
    | none=>rw[hb] at K;exact Zf K
    | some ns =>
     rw[hb] at K
     dsimp only at K
     split at K
     ·exact Zf K
     ·rename_i hne
      obtain⟨vs,e1,r1⟩:=N.at hi ha
      obtain⟨its,rv,pl,hz⟩:=N.inv.list (SqL.of e1)
      refine Jx0 hh pl.isList (Vo hb r1 rv) hne λ v h2 tk ⟨t,ev⟩ kk=>?_
      subst ev
      exact fin0 N K rfl _ _ (N.inv.kept (t':=tk) kk) ⟨t,rfl⟩
   | _=>exact Zf K
 | _=>exact Zf K
end
theorem RVs.erase {K:W.Frag}{ι:List Zq}{H:Hp}:∀{xs:List IV}{vs:List V}(k:Nat),RVs K ι H xs vs->RVs K ι H (xs.eraseIdx k) (vs.eraseIdx k)
 | [],vs,k,h=>by
  cases (show vs=[] from h)
  exact rfl
 | _::_,_,0,h=>by
  obtain⟨v,r,rfl,q,t⟩:=h
  exact t
 | _::_,_,k+1,h=>by
  obtain⟨v,r,rfl,q,t⟩:=h
  exact⟨v,r.eraseIdx k,rfl,q,RVs.erase k t⟩
section
variable {ce:CeT}{X:Cx}
def isK (k:Int):Zh->Bool
 | .int a _=>a==k
 | _=>Zm
theorem Jqx:∀(us:List Zh)(ns:List Int),us.length=ns.length->(∀i v,us[i]?=Za v->∃t:Tok,v=ZbI (ns.getD i 0) t)->Zbh us ns
 | [],[],_,_=>.nil
 | u::us,n::ns,hl,h=>by
  obtain⟨t,e⟩:=h 0 u rfl
  cases (show u=.int n t from e)
  exact .cons n t (Jqx us ns (by simpa using hl) λ i v q=>h (i+1) v q)
 | [],_::_,hl,_=>by cases hl
 | _::_,[],hl,_=>by cases hl
theorem X7 (j:Int):rngI 0 j=((Z9 j.toNat).map λ k=>((k:Nat):Int)).map IV.int:=by
 simp[rngI]
end
section
variable {prog:ZC}{w:ZU}{A:ZJ}{E:QvT}{s:Zl}
end
open AutoSeq1 (wpAny_loadPart') in
section
variable {prog:ZC}{w:ZU}{A:ZJ}{E:QvT}{s:Zl}
end
section
variable {ce:CeT}{X:Cx}
end
def Qo (a:Zcr):Option Str:=match a with
 | { posonlyargs:=[],args:=[p],vararg:=Zd,kwonlyargs:=[],kw_defaults:=[],kwarg:=Zd,defaults:=[] }=>Za p.arg
 | _=>Zd
abbrev lamQ (q:Str):Str:=q++".<locals>."++"<lambda>"
abbrev lamO (q:Str)(params:Zcr)(body:Expr)(scope:Zb1)(cl:List (Str×Zq))(pm ctv:Zh)(c:Zq):Obj:=W.kla_obj "<lambda>" (lamQ q) params body scope cl pm c ctv
def Qs (mg:Str->Option Zh)(base:Zar):Prop :=
 ∃bm ob,mg "__builtins__"=Za (.ref bm)/\bm≠ZcQ/\bm≠Z4/\base.get? bm=Za ob/\ob.cls=.type "module"/\ob.dict=Za ZcQ/\ob.data=.plain
theorem Qz.rec (l:Qz H q cv)(hok:HOk P w H h):h.CodeRec cv (lamQ q):=by
 obtain⟨c,oc,vs,t,e1,e2,e3,e4⟩:=l
 exact⟨c,oc,vs,t,e1,(hok c _ e2).1,e3,e4⟩
theorem Qz.mono (fz:∀b o u,H b=Za (.frz o u)->H' b=Za (.frz o u))(l:Qz H q cv):Qz H' q cv:=by
 obtain⟨c,oc,vs,t,e1,e2,r⟩:=l
 exact⟨c,oc,vs,t,e1,fz _ _ _ e2,r⟩
theorem Jho:∀(l:List Zh),TriplesOk l->Zeu pos (l++[Za4 a,Za4 b,c])=Za cv->Zeu pos l=Za cv∨cv=c
 | [],_,e=>by
  simp only[ZaD,Za4,Zeu] at e
  split at e
  ·cases e;exact .inr rfl
  ·cases e
 | .int x t::.int y u::z::rest,h,e=>by
  simp only[Za6,Zeu] at e ⊢
  split at e
  ·rename_i hh
   rw[if_pos hh]
   exact .inl e
  ·rename_i hh
   rw[if_neg hh]
   exact Jho rest h e
 | [.int _ _],h,_=>(show False from h).elim
 | [.int _ _,.int _ _],h,_=>(show False from h).elim
section
variable {ce:CeT}{X:Cx}
theorem Now.pinO {pj:PnT}{ι:List Zq}{σi:ISt}{h:IH}{σ:L2.St}{H:Hp}{s:Zl}{f:Zq}{fo:Obj}(N:Now ce X pj ι σi h σ H s)(e:s.heap.get? f=Za fo)(F:FpOk X pj H f)(d:∀v,fo.data≠.cell v):Now ce X (pj++[(f,fo)]) ι σi h σ H s:=by
 have I:=N.inv.pinned (fp:=[f]) (λ b hb=>by rw[Z5.mp hb];exact F) (λ b hb=>by rw[Z5.mp hb];exact⟨fo,e,d⟩)
 have ep:Q9 [f] s.heap=[(f,fo)]:=by simp[Q9,e]
 rw[ep] at I
 exact⟨I,N.rel,N.st⟩
theorem Jis {q:Str}{j:Nat}{params:Zcr}{body:Expr}{scope:Zb1}{pos:Pos}{cl:List (Str×Zq)}{pj:PnT}{s:Zl}{σ:L2.St}{H:Hp}{ι:List Zq}{σi:ISt}{h:IH}{Q:QvT}{E:QvT}
  (N:Now ce X pj ι σi h σ H s)(hj:h[j]?=Za (.tab q))(hcd:W.codeIn X.K X.env.code q=Zj)(hq:X.env.qual=q++".<locals>.")(hdef:defaultsOf params X.env=([],[]))(hcl:Zdx scope X.env=pure cl)(B:Qs X.mg X.base)
  (K:∀f c pm ctv s' H',Now ce X (pj++[(f,lamO q params body scope cl pm ctv c)]) ι σi h σ H' s'->Nxt ι H ι H'->Qz H' q (.ref c)->Q (.ref f) s') :
  Zu (Z6 X.prog X.w) X.A (Zbr (.Lambda params body scope pos) X.env) Q E s:=by
 obtain⟨a,ha,hc,ps,hP,ht,hcodes⟩:=N.rel.at_ j _ hj
 obtain⟨c,ec,hhd⟩:=hc _ hcd
 have I:=N.inv
 have C:=W.codeHd_of_K I.kIn hhd
 have gP:s.heap.get? a=Za (W.tabObj ps):=I.hok a _ hP
 have hg:s.heap.Ns Z4 X.mg:=I.ok.mod.glob.keeps I.bk
 obtain⟨bm,ob,b1,b2,b3,b4,b5,b6,b7⟩:=B
 have gb:=I.bs bm ob b4
 have nba:bm≠a:=λ z=>by rw[z,hP] at gb;cases gb.2
 have hb:s.heap.BuiltinsAt X.mg a:=⟨bm,ob,b1,b2,b3,nba,gb.1,b5,b6,b7⟩
 have nga:Z4≠a:=λ z=>by
  obtain⟨o,es,ep,e,d,_⟩:=hg
  rw[z,gP] at e
  cases e
  cases d
 refine W.kla_eval hdef ?_
 rw[hq]
 cases ea:Zeu pos ps.toList with
 | some cv =>
  have LC:=hcodes pos cv ea
  obtain⟨c',oc,vs,t,ecv,_⟩:=id LC
  subst ecv
  refine W.kla_makeFunctionHit hcl I.ok.glob hg ec C gP ht ea hb λ ctv h' tk hk hsz=>?_
  have I1:=I.kept (h':=h'.push (lamO q params body scope cl ((X.mg "__name__").getD .none) ctv c')) (t':=tk) λ b o e=>Ze _ (hk b o e)
  have N1:Now ce X pj ι σi h σ H _:=⟨I1,N.rel,N.st⟩
  exact K h'.objs.size c' _ ctv _ H (N1.pinO (Zv _ rfl) (I.fpOk hsz (I.hok.fresh hsz)) λ v z=>by
   have z':Data.func _=Zf9 v:=z
   cases z') .refl LC
 | none =>
  refine W.kla_makeFunction hcl I.ok.glob hg ec C gP ht ea nga hb λ c' ctv h' tk hx hge hlt hrec htb=>?_
  obtain⟨c2,oc,vs,t,e2,hoc,hd,hv⟩:=hrec
  cases e2
  generalize hps:ps++#[Za4 pos.line,Za4 pos.col,.ref c']=ps' at htb
  generalize hob:lamO q params body scope cl ((X.mg "__name__").getD .none) ctv c'=fo
  have fc:H c'=Zd:=I.hok.fresh hge
  have nca:c'≠a:=λ z=>by rw[z,hP] at fc;cases fc
  have lts:s.heap.objs.size<=h'.objs.size:=Zaf hge (Zb2 hlt)
  obtain⟨H',hH⟩:∃H',H'=upd (upd H a (.tbl ps')) c' (.frz oc (.own 0)):=⟨_,rfl⟩
  have Ha:H' a=Za (.tbl ps'):=by rw[hH,Jo (ZO nca),J0]
  have Hc:H' c'=Za (.frz oc (.own 0)):=by rw[hH,J0]
  have Ho:∀b,b≠a->b≠c'->H' b=H b:=λ b h1 h2=>by rw[hH,Jo h2,Jo h1]
  have kp:∀b o,b≠a->s.heap.get? b=Za o->(h'.push fo).get? b=Za o:=λ b o hb e=>Ze _ (hx b o hb e)
  have ga:(h'.push fo).get? a=Za (W.tabObj ps'):=Ze _ htb
  have frz:∀b o u,H b=Za (.frz o u)->H' b=Za (.frz o u):=λ b o u e=>by rw[Ho b (λ z=>by rw[z,hP] at e;cases e) (λ z=>by rw[z,fc] at e;cases e)];exact e
  have tup:∀b xs,H b=Za (.tup xs)->H' b=Za (.tup xs):=λ b xs e=>by rw[Ho b (λ z=>by rw[z,hP] at e;cases e) (λ z=>by rw[z,fc] at e;cases e)];exact e
  have own:∀b x,H b=Za (.own x)->H' b=Za (.own x):=λ b x e=>by rw[Ho b (λ z=>by rw[z,hP] at e;cases e) (λ z=>by rw[z,fc] at e;cases e)];exact e
  have I1:Inv X pj σ H' { s with heap:=h'.push fo,toks:=tk }:=by
   refine I.step (g':=s.gens) (d':=s.drawn) (ch:=[]) (λ b hb=>absurd hb (by simp)) (λ b o _ _ _ e n=>kp b o (λ z=>by rw[z,hP] at n;cases n) e) (λ b o _ _ _ e n=>⟨o.slots,kp b o (λ z=>by rw[z,hP] at n;cases n) e⟩) (λ b o _ e n=>?_) (λ b o _ e=>?_) tup frz (λ b qs e=>?_) (λ m hm=>?_) (λ b u e=>?_) I.bare
   ·rw[Ho b (λ z=>by rw[z,hP] at n;cases n) (Z3 (ZI (Zz e) hge))];exact n
   ·by_cases hb:b=a
    ·subst hb;exact⟨_,ga⟩
    ·exact⟨o,kp b o hb e⟩
   ·by_cases hb:b=a
    ·subst hb
     rw[hP] at e
     cases e
     exact⟨_,by rw[Ha,<-hps]⟩
    ·exact⟨#[],by rw[Ho b hb (λ z=>by rw[z,fc] at e;cases e),e];simp⟩
   ·obtain⟨o,es,ep,ho,r⟩:=hm
    exact⟨o,es,ep,kp _ o (λ z=>by have:=I.free;rw[z,hP] at this;cases this) ho,r⟩
   ·by_cases hb:b=a
    ·subst hb
     rw[Ha] at e
     cases e
     exact ga
    ·by_cases hb2:b=c'
     ·subst hb2
      rw[Hc] at e
      cases e
      exact⟨Ze _ hoc,_,Ze _ hoc⟩
     ·rw[Ho b hb hb2] at e
      refine(I.hok b u e).stay (λ d v hd r=>kp d v (λ z=>?_) r) (λ d z=>own d _ z) tup
      subst z
      rcases hd with z|z
      ·exact hb z.symm
      ·rw[hP] at z;cases z
  have n:Nxt ι H ι H':=⟨⟨[],by simp⟩,⟨tup,frz⟩⟩
  have LC:Qz H' q (.ref c'):=⟨c',oc,vs,t,rfl,Hc,hd,hv⟩
  have R:Rel ce X.K ι h H':=by
   refine⟨N.rel.len,N.rel.nd,λ i o e=>?_⟩
   obtain⟨b,eb,ro⟩:=N.rel.at_ i o e
   refine⟨b,eb,?_⟩
   by_cases hb:b=a
   ·subst hb
    have hij:i=j:=N.rel.inj eb ha
    subst hij
    rw[hj] at e
    cases e
    refine⟨hc,ps',Ha,?_,λ pos' cv ea'=>?_⟩
    ·rw[<- hps,Array.toList_append]
     exact TriplesOk_snoc _ _ _ _ ht
    ·rw[<- hps,Array.toList_append] at ea'
     rcases Jho ps.toList ht ea' with z|z
     ·exact(hcodes pos' cv z).mono frz
     ·rw[z];exact LC
   ·refine ro.mono n λ u hu=>?_
    rw[Ho b hb (λ z=>by rw[z,fc] at hu;cases hu)]
    exact hu
  have N1:Now ce X pj ι σi h σ H' _:=⟨I1,R,N.st.mono n⟩
  subst hob
  exact K h'.objs.size c' _ ctv _ H' (N1.pinO (Zv _ rfl) (I.fpOk lts (by rw[Ho _ (ZaA (ZI (Zz gP) lts)) (ZaA hlt)];exact I.hok.fresh lts)) λ v z=>by
   have z':Data.func _=Zf9 v:=z
   cases z') n LC
end
abbrev envL (q:Str)(scope:Zb1)(L f:Zq)(cd:Zh)(cl:List (Str×Zq)):Env:=newEnv scope L Z4 cl (lamQ q++".<locals>.") (Za f) cd Zd ZcQ
def cxL (X:Cx)(A:ZJ)(N':List Str)(q:Str)(scope:Zb1)(f:Zq)(cd:Zh)(s:Zl)(H:Hp):Cx :=
 { X with A:=A.deeper (envL q scope s.heap.objs.size f cd (clOf X.env.cells scope.names [])),N:=N',s₀:=s,H₀:=H,env:=envL q scope s.heap.objs.size f cd (clOf X.env.cells scope.names []),outer:=X.stack,stack:=envL q scope s.heap.objs.size f cd (clOf X.env.cells scope.names [])::X.stack,ex:=[],calm:=Zj,fn:=λ _=>Zm,pn:=[],xe:=λ _ _=>False }
structure LamSc (N0:List Str)(sc₀:List (Str×Zbt))(x:Str)(caps:List Str)(js:List Nat)(scope:Zb1):Prop where
 kind:scope.kind=.function
 co:scope.isCoroutine=Zm
 gen:scope.isGenerator=Zm
 nocell:∀y∈scope.names,y.2≠.cell
 par:scope.names.lookup x=Za .local
 free:∀y∈scope.names,y.2=.free->sc₀.lookup y.1=Za .cell
 fr:∀y,scope.names.lookup y=Za .free->(y,.free)∈scope.names
 cap:∀(k j:Nat)(y:Str),js[k]?=Za j->caps[k]?=Za y->N0[j]?=Za y/\scope.names.lookup y=Za .free
 len:js.length=caps.length
 nd:(x::caps).Nodup
theorem Js4:Zfa (W.kla_fn nm qu { posonlyargs:=[],args:=[p],vararg:=Zd,kwonlyargs:=[],kw_defaults:=[],kwarg:=Zd,defaults:=[] } body scope cl pm cd ctv) ⟨[u],[]⟩=pure [(p.arg,u)]:=by
 have e:(ZbJ p.arg [(p.arg,u)]).isNone=Zm:=by simp
 unfold Zfa
 simp[Zca,e]
 rfl
section
variable {ce:CeT}{X:Cx}
theorem Jly {k:Nat}{A:ZJ}{q x:Str}{caps:List Str}{js:List Nat}{params:Zcr}{body:Expr}{scope:Zb1}{pm ctv:Zh}{c f:Zq}{m:E1}{v:IV}{u:Zh}{pj:PnT}{s:Zl}{σ:L2.St}{H:Hp}{ι:List Zq}{σi:ISt}{h:IH}{Q:QvT}{E:QvT} 
  (hA:A.frames=Za X.stack)(hr:Room (k+1) A)(N:Now ce X pj ι σi h σ H s)(hf:s.heap.get? f=Za (lamO q params body scope (clOf X.env.cells scope.names []) pm ctv c))(LC:Qz H q (.ref c))(hx:Qo params=Za x)(S:LamSc X.N X.env.scope.names x caps js scope)
  (hb:∀s' H',PEi ce (cxL X A (x::caps) q scope f (.ref c) s' H') body m)(ru:RU X.K ι H v u)(K:Kont ce X RU pj ι σi σ H ((m (Za v::js.map λ j=>(σi[j]?).join) h).nx) Q E) :
  Zu (Z6 X.prog X.w) A (call (.ref f) [u]) Q E s:=by
 have I:=N.inv
 have e0:=I.env0
 have lim:s.heap.NoLimit:=e0.mod.nolimit.keeps λ b o e=>(e0.bs b o e).1
 refine ZeB (W.kla_callFunE hr.depth hf rfl S.co S.gen rfl (LC.rec I.hok) ?_)
 have hbind:Zfa (W.kla_fn "<lambda>" (lamQ q) params body scope (clOf X.env.cells scope.names []) pm (.ref c) ctv) ⟨[u],[]⟩=pure [(x,u)]:=by
  unfold Qo at hx
  split at hx
  ·cases hx
   exact Js4
  ·cases hx
 rw[hbind]
 refine Zk (wpAny_newFunctionEnv S.nocell (λ y hy=>by rw[Z5.mp hy];exact S.par) (λ h3 hns hsb=>⟨lim.fresh _ hsb,?_⟩) S.kind)
 obtain⟨w,rw',qw⟩:=ru
 have keep:∀b o,s.heap.get? b=Za o->h3.get? b=Za o:=λ b o z=>(hsb.2 b (Z3 (Zz z))).trans (Ze _ z)
 have cells':∀y d,(clOf X.env.cells scope.names []).lookup y=Za d->X.env.cells.lookup y=Za d:=Jia _ _ (λ y d z=>by simp at z)
 have okX:(cxL X A (x::caps) q scope f (.ref c) s H).Ok:=by
  have noA:∀b:Zq,b∉(cxL X A (x::caps) q scope f (.ref c) s H).ex:=λ b z=>absurd (show b∈([]:List Zq) from z) (by simp)
  refine⟨I.ok.mod,S.kind,rfl,rfl,Zr _,λ y y' d a b=>I.ok.inj y y' d (cells' y d a) (cells' y' d b),λ y hy=>?_,λ y d z=>absurd (show Zm=Zj from z) Zs,λ _=>hr.hd,Around.frames_deeper hA,.inr ⟨rfl,rfl⟩,λ b z=>absurd z (noA b),e0.bs,e0.bsz,λ b _ _=>noA b,λ b z=>absurd z (noA b),e0.funs,e0.frf⟩
  have hy':scope.names.lookup y=Za .cell∨scope.names.lookup y=Za .free:=hy
  rcases hy' with z|z
  ·exact absurd rfl (S.nocell _ (Zaj z))
  ·have hm:=Zaj z
   obtain⟨d,hd⟩:=I.ok.has y (.inl (S.free (y,.free) hm rfl))
   exact Zb4.mp (XU _ _ y d hm hd)
 have I3:Inv (cxL X A (x::caps) q scope f (.ref c) s H) [] (Za w::js.map λ j=>(σ[j]?).join) H { s with heap:=h3,toks:=s.toks+[(x,u)].length }:=by
  refine⟨okX,rfl,I.bare,Un.kept keep,⟨_,hns,λ i y z a b cc=>?_⟩,λ y d z=>?_,I.hok.fresh (Zr _),λ y d z=>I.freeC y d (cells' y d z),λ p hp=>absurd (show p∈([]:PnT) from hp) (by simp),I.hok.kept keep,by show _=(x::caps).length;simp[S.len]⟩
  ·cases i with
   | zero =>
    have a':Za x=Za y:=a
    cases a'
    have b':Za (Za w)=Za (Za z):=b
    cases b'
    exact⟨u,rw',.inl ⟨S.par,by simp⟩⟩
   | succ i =>
    have a':caps[i]?=Za y:=a
    have b':(js.map λ j=>(σ[j]?).join)[i]?=Za (Za z):=b
    rw[Zy] at b'
    cases ej:js[i]? with
    | none=>rw[ej] at b';cases b'
    | some j =>
     rw[ej] at b'
     have b2:(σ[j]?).join=Za z:=Zao b'
     have hσ:σ[j]?=Za (Za z):=by
      cases es:σ[j]? with
      | none=>rw[es] at b2;cases b2
      | some o=>rw[es] at b2;rw[show o=Za z from b2]
     obtain⟨hx1,hx2⟩:=S.cap i j y ej a'
     have hm:=Zaj hx2
     have hk:=S.free (y,.free) hm rfl
     obtain⟨m0,hn,hl⟩:=I.loc
     obtain⟨u',ru',lk⟩:=hl j y z hx1 hσ (.inr (.inl hk))
     rcases lk with⟨e,_⟩|⟨e,d,hd,hcell⟩
     ·have hk':X.env.scope.names.lookup y=Za .cell:=hk
      have e':X.env.scope.names.lookup y=Za .local:=e
      rw[hk'] at e'
      cases e'
     ·obtain⟨d',hd2⟩:=Zb4.mp (XU (cells:=X.env.cells) scope.names [] y d hm hd)
      have:=cells' y d' hd2
      rw[hd] at this
      cases this
      obtain⟨oc,hoc,hdd⟩:=hcell
      exact⟨u',ru',.inr ⟨.inr hx2,d,hd2,oc,keep _ _ hoc,hdd⟩⟩
  ·obtain⟨z',o,ho,hd⟩:=I.cell y d (cells' y d z)
   exact⟨z',o,keep _ _ ho,hd⟩
 have N3:Now ce (cxL X A (x::caps) q scope f (.ref c) s H) [] ι (Za v::js.map λ j=>(σi[j]?).join) h (Za w::js.map λ j=>(σ[j]?).join) H { s with heap:=h3,toks:=s.toks+[(x,u)].length }:=by
  refine⟨I3,N.rel,by simp,λ i z a=>?_⟩
  cases i with
  | zero =>
   have a':Za (Za v)=Za (Za z):=a
   cases a'
   exact⟨w,rfl,qw⟩
  | succ i =>
   have a':(js.map λ j=>(σi[j]?).join)[i]?=Za (Za z):=a
   rw[Zy] at a'
   cases ej:js[i]? with
   | none=>rw[ej] at a';cases a'
   | some j =>
    rw[ej] at a'
    have a2:(σi[j]?).join=Za z:=Zao a'
    have hσ:σi[j]?=Za (Za z):=by
     cases es:σi[j]? with
     | none=>rw[es] at a2;cases a2
     | some o=>rw[es] at a2;rw[show o=Za z from a2]
    obtain⟨z',ez,qz⟩:=N.st.2 j z hσ
    refine⟨z',?_,qz⟩
    show(js.map λ j=>(σ[j]?).join)[i]?=Za (Za z')
    rw[Zy,ej]
    show Za ((σ[j]?).join)=_
    rw[ez]
    rfl
 refine W.kla_codeExpr (Zas (hb s H [] _ _ H ι _ h (λ u' s'=>Q u' s') (λ _ _=>False) N3 ?_) (λ _ _ z=>z) λ _ _ z=>z.elim)
 cases er:m (Za v::js.map λ j=>(σi[j]?).join) h with
 | ok v' h' =>
  rw[er] at K
  intro u' s' H' ι' N' n' ⟨z,rz,qz⟩
  have J:=N'.inv
  obtain⟨_,_,I',rz',e1,e2⟩:=I.after (Q:=λ z2 H2=>z2=z/\H2=H') ⟨z,H',J.os,J.bare,J.base,J.hok,rz,rfl,rfl⟩
  subst e1
  subst e2
  exact K u' s' _ ι' ⟨I',N'.rel,N.st.mono n'⟩ n' ⟨_,rz',qz⟩
 | exc n h'=>rw[er] at K;exact Zf K
 | stuck=>rw[er] at K;exact Zf K
end
def QY (gt:IV->IV->Option Bool)(mk:IV->IH->Res IV)(i n:Nat):Nat->IV->IV->IH->Res IV
 | 0,b,_,h=>(match h[i]? with
  | some (.lst ys)=>if ys.length=n then .ok b h else .stuck
  | _=>.stuck)
 | r+1,b,kb,h=>(match h[i]? with
  | some (.lst ys)=>if ys.length=n then(match ys[n-(r+1)]? with
    | some y=>(mk y h).nx.bind λ k h'=>(match gt k kb with
     | some Zj=>QY gt mk i n r y k h'
     | some Zm=>QY gt mk i n r b kb h'
     | none=>.stuck)
    | none=>.stuck) else .stuck
  | _=>.stuck)
theorem FpOk.more {X:Cx}{pj:PnT}{H:Hp}{b:Zq}{p:Zq×Obj}(F:FpOk X pj H b)(ne:p.1≠b):FpOk X (pj++[p]) H b:=by
 refine⟨F.1,F.2.1,F.2.2.1,F.2.2.2.1,F.2.2.2.2.1,λ q hq=>?_⟩
 rcases Zah.mp hq with z|z
 ·exact F.2.2.2.2.2 q (ZY _ z)
 ·rcases Zah.mp z with z|z
  ·exact F.2.2.2.2.2 q (Zo _ z)
  ·rw[Z5.mp z]
   exact ne
theorem FpOk.at {X:Cx}{pj:PnT}{H H':Hp}{b:Zq}(F:FpOk X pj H b)(n:H' b=Zd):FpOk X pj H' b:=⟨n,F.2⟩
theorem Jmf {xs:List V}{us:List Zh}{i:Nat}{u:Zh}(r:Vals xs us)(e:us[i]?=Za u):∃x,xs[i]?=Za x/\RelV x u:=by
 have hi:=(Zt.mp e).1
 have hl:=r.length
 have hi2:i<xs.length:=by omega
 have hx:xs[i]?=Za xs[i]:=Zb hi2
 obtain⟨u',e',q⟩:=r.get hx
 rw[e] at e'
 cases e'
 exact⟨_,hx,q⟩
section
variable {ce:CeT}{X:Cx}
theorem Now.turned {pj:PnT}{ι:List Zq}{σi:ISt}{h:IH}{σ:L2.St}{H:Hp}{s:Zl}{it:Zq}{h':Zar}{t':Nat}(N:Now ce X pj ι σi h σ H s)(F:FpOk X pj H it)(k:∀b o,b≠it->s.heap.get? b=Za o->h'.get? b=Za o) :
  Now ce X pj ι σi h σ H { s with heap:=h',toks:=t' }:=⟨N.inv.turned k F.1 F.2.1 F.2.2.2.1 F.2.2.2.2.1 F.2.2.2.2.2,N.rel,N.st⟩
theorem Now.keptH {pj:PnT}{ι:List Zq}{σi:ISt}{h:IH}{σ:L2.St}{H:Hp}{s:Zl}{h':Zar}{t':Nat}(N:Now ce X pj ι σi h σ H s)(k:∀b o,s.heap.get? b=Za o->h'.get? b=Za o) :
  Now ce X pj ι σi h σ H { s with heap:=h',toks:=t' }:=⟨N.inv.kept k,N.rel,N.st⟩
def CmpK (ce:CeT)(X:Cx)(A:ZJ)(op:CmpOp)(gt:IV->IV->Option Bool):Prop :=
 ∀(pj:PnT)(ι:List Zq)(σi:ISt)(h:IH)(σ:L2.St)(H:Hp)(s:Zl)(k kb:IV)(u ub:Zh)(b:Bool)(Q:QvT)(E:QvT),Now ce X pj ι σi h σ H s->RU X.K ι H k u->RU X.K ι H kb ub->gt k kb=Za b ->
  (∀h' t',(∀a o,s.heap.get? a=Za o->h'.get? a=Za o)->Q (.bool b) { s with heap:=h',toks:=t' })->Zu (Z6 X.prog X.w) A (Zda op u ub) Q E s
def XQ (ce:CeT)(X:Cx)(A:ZJ)(σi:ISt)(σ:L2.St)(pj:PnT)(G:Hp->Prop)(fv:Zh)(mk:IV->IH->Res IV):Prop :=
 ∀(pl:PnT)(s:Zl)(H:Hp)(ι:List Zq)(h:IH)(v:IV)(u:Zh)(Q:QvT),Now ce X (pj++pl) ι σi h σ H s->G H->RU X.K ι H v u->Kont ce X RU (pj++pl) ι σi σ H (mk v h).nx Q (λ _ _=>False) ->
  Zu (Z6 X.prog X.w) A (call fv [u]) Q (λ _ _=>False) s
theorem Jrm {α γ:Type}{pj:PnT}{ι:List Zq}{σi:ISt}{σ:L2.St}{H:Hp}{R:REL α Zh}{R':REL γ Zh}{r:Res α}{g:α->IH->Res γ}{Q:QvT}{E:QvT}{pl:PnT}{Q1:QvT}
  (K:Kont ce X R' pj ι σi σ H (r.nx.bind g) Q E)
  (step:∀x h1 u s1 H1 ι1,Now ce X (pj++pl) ι1 σi h1 σ H1 s1->Nxt ι H ι1 H1->R X.K ι1 H1 x u->Kont ce X R' pj ι1 σi σ H1 (g x h1) Q E->Q1 u s1):Kont ce X R (pj++pl) ι σi σ H r.nx Q1 (λ _ _=>False):=by
 cases r with
 | ok v h'=>exact λ u s' H' ι' N' n' q=>step v h' u s' H' ι' N' n' q (Kont.mono (r:=g v h') K n')
 | exc n h'=>exact Zf K
 | stuck=>exact Zf K
section
variable {A:ZJ}{R:Zeh->Zl->Prop}{Q:QvT}{E:QvT}{pj:PnT}{σi:ISt}{σ:L2.St}{G:Hp->Prop}{fq:Zq}{mk:IV->IH->Res IV}{gt:IV->IV->Option Bool}{i n:Nat}{l I C:Zq}{kw:List (Str×Zh)}
end
theorem Kont.more {α β:Type}{R:REL α β}{pj pl:PnT}{ι:List Zq}{σi:ISt}{σ:L2.St}{H:Hp}{r:Res α}{Q:β->Zl->Prop}{E:QvT}(K:Kont ce X R pj ι σi σ H r Q E):Kont ce X R (pj++pl) ι σi σ H r Q E:=by
 cases r with
 | ok v h'=>exact λ u s' H' ι' N n q=>K u s' H' ι' N.pins n q
 | exc m h'=>exact λ pl' a s' H' ι' N n q=>K (pl++pl') a s' H' ι' (by rw[<- Zag];exact N) n q
 | stuck=>exact K
theorem Jir {params:Zcr}{x:Str}{env:Env}(hx:Qo params=Za x):defaultsOf params env=([],[]):=by
 unfold Qo at hx
 split at hx
 ·rfl
 ·cases hx
end
section
variable {ce:CeT}{X:Cx}{C:Zq}{x c:Str}{np cpos pos:Pos}{e:Expr}{es:List Expr}{ma:A1}
end
section
variable {ce:CeT}{X:Cx}{a C:Zq}{pj:PnT}{σ:L2.St}{H:Hp}{s:Zl}{ι:List Zq}{σi:ISt}{h:IH}{n:Nat}{c:Str}{fs:List (Str×IV)}{tv:Zh}
end
section
variable {ce:CeT}{X:Cx}
end
theorem Jpo (a:Zh):ZdW "max" ⟨[a],[]⟩:=by unfold ZdW;kernel_rfl
section
variable {ce:CeT}{X:Cx}
def V7:IV->IH->Res IV
 | .ref i,h=>match h[i]? with
  | some (.lst xs)=>(match JA xs with
   | some ns=>if ns=[] then .stuck else .ok (.int (JG (λ i=>ns.getD i 0) ns.length)) h
   | none=>.stuck)
  | _=>.stuck
 | _,_=>.stuck
theorem Jzi (hh:X.A.handled=Zd):Qt ce X (.builtin "max") (on1 V7):=V2 λ pj s σ H ι σi h x xv u Q E N ru qx K=>by
 cases x with
 | ref i =>
  obtain⟨a,e1,ha⟩:=qx
  subst e1
  cases ru
  dsimp only[V7] at K
  cases hi:h[i]? with
  | none=>rw[hi] at K;exact Zf K
  | some ob =>
   rw[hi] at K
   cases ob with
   | lst xs =>
    dsimp only at K
    cases hb:JA xs with
    | none=>rw[hb] at K;exact Zf K
    | some ns =>
     rw[hb] at K
     dsimp only at K
     split at K
     ·exact Zf K
     ·rename_i hne
      obtain⟨vs,e1,r1⟩:=N.at hi ha
      obtain⟨its,rv,pl,hz⟩:=N.inv.list (SqL.of e1)
      refine Jrl (d:=Zd) rfl (Jpo _) (λ q=>absurd q hne) hh pl.isList (Vo hb r1 rv) λ v h2 tk mi kk=>?_
      rcases mi with⟨e,_⟩|⟨_,t,ev⟩
      ·exact absurd e hne
      ·subst ev
       exact fin0 N K rfl _ _ (N.inv.kept (t':=tk) kk) ⟨t,rfl⟩
   | _=>exact Zf K
 | _=>exact Zf K
def Xx:IV->IH->Res IV
 | .ref i,h=>match h[i]? with
  | some (.dct kvs)=>.ok (.int kvs.length) h
  | _=>.stuck
 | _,_=>.stuck
theorem Jzg:Qt ce X (.builtin "len") (on1 Xx):=V2 λ pj s σ H ι σi h x xv u Q E N ru qx K=>by
 cases x with
 | ref i =>
  obtain⟨a,e1,ha⟩:=qx
  subst e1
  cases ru
  dsimp only[Xx] at K
  cases hi:h[i]? with
  | none=>rw[hi] at K;exact Zf K
  | some ob =>
   rw[hi] at K
   cases ob with
   | dct kvs =>
    obtain⟨ws,e1,r1⟩:=N.at hi ha
    refine J2k N.inv (.of e1) λ t s' I'=>?_
    rw[r1.length]
    exact fin0 N K rfl _ _ I' ⟨_,rfl⟩
   | _=>exact Zf K
 | _=>exact Zf K
structure BasK (K:W.Frag)(C:Zq):Prop where
 sp:W.specialIn K (.ref C) "__getattribute__"=Za (Za (.builtin "type.__getattribute__"))
 rd:W.readsIn K C (.type "type")=Zj
 fc:∃fa,W.findIn K (.ref C) "__init__"=Za (Za (.ref fa))/\W.findCls K (.ref C) (.type "type") "__init__"=Za (.val (.ref fa))/\W.keepIn K (.ref fa)=Zj
variable {k:Nat}{fa C:Zq}{fd:ZaP}{ps:List Str}{f:List IV->IH->Res IV}{dvs:List IV}{ds:List Zh}{x:Str}{p pos apos:Pos}{e:Expr}{es:List Expr}{ma:A1}{pl:Sem Bool}
theorem Jzw (F:FnOk X.prog X.w X.K X.mg X.base (CXI X.prog X.w) k fa fd ps (spI ce X.K ps f))(hr:Room k X.A)(hg:Gl X x)(hm:X.mg x=Za (.ref C))(B:BasK X.K C)(M:Mk X.K C fa)(hb:Qc X.K fd ps ds)(hd:∃vs,Vals vs ds/\∀ι H,RVs X.K ι H dvs vs) 
  (ha:PAi ce X (e::es) ma)(hlen:∀σ h xs h',ma σ h=.ok xs h'->xs.length+ds.length=ps.length)(hdb:(x==("__debug__":Str))=Zm:=by decide)(he:ZE (e::es) X.env=(Zm,Zbr e X.env)::ZE es X.env:=by rfl)(hpl:(Zb6 pos (ZE es X.env)).any (·.1)=Zm:=by rfl)
  (ht:Zbr (.Call (.Attribute (.Name x p) "__init__" apos) (e::es) [] pos) X.env=(do
   let ov<-Zbr (.Name x p) X.env
   Zf2 apos.atName
   let (f,first)<-Zci [ov] (Zes ov "__init__" pl)
   callWith pos f first (Zb6 pos (ZE (e::es) X.env)) (Zex pos (ZcY [] X.env))):=by rfl) :
  PEi ce X (.Call (.Attribute (.Name x p) "__init__" apos) (e::es) [] pos) (Jl f dvs ma):=by
 intro pj s σ H ι σi h Q E N K
 obtain⟨fa',f1,f2,hk⟩:=B.fc
 have ef:fa'=fa:=by
  have:=f1.symm.trans M.init
  cases this
  rfl
 subst ef
 refine W.methodCall_KW (pl:=pl) (VT N.inv hg hm ?_ hdb) ht
 refine W.method_cls N.inv.kIn B.sp (W.cls_value N.inv.kIn B.rd f2 rfl ?_)
 have N':Now ce X pj ι σi h σ H { s with toks:=s.toks+1 }:=⟨N.inv.tok _,N.rel,N.st⟩
 refine W.callWith_K (h₀:=X.base) N.inv.ok.mod.kin hk ?_ he hpl
 have K':=K
 unfold Jl at K'
 refine ha pos pj _ σ H ι σi h _ E N' ?_
 cases e0:ma σi h with
 | exc n h'=>rw[e0] at K';exact K'
 | stuck=>rw[e0] at K';exact K'
 | ok xs h' =>
  rw[e0] at K'
  intro us s1 H1 ι1 N1 n1 r1
  have hl:xs.length=us.length:=by
   obtain⟨vs,rv,q⟩:=r1
   rw[<- rv.length,q.length]
  have hl2:=hlen σi h xs h' e0
  exact⟨N1.inv.kIn,Yq (us:=us) F hr hb hd (by omega) N1 r1 (Kont.mono (r:=f (xs++dvs) h') K' n1)⟩
end
section
variable {prog:ZC}{w:ZU}{A:ZJ}{E:QvT}{s:Zl}{x y:Str}{t u:Tok}{Q:QvT}
open Builtin Builtin.Str in
end
section
variable {ce:CeT}{X:Cx}
end
section
variable {prog:ZC}{w:ZU}{A:ZJ}{E:QvT}{s:Zl}
end
section
variable {ce:CeT}{X:Cx}
end
section
variable {ce:CeT}{X:Cx}{pj:PnT}{σ:L2.St}{H:Hp}{s:Zl}{ι:List Zq}{σi:ISt}{h:IH}{n:Nat}{c:Str}{fs:List (Str×IV)}{a:Zq}
end
section
variable {P:ZC}{w:ZU}{K:W.Frag}{mg:Str->Option Zh}{base:Zar}{ce:CeT}
end
section
variable {ce:CeT}{X:Cx}
end
section
variable {prog:ZC}{w:ZU}{A:ZJ}{E:QvT}{s:Zl}
end
def neIn (K:W.Frag)(C:Zq):Bool:=match K.lookup C with
 | some ⟨.type "type",_,.cls cd,sl⟩=>(match cd.mro,sl.toList with
  | [.ref C',.type "object"],[_,_,_,_,Za (.builtin _),_]=>C'==C&&!cd.hasDel&&W.nsOkIn K cd.ns&&W.nsIn K cd.ns "__eq__"==Za Zd&&W.nsIn K cd.ns "__ne__"==Za Zd
  | _,_=>Zm)
 | _=>Zm
section
variable {ce:CeT}{X:Cx}{pj:PnT}{s:Zl}{σ:L2.St}{H:Hp}{ι:List Zq}{σi:ISt}{h:IH}
end
section
variable {ce:CeT}{X:Cx}
end
section
variable {X:Cx}
end
section
variable {ce:CeT}{X:Cx}
end
def VH:Ty->Option Bool
 | .lst=>Za Zj|.ins c=>if c=="Work" then Za Zm else Zd|.exc _=>Zd|_=>Za Zm
theorem Jos {ce:CeT}{K:W.Frag}(h:∀C,ce "Work"=Za C->ClsI K C/\W.kitOne K (.ref C) (.type "list")=Za Zm):IsOk ce K (.type "list") VH:=by
 have O:IsOk ce K (.type "list") Vm:=Jkq
 refine⟨O.non,O.bl,O.int,O.str,O.lst,O.tup,O.dct,λ k C b e hk=>?_,(λ k C b e=>by cases e)⟩
 unfold VH at e
 dsimp only at e
 split at e
 ·rename_i q
  cases beq_iff_eq.mp q
  cases e
  exact h C hk
 ·cases e
section
variable {ce:CeT}{X:Cx}{x:Expr}{m:E1}{pos:Pos}
end
section
variable {prog:ZC}{w:ZU}{A:ZJ}{E:QvT}{hp:Zar}{ge:Array Zep}{dr:Drawn}{tk:Nat}{ox:OsState}
variable {nm qn:Str}{C Na:Zq}{bs bm bmB:List Zh}{hdct:Bool}{sn:List Str}{sub:List Zh}{ab:Bool}{col:Option Bool}{dd:Option Zq}{k0 k1 k2 k3 k5:Option Zh}{B Bn newId nid initId inN:String}{bmN:List Zh}
end
section
variable {X:Cx}{pj:PnT}{σ:L2.St}{H:Hp}{s:Zl}{k:Nat}{f C:Zq}{fd:ZaP}{ps:List Str}{sp:Sp}{dvs:List V}{ds:List Zh}{E:XK}{Q:VK}{us:List Zh}{vs:List V}{W:QvT}
end
section
variable {ce:CeT}{X:Cx}{k:Nat}{fa C:Zq}{fd:ZaP}{ps:List Str}{f:List IV->IH->Res IV}{dvs:List IV}{ds:List Zh}{x c:Str}{p pos:Pos}{e:Expr}{es:List Expr}{ma:A1}
end
section
variable {X:Cx}{pj:PnT}{σ:L2.St}{H:Hp}{s:Zl}{f C e:Zq}{tv:Zh}{d:Option Zq}{us:List Zh}
end
section
variable {ce:CeT}{X:Cx}{D:Zq}{x:Str}{p pos apos:Pos}{e:Expr}{es:List Expr}{ma:A1}{pl:Sem Bool}
end
section
variable {prog:ZC}{w:ZU}{A:ZJ}{K:W.Frag}{C x:Zq}{s:Zl}{R:Zeh->Zl->Prop}{ox:Obj}{name:Str}{v:Zh}
end
section
variable {prog:ZC}{w:ZU}{A:ZJ}{K:W.Frag}{C x:Zq}{s:Zl}{ox:Obj}{name:Str}{v:Zh}
end
section
variable {ce:CeT}{X:Cx}{o value:Expr}{mo mv:E1}{pos pos':Pos}{fl:Str}
end
end L3
namespace L3
open PySem PySem.Spec PySem.Calls PyProof.Rows L2
section
variable {prog:ZC}{w:ZU}{A:ZJ}{E:QvT}{s:Zl}{K:W.Frag}{x D:Zq}{ox od:Obj}{f:Str}{v:Zh}
end
section
variable {ce:CeT}{X:Cx}{o:Expr}{mo:E1}{pos:Pos}{fl:Str}
end
section
variable {ce:CeT}{X:Cx}
end
end L3
namespace L3
open PySem PySem.Spec PyProof.Rows L2
section
variable {ce:CeT}{X:Cx}
end
section
variable {α β γ δ:Type}{ce:CeT}{X:Cx}{R:REL α β}{R':REL γ δ}{a:Zq}{n:Nat}
variable {b c:Expr}{pos:Pos}{rest:List Expr}{ta tb:T1}{mb:E1}
end
def Xv (gt:IV->IV->Option Bool)(mk:IV->IH->Res IV)(i:Nat)(h:IH):Res IV:=match h[i]? with
 | some (.lst ys)=>(match ys[0]? with
  | some y=>(mk y h).nx.bind λ k h'=>QY gt mk i ys.length (ys.length-1) y k h'
  | none=>.stuck)
 | _=>.stuck
theorem Jfy:(toString "min"++toString ".loop":String)="min.loop":=by decide
section
variable {ce:CeT}{X:Cx}
section
variable {A:ZJ}{R:Zeh->Zl->Prop}{Q:QvT}{E:QvT}{pj:PnT}{σi:ISt}{σ:L2.St}{G:Hp->Prop}{fq:Zq}{mk:IV->IH->Res IV}{gt:IV->IV->Option Bool}{i n:Nat}{l I C:Zq}{kw:List (Str×Zh)}
theorem Juc (hh:A.handled=Zd)(cm:CmpK ce X A.in1 .Lt gt)(ko:XQ ce X A.in1 σi σ pj G (.ref fq) mk)(hG:∀H H',Ext H H'->G H->G H')(hR:∀v s',Q v s'->R (.ok (.ret v)) s')(hIC:I≠C) :
  ∀(r j:Nat)(z:Zl)(H:Hp)(ι:List Zq)(h:IH)(b kb:IV)(vb uk:Zh)(c:Nat),n-j=r->0<j->j<=n->Now ce X pj ι σi h σ H z->G H->ι[i]?=Za l->FpOk X pj H I->FpOk X pj H C->z.heap.IsListIter I l j ->
   z.heap.get? C=Za (ZM "list" #[vb,uk] c)->RU X.K ι H b vb->RU X.K ι H kb uk->Kont ce X RU pj ι σi σ H (QY gt mk i n r b kb h) Q E ->
   Zc2 (Z6 X.prog X.w) A (.builtin "min.loop" ⟨[.ref I,.ref fq,.ref C],kw⟩) R z:=by
 intro r
 induction r with
 | zero =>
  intro j z H ι h b kb vb uk c hr h0 hj N g hi fI fC st gC rb rk K
  obtain rfl:j=n:=by omega
  unfold QY at K
  cases eh:h[i]? with
  | none=>rw[eh] at K;exact Zf K
  | some ob =>
   rw[eh] at K
   cases ob with
   | lst ys =>
    dsimp only at K
    split at K
    ·rename_i hlen
     obtain⟨ws,e1,r3⟩:=N.at eh hi
     obtain⟨its,rv2,pl,_⟩:=N.inv.list (SqL.of e1)
     have ne:l≠I:=λ q=>by have:=fI.1;rw[<- q,e1] at this;cases this
     have sz:its.toArray.size=j:=by
      rw[Zx,<-rv2.length,r3.length,hlen]
     have W:=ZcR (prog:=X.prog) (w:=X.w) (A:=A.in1) hh I l ne its.toArray
     refine Zaa Zbk ?_
     rw[ZG ZQ _]
     show Zu _ A.in1 (Zca (.ref C)>>=_) _ _ z
     refine Zc (Zba gC rfl ?_)
     show Zu _ A.in1 (tryCatch (Zbv (.ref I)) _>>=_) _ _ z
     refine Zc (Za1 (W.done z _ _ ⟨by rw[sz];exact st,pl.isList⟩ λ h2 tk keep=>?_))
     have gC2:=keep C _ (λ q=>hIC (Z5.mp q).symm) gC
     have N1:=N.turned (h':=h2) (t':=tk) fI λ b o hb e=>keep b o (λ q=>hb (Z5.mp q)) e
     show Zu _ A.in1 (Zey C (λ _=>#[])>>=_) _ _ _
     refine Zc ?_
     refine Zbn gC2 rfl (Zc (Zbo (Zk ?_)))
     have N2:=N1.turned (h':=h2.update C (ZW λ _=>#[])) (t':=tk) fC λ b o hb e=>(Zw _ _ (ZO hb)).trans e
     exact hR _ _ (K _ _ _ _ N2 .refl rb)
    ·exact Zf K
   | _=>exact Zf K
 | succ r ih =>
  intro j z H ι h b kb vb uk c hr h0 hj N g hi fI fC st gC rb rk K
  unfold QY at K
  cases eh:h[i]? with
  | none=>rw[eh] at K;exact Zf K
  | some ob =>
   rw[eh] at K
   cases ob with
   | lst ys =>
    dsimp only at K
    split at K
    ·rename_i hlen
     obtain⟨ws,e1,r3⟩:=N.at eh hi
     obtain⟨its,rv2,pl,_⟩:=N.inv.list (SqL.of e1)
     have ne:l≠I:=λ q=>by have:=fI.1;rw[<- q,e1] at this;cases this
     have sz:its.toArray.size=n:=by
      rw[Zx,<-rv2.length,r3.length,hlen]
     have ej:n-(r+1)=j:=by omega
     rw[ej] at K
     have W:=ZcR (prog:=X.prog) (w:=X.w) (A:=A.in1) hh I l ne its.toArray
     refine Zaa Zbk ?_
     rw[ZG ZQ _]
     show Zu _ A.in1 (Zca (.ref C)>>=_) _ _ z
     refine Zc (Zba gC rfl ?_)
     show Zu _ A.in1 (tryCatch (Zbv (.ref I)) _>>=_) _ _ z
     refine Zc (Za1 (W.item j z _ _ (by rw[sz];omega) ⟨st,pl.isList⟩ λ y h2 tk hP st2 keep=>?_))
     have ey:its[j]?=Za y:=by simpa using hP
     obtain⟨x,ex,rx⟩:=Jmf rv2 ey
     obtain⟨yv,eyv,qy⟩:=r3.get' ex
     rw[eyv] at K
     dsimp only at K
     have gC2:=keep C _ (λ q=>hIC (Z5.mp q).symm) gC
     have N1:=N.turned (h':=h2) (t':=tk) fI λ b o hb e=>keep b o (λ q=>hb (Z5.mp q)) e
     obtain⟨oI,hoI,hoc,hod⟩:=id st2.1
     have N2:=(N1.pinO gC2 fC λ v z=>by cases z).pinO hoI (FpOk.more (p:=(C,ZM "list" #[vb,uk] c)) fI (ZO hIC)) λ v z=>by rw[hod] at z;cases z
     rw[Zag] at N2
     show Zu _ A.in1 (tryCatch (Zci [y] (call (.ref fq) [y])) _>>=_) _ _ _
     refine Zc (Za1 (ZT (nof (ko _ _ _ _ _ yv y _ N2 g ⟨x,rx,qy⟩ (Jrm K λ k h3 u s3 H3 ι3 N3 n3 ru K3=>?_)))))
     have pC:=N3.inv.pin (C,ZM "list" #[vb,uk] c) (Zo _ (Zo _ (by simp)))
     have pI:=N3.inv.pin (I,oI) (Zo _ (Zo _ (by simp)))
     have N4:=N3.pins
     have hi3:=n3.at hi
     have g3:=hG _ _ n3.ext g
     have fI3:=FpOk.at (H':=H3) fI pI.2.1
     have fC3:=FpOk.at (H':=H3) fC pC.2.1
     have it3:s3.heap.IsListIter I l (j+1):=⟨oI,pI.1,hoc,hod⟩
     have ry3:RU X.K ι3 H3 yv y:=RU.mono n3 ⟨x,rx,qy⟩
     cases eg:gt k kb with
     | none=>rw[eg] at K3;exact Zf K3
     | some bb =>
      show Zu _ A.in1 (tryCatch (Zci [y,u] (Zda .Lt u uk>>=_)) _>>=_) _ _ _
      refine Zc (Za1 (ZT (Zc (cm _ _ _ _ _ _ _ k kb u uk bb _ _ N4 ru (rk.mono n3) eg λ h5 t5 k5=>?_))))
      refine Zc (ZT (Zbg ?_))
      refine Zc (Zbo (Zk ?_))
      have N5:=N4.keptH (h':=h5) (t':=t5) k5
      have gC5:=k5 _ _ pC.1
      obtain⟨oI5,hoI5,hoc5,hod5⟩:=id it3
      have it5:h5.IsListIter I l (j+1):=⟨oI5,k5 _ _ hoI5,hoc5,hod5⟩
      rw[eg] at K3
      cases bb with
      | true =>
       simp only[if_true]
       refine Zc ?_
       refine Zbn gC5 rfl (Zc (Zbo ?_))
       rw[Jfy]
       have N6:=N5.turned (h':=h5.update C (ZW λ _=>#[y,u])) (t':=t5) fC3 λ b o hb e=>(Zw _ _ (ZO hb)).trans e
       obtain⟨c2,hc2⟩:∃c2,(h5.update C (ZW λ _=>#[y,u])).get? C=Za (ZM "list" #[y,u] c2):=⟨_,Zbp gC5 λ _=>#[y,u]⟩
       refine Zk ⟨Zav ZQ _,ih (j+1) _ H3 ι3 h3 yv k y u c2 (by omega) (by omega) (by omega) N6 g3 hi3 fI3 fC3 ?_ hc2 ry3 ru K3⟩
       exact⟨oI5,(Zw _ _ (ZO hIC)).trans (k5 _ _ hoI5),hoc5,hod5⟩
      | false =>
       simp only[ZX,if_false]
       refine Zc (Zbo ?_)
       rw[Jfy]
       exact Zk ⟨Zav ZQ _,ih (j+1) _ H3 ι3 h3 b kb vb uk c (by omega) (by omega) (by omega) N5 g3 hi3 fI3 fC3 it5 gC5 (rb.mono n3) (rk.mono n3) K3⟩
    ·exact Zf K
   | _=>exact Zf K
theorem Jub (hh:A.handled=Zd)(cm:CmpK ce X A.in1 .Lt gt)(ko:XQ ce X A.in1 σi σ pj G (.ref fq) mk)(hG:∀H H',Ext H H'->G H->G H')(N:Now ce X pj ι σi h σ H z)(g:G H)(hi:ι[i]?=Za l) 
  (K:Kont ce X RU pj ι σi σ H (Xv gt mk i h) Q E):Zu (Z6 X.prog X.w) A (call (.builtin "min") [.ref l] [(ZaO "key",.ref fq)]) Q E z:=by
 unfold Xv at K
 cases eh:h[i]? with
 | none=>rw[eh] at K;exact Zf K
 | some ob =>
  rw[eh] at K
  cases ob with
  | lst ys =>
   dsimp only at K
   obtain⟨ws,e1,r3⟩:=N.at eh hi
   obtain⟨its,rv2,pl,_⟩:=N.inv.list (SqL.of e1)
   have hl:=pl.isList
   obtain⟨ol,hol,_⟩:=id hl
   have lt:l<z.heap.objs.size:=Zz hol
   have sz:its.toArray.size=ys.length:=by rw[Zx,<-rv2.length,r3.length]
   refine kmk_tree PySem.F.kind_min PySem.F.plain_min PySem.F.entry_min (kmk_min_key _ _) ?_
   show Zu _ A.in1 (ZaK "min" ["key","default"] 0 ⟨[],[(ZaO "key",.ref fq)]⟩>>=_) _ _ z
   refine Zc (Zed (show ZaK "min" ["key","default"] 0 ⟨[],[(ZaO "key",.ref fq)]⟩=pure [Za (.ref fq),Zd] from rfl) ?_)
   refine Zc (Zk ?_)
   refine Zc (ZaU hl ?_)
   refine Zc (ZbT ?_ (ZK _))
   rw[Jfy]
   have ne:l≠z.heap.objs.size:=Z3 lt
   have W:=ZcR (prog:=X.prog) (w:=X.w) (A:=A.in1) hh z.heap.objs.size l ne its.toArray
   have hS:(z.heap.push { cls:=.type "list_iterator",data:=.fields #[.ref l,.int 0 0] }).objs.size=z.heap.objs.size+1:=ZcS ..
   obtain⟨C,hC⟩:∃C,C=(z.heap.push { cls:=.type "list_iterator",data:=.fields #[.ref l,.int 0 0] }).objs.size:=⟨_,rfl⟩
   have hIC:z.heap.objs.size≠C:=by rw[hC,hS];exact Z3 (Zax _)
   have old:∀b o,z.heap.get? b=Za o->((z.heap.push { cls:=.type "list_iterator",data:=.fields #[.ref l,.int 0 0] }).push (ZM "list" #[] 0)).get? b=Za o:=λ b o e=>Ze _ (Ze _ e)
   have gI:((z.heap.push { cls:=.type "list_iterator",data:=.fields #[.ref l,.int 0 0] }).push (ZM "list" #[] 0)).get? z.heap.objs.size=Za { cls:=.type "list_iterator",data:=.fields #[.ref l,.int 0 0] }:=Ze _ (Zv _ rfl)
   have gC:((z.heap.push { cls:=.type "list_iterator",data:=.fields #[.ref l,.int 0 0] }).push (ZM "list" #[] 0)).get? C=Za (ZM "list" #[] 0):=by rw[hC];exact Zv _ rfl
   rw[<- hC]
   have fI:FpOk X pj H z.heap.objs.size:=N.inv.fpOk (Zr _) (N.inv.hok.fresh (Zr _))
   have fC:FpOk X pj H C:=N.inv.fpOk (by rw[hC,hS];exact ZaG _) (N.inv.hok.fresh (by rw[hC,hS];exact ZaG _))
   have N0:=N.keptH (t':=z.toks) old
   refine Zk ⟨Zav ZQ _,Zaa Zbk ?_⟩
   rw[ZG ZQ _]
   show Zu _ A.in1 (Zca (.ref _)>>=_) _ _ _
   refine Zc (Zba gC rfl ?_)
   show Zu _ A.in1 (tryCatch (Zbv (.ref z.heap.objs.size)) _>>=_) _ _ _
   cases e0:ys[0]? with
   | none=>rw[e0] at K;exact Zf K
   | some yv =>
    have h0:0<ys.length:=(Zt.mp e0).1
    rw[e0] at K
    dsimp only at K
    refine Zc (Za1 (W.item 0 _ _ _ (by rw[sz];exact h0) ⟨⟨_,gI,rfl,rfl⟩,(hl.push _).push _⟩ λ y h2 tk hP st2 keep=>?_))
    have ey:its[0]?=Za y:=by simpa using hP
    obtain⟨x,ex,rx⟩:=Jmf rv2 ey
    obtain⟨yv',eyv,qy⟩:=r3.get' ex
    rw[e0] at eyv
    cases eyv
    have gC2:=keep C _ (λ q=>hIC (Z5.mp q).symm) gC
    have N1:=N0.turned (h':=h2) (t':=tk) fI λ b o hb e=>keep b o (λ q=>hb (Z5.mp q)) e
    obtain⟨oI,hoI,hoc,hod⟩:=id st2.1
    have N2:=(N1.pinO gC2 fC λ v z=>by cases z).pinO hoI (FpOk.more (p:=(C,ZM "list" #[] 0)) fI (ZO hIC)) λ v z=>by rw[hod] at z;cases z
    rw[Zag] at N2
    show Zu _ A.in1 (tryCatch (Zci [y] (call (.ref fq) [y])) _>>=_) _ _ _
    refine Zc (Za1 (ZT (nof (ko _ _ _ _ _ yv y _ N2 g ⟨x,rx,qy⟩ (Jrm K λ k h3 u s3 H3 ι3 N3 n3 ru K3=>?_)))))
    have pC:=N3.inv.pin (C,ZM "list" #[] 0) (Zo _ (Zo _ (by simp)))
    have pI:=N3.inv.pin (z.heap.objs.size,oI) (Zo _ (Zo _ (by simp)))
    have N4:=N3.pins
    have fI3:=FpOk.at (H':=H3) fI pI.2.1
    have fC3:=FpOk.at (H':=H3) fC pC.2.1
    have ry3:RU X.K ι3 H3 yv y:=RU.mono n3 ⟨x,rx,qy⟩
    show Zu _ A.in1 (Zey C (λ _=>#[y,u])>>=_) _ _ _
    refine Zc ?_
    refine Zbn pC.1 rfl ?_
    rw[Jfy]
    have N6:=N4.turned (h':=s3.heap.update C (ZW λ _=>#[y,u])) (t':=s3.toks) fC3 λ b o hb e=>(Zw _ _ (ZO hb)).trans e
    obtain⟨c2,hc2⟩:∃c2,(s3.heap.update C (ZW λ _=>#[y,u])).get? C=Za (ZM "list" #[y,u] c2):=⟨_,Zbp pC.1 λ _=>#[y,u]⟩
    refine Zk ⟨Zav ZQ _,Juc hh cm ko hG (λ v s' q=>q) hIC (ys.length-1) 1 _ H3 ι3 h3 yv k y u c2 rfl (by omega) (by omega) N6 (hG _ _ n3.ext g) (n3.at hi) fI3 fC3 ?_ hc2 ry3 ru K3⟩
    exact⟨oI,(Zw _ _ (ZO hIC)).trans pI.1,hoc,hod⟩
  | _=>exact Zf K
end
def Xq (gt:IV->IV->Option Bool)(q:Str)(j:Nat)(js:List Nat)(aa:A1)(m:E1):E1:=λ σ h=>(aa σ h).bind λ xs h1=>match h1[j]? with
 | some (.tab q')=>if q'=q then(match xs with
  | [.ref i]=>Xv gt (λ v h'=>m (Za v::js.map λ j=>(σ[j]?).join) h') i h1
  | _=>.stuck) else .stuck
 | _=>.stuck
theorem Jz4 {k:Nat}{q x:Str}{caps:List Str}{js:List Nat}{j:Nat}{a body:Expr}{aa:A1}{m:E1}{lt:IV->IV->Option Bool}{params:Zcr}{scope:Zb1}{p lp pos kp:Pos}(hg:Gl X "min")(hm:X.mg "min"=Zd)(ha:PAi ce X [a] aa)(cm:∀A:ZJ,A.units+64<cLine->CmpK ce X A .Lt lt)(hs:ZE [a] X.env=[(Zm,Zbr a X.env)])
  (hr:Room (k+2) X.A)(hcd:W.codeIn X.K X.env.code q=Zj)(hq:X.env.qual=q++".<locals>.")(B:Qs X.mg X.base)(hx:Qo params=Za x)(S:LamSc X.N X.env.scope.names x caps js scope)
  (hb:∀f cd s' H',PEi ce (cxL X X.A.in1 (x::caps) q scope f cd s' H') body m) :
  PEi ce X (.Call (.Name "min" p) [a] [⟨Za "key",.Lambda params body scope lp,kp⟩] pos) (Xq lt q j js aa m):=λ pj s σ H ι σi h Q E N K=>by
 have hcl:Zdx scope X.env=pure (clOf X.env.cells scope.names []):=Jao λ y hm hk=>N.inv.ok.has y.1 (.inl (S.free y hm hk))
 refine Zac (Qh N.inv hg hm rfl ?_)
 refine Zfg ?_ (by rw[hs];rfl) (by rw[hs];rfl) rfl rfl
 refine(ha pos).run N K λ xs h1 us s1 H1 ι1 N1 n1 r1 K1=>?_
 cases ej:h1[j]? with
 | none=>rw[ej] at K1;exact Zf K1
 | some ob =>
  rw[ej] at K1
  cases ob with
  | tab q' =>
   dsimp only at K1
   split at K1
   ·rename_i eq
    subst eq
    refine Zbs (Zc (Jis N1 ej hcd hq (Jir hx) hcl B λ f c pm ctv s2 H2 N2 n2 LC=>Zc (ZbD (Zk ?_))))
    refine ZbU ?_
    have K3:=Kont.more (pl:=[(f,lamO q' params body scope (clOf X.env.cells scope.names []) pm ctv c)]) (Kont.mono K1 n2)
    obtain⟨vs,rv,qs⟩:=r1.mono n2
    match xs,K3 with
    | [.ref i],K3 =>
     obtain⟨w,rfl,ad,rfl,hav⟩:=qs.one_of
     obtain⟨u,rfl,ru⟩:=QE rv
     cases ru
     refine Jub (G:=λ H=>Qz H q' (.ref c)) (mk:=λ v h'=>m (Za v::js.map λ j=>(σi[j]?).join) h') hr.hd (cm _ hr.in1.units) ?_ (λ H H' e g=>g.mono e.frzs) N2 LC hav ?_
     ·intro pl s4 H4 ι4 h4 v u Q4 N4 g4 ru4 K4
      have pf:=N4.inv.pin (f,lamO q' params body scope (clOf X.env.cells scope.names []) pm ctv c) (Zo _ (ZY _ (Zo _ (Z5.mpr rfl))))
      exact Jly (A:=X.A.in1) N.inv.ok.frames hr.in1 N4 pf.1 g4 hx S (hb f (.ref c)) ru4 K4
     ·exact K3
    | [],K3=>exact Zf K3
    | [.non],K3=>exact Zf K3
    | [.bl _],K3=>exact Zf K3
    | [.int _],K3=>exact Zf K3
    | [.str _],K3=>exact Zf K3
    | [.tup _],K3=>exact Zf K3
    | [.rol _],K3=>exact Zf K3
    | x::_::_,K3=>cases x<;>exact Zf K3
   ·exact Zf K1
  | _=>exact Zf K1
end
def ltL:List Int->List Int->Bool
 | a::as,b::bs=>if a=b then ltL as bs else decide (a<b)
 | _,_=>Zm
abbrev ivl (l:List (Int×Tok)):List Zh:=l.map λ p=>.int p.1 p.2
section
open PySem.AutoSeq1 (wpAny_loadPart')
open PySem.MeetsSeq PySem.MeetsSeq2 PySem.MeetsSeq3 PySem.SeqRoads2
theorem Jpd (l b:Zq)(as bs:List (Int×Tok))(hl:as.length=bs.length)(n n2:Nat)(dd dd2:Option Zq)(sl sl2:Array (Option Zh)) :
  Meets (ZbO.«tuple.__lt__» ⟨[.ref l,.ref b],[]⟩)
   (λ A R s=>s.heap.get? l=Za { cls:=.type "tuple",dict:=dd,data:=.seq (ivl as).toArray n,slots:=sl }/\s.heap.get? b=Za { cls:=.type "tuple",dict:=dd2,data:=.seq (ivl bs).toArray n2,slots:=sl2 } /\
    R (.ok (.ret (.bool (ltL (as.map (·.1)) (bs.map (·.1)))))) s) :=
 .of_wp λ prog w A R s h=>by
  obtain⟨hp,g,d,tk,os⟩:=s;obtain⟨ho,hb,h⟩:=h
  have f2:=AutoSeq1.sub_tuple_tuple
  wp_walk using ZcM ho,ZcM hb,wpAny_forIn_list _ (λ rest b s'=>b.1=Zd/\s'=⟨hp,g,d,tk,os⟩/\∃xs ys:List (Int×Tok),xs.length=ys.length/\rest=(ivl xs).zip (ivl ys) /\
   R (.ok (.ret (.bool (ltL (xs.map (·.1)) (ys.map (·.1)))))) ⟨hp,g,d,tk,os⟩) _
  case turn =>
   rintro⟨y,x⟩ rest b s' ⟨hb',rfl,xs,ys,ll,hz,hR⟩
   match xs,ys,ll,hz,hR with
   | p::xs,q::ys,ll,hz,hR =>
    injection hz with hyx hrest
    have hy:ZbI p.1 p.2=y:=(congrArg Prod.fst hyx).symm
    have hx:ZbI q.1 q.2=x:=(congrArg Prod.snd hyx).symm
    subst hy hx
    refine Zc (wpAny_eqBool_int ?_)
    by_cases e:p.1=q.1
    ·rw[beq_iff_eq.mpr e]
     wp_walk
     exact⟨rfl,rfl,xs,ys,by simpa using ll,hrest,by simpa [ltL,e] using hR⟩
    ·rw[beq_eq_false_iff_ne.mpr e]
     have cmp:=CmpOf.ints_lt (prog:=prog) (w:=w) (A:=A.in1) (P:=λ i v=>∃t,v=.int (if i=0 then p.1 else q.1) t) (λ i=>if i=0 then p.1 else q.1) (λ _ _ q=>q)
     have hc:∀(Q:QvT)(E:QvT)(s:Zl),Q (.bool (decide (p.1<q.1))) s->Zu (Z6 prog w) A.in1 (Zda .Lt (.int p.1 p.2) (.int q.1 q.2)) Q E s:=λ Q E s h=>by
      have:=cmp 0 1 (.int p.1 p.2) (.int q.1 q.2) s Q E ⟨p.2,by simp⟩ ⟨q.2,by simp⟩
      simp only[if_true,show ¬(1:Nat)=0 by decide,if_false] at this
      exact this h
     show Zu _ A.in1 (rule _>>=λ _=>Zda .Lt (.int p.1 p.2) (.int q.1 q.2)>>=λ v=>ret v>>=λ f=>pure (ForInStep.done (Za f,()))) _ _ _
     refine Zc (Zdy (Zc (hc _ _ _ (Zc (Zk (Zk (Zk ⟨_,rfl,?_⟩)))))))
     simpa [ltL,e] using hR
   | [],ys,ll,hz,hR=>cases hz
   | _::_,[],ll,hz,hR=>cases hz
  case fin =>
   rintro⟨b1,b2⟩ s' ⟨hb',rfl,xs,ys,ll,hz,hR⟩
   simp only at hb'
   subst hb'
   match xs,ys,ll,hz,hR with
   | [],[],_,_,hR =>
    wp_walk
    exact⟨_,rfl,by simpa [Builtin.Tuple.tupleCompareSizes,hl,ltL] using hR⟩
   | _::_,_::_,_,hz,_=>cases hz
  case h =>
   exact⟨rfl,rfl,as,bs,hl,by simp,h⟩
end
theorem Jgr:∀{us:List Zh}{ns:List Int},Zbh us ns->∃l:List (Int×Tok),us=ivl l/\l.map (·.1)=ns
 | [],[],_=>⟨[],rfl,rfl⟩
 | [],_::_,h=>by cases h
 | _::_,[],h=>by cases h
 | u::us,n::ns,h=>by
  cases h
  rename_i t r
  obtain⟨l,e1,e2⟩:=Jgr r
  exact⟨(n,t)::l,by rw[e1];rfl,by rw[<- e2];rfl⟩
def ltT:IV->IV->Option Bool
 | .tup xs,.tup ys=>(match JA xs,JA ys with
  | some as,Za bs=>if as.length=bs.length then Za (ltL as bs) else Zd
  | _,_=>Zd)
 | _,_=>Zd
section
variable {ce:CeT}{X:Cx}
theorem J0j {A:ZJ}(hu:A.units<cLine)(N:Now ce X pj ι σi h σ H s)(r:RU X.K ι H k u)(rb:RU X.K ι H kb ub)(e:ltT k kb=Za b)(q:Q (.bool b) s):Zu (Z6 X.prog X.w) A (Zda .Lt u ub) Q E s:=by
 cases k with
 | tup xs =>
  cases kb with
  | tup ys =>
   obtain⟨x,rx,a,vs,rfl,sa,ra⟩:=r
   obtain⟨y,ry,c,ws,rfl,sc,rc⟩:=rb
   have ru:u=.ref a:=rx
   have rub:ub=.ref c:=ry
   subst ru rub
   unfold ltT at e
   dsimp only at e
   cases e1:JA xs with
   | none=>rw[e1] at e;cases e
   | some as =>
    cases e2:JA ys with
    | none=>rw[e1,e2] at e;cases e
    | some bs =>
     rw[e1,e2] at e
     dsimp only at e
     split at e
     ·rename_i hl
      cases e
      obtain⟨its,v1,⟨⟨cls,dd,data,sl⟩,ho,hc,n,hd⟩,_⟩:=N.inv.tuple sa
      obtain⟨jts,v2,⟨⟨cls2,dd2,data2,sl2⟩,ho2,hc2,n2,hd2⟩,_⟩:=N.inv.tuple sc
      simp only at hc hd hc2 hd2
      subst hc hd hc2 hd2
      obtain⟨l,rfl,rfl⟩:=Jgr (Vo e1 ra v1)
      obtain⟨m,rfl,rfl⟩:=Jgr (Vo e2 rc v2)
      exact richCompare_meets_room (op:=.Lt) ⟨_,ho,rfl⟩ ⟨_,ho2,rfl⟩ PySem.F.slot_tuple_lt PySem.F.entry_tuple_lt (PySem.F.args_tuple_lt_2 _ _) (Jpd a c l m (by simpa using hl) n n2 dd dd2 sl sl2)
       ⟨ho,ho2,show Zdv (ltL (l.map (·.1)) (m.map (·.1)))≠Value.notImplemented/\Q (.bool (ltL (l.map (·.1)) (m.map (·.1)))) s from⟨(λ x=>nomatch x),q⟩⟩ hu
     ·cases e
  | _=>cases e
 | _=>cases e
theorem Jw3 {A:ZJ}(hu:A.units<cLine):CmpK ce X A .Lt ltT:=λ _ _ _ _ _ _ s _ _ _ _ _ _ _ N r rb e q=>J0j hu N r rb e (q s.heap s.toks λ _ _ e=>e)
end
section
variable {pr:ZC}{wd:ZU}{B:ZJ}{R:Zeh->Zl->Prop}{it:Zq}{fps wrs:List Zq}{n:Nat}{St:Nat->Zar->Prop}
end
section
variable {pr:ZC}{wd:ZU}{B:ZJ}{E:QvT}{z:Zl}{l:Zq}{us:List Zh}{k:Nat}{f:Nat->List Int}{Q:QvT}
end
section
variable {ce:CeT}{X:Cx}
end
end L3
namespace L3
open PySem PySem.Spec PyProof.Rows L2 PySem.W
def Jv {α:Type}(lt:Nat->Nat->Bool):KasT α->α
 | .ret a=>a
 | .ask i j k=>Jv lt (k (lt i j))
def Asks {α:Type}(n:Nat)(P:α->Prop):KasT α->Prop
 | .ret a=>P a
 | .ask i j k=>i<n/\j<n/\∀b,Asks n P (k b)
theorem Asks.mono {α:Type}{n:Nat}{P P':α->Prop}(f:∀a,P a->P' a):∀{t:KasT α},Asks n P t->Asks n P' t
 | .ret _,h=>f _ h
 | .ask _ _ _,⟨h1,h2,h3⟩=>⟨h1,h2,λ b=>Asks.mono f (h3 b)⟩
theorem Asks.bind {α β:Type}{n:Nat}{P:α->Prop}{P':β->Prop}{f:α->KasT β}(hf:∀a,P a->Asks n P' (f a)):∀{t:KasT α},Asks n P t->Asks n P' (t.bind f)
 | .ret _,h=>hf _ h
 | .ask _ _ _,⟨h1,h2,h3⟩=>⟨h1,h2,λ b=>Asks.bind hf (h3 b)⟩
theorem Asks.run:∀{t:KasT α},Asks n P t->P (Jv lt t)
 | .ret _,h=>h
 | .ask i j k,⟨_,_,h⟩=>Asks.run (t:=k (lt i j)) (h (lt i j))
theorem Asks.wp {α:Type}{P:α->Prop}{Q:α->Zl->Prop}(hc:∀i j,i<n->j<n->∀C:Bool->Zl->Prop,C (lt i j) s->cmp i j C s) :
  ∀{t:KasT α},Asks n P t->Q (Jv lt t) s->t.kasWp cmp Q s
 | .ret _,_,q=>q
 | .ask i j k,⟨h1,h2,h3⟩,q=>hc i j h1 h2 _ (Asks.wp (t:=k (lt i j)) hc (h3 (lt i j)) q)
def Bd (n:Nat)(p:Array Nat):Prop:=0<n/\p.toList.Perm (Z9 n)
theorem Bd.at (h:Bd n p)(i:Nat):p.getD i 0<n:=by
 by_cases hi:i<p.size
 ·rw[Zbf,ZaQ hi]
  have:p[i]∈p.toList:=by simp
  exact ZR.mp (h.2.mem_iff.mp this)
 ·rw[Zbf,Zdl (by omega)]
  exact h.1
theorem Jh1 {n:Nat}{p:Array Nat}(h:Bd n p):∀f m,Asks n (λ _=>True) (Zck p f m)
 | 0,_=>trivial
 | f+1,m=>⟨h.at _,h.at _,λ b=>by
   dsimp only
   split
   ·trivial
   ·exact Jh1 h f _⟩
theorem Jes {n:Nat}{p:Array Nat}(h:Bd n p)(k:Nat):∀f l r,Asks n (λ _=>True) (ZdN p k f l r)
 | 0,_,_=>trivial
 | f+1,l,r=>by
  unfold ZdN
  split
  ·trivial
  ·exact⟨h.at _,h.at _,λ b=>by
    dsimp only
    split
    ·exact Jes h k f _ _
    ·exact Jes h k f _ _⟩
theorem Bd.perm {p q:Array Nat}(h:Bd n p)(r:q.Perm p):Bd n q:=⟨h.1,(Array.perm_iff_toList_perm.mp r).trans h.2⟩
theorem Bd.rev (h:Bd n p)(i j:Nat):Bd n (ZbW p i j):=h.perm (mirror_perm _ _ _ _)
theorem Jdr:∀f (p:Array Nat) m q,Bd n p->Asks n (λ r=>Bd n r.1) (Zd6 f p m q)
 | 0,_,_,_,h=>h
 | f+1,p,m,q,h=>⟨h.at _,h.at _,λ b=>by
   dsimp only
   split
   ·split
    ·exact Jdr f _ _ _ (h.rev _ _)
    ·exact Jdr f _ _ _ h
   ·exact⟨h.at _,h.at _,λ d=>by
     dsimp only
     split
     ·exact h
     ·exact Jdr f _ _ _ h⟩⟩
theorem Jhp {n:Nat}{p:Array Nat}(h:Bd n p)(m r:Nat):Asks n (λ r=>Bd n r.2) (Zfn m r p):=by
 unfold Zfn
 refine Asks.bind (P:=λ _=>True) (λ x _=>?_) (Jh1 (h.rev _ _) _ _)
 exact h.rev _ _
theorem Jds {n:Nat}{p:Array Nat}(h:Bd n p)(m r:Nat):Asks n (λ r=>Bd n r.2) (Zdm m r p) :=
 Asks.bind (λ x hx=>by
  split
  ·exact Jhp (hx.rev _ _) _ _
  ·exact Jhp hx _ _) (Jdr _ _ _ _ h)
theorem Jog {n:Nat}{p:Array Nat}(h:Bd n p)(r:Nat):Asks n (λ r=>Bd n r.2) (Ze0 r p) :=
 Asks.bind (λ m _=>by
  split
  ·exact h
  ·split
   ·exact⟨h.at _,h.at _,λ b=>by
     dsimp only
     split
     ·exact h
     ·exact Jds (h.rev _ _) _ _⟩
   ·exact Jds h _ _) (Jh1 h _ _)
theorem Jmi {n:Nat}:∀f (p:Array Nat) k,Bd n p->Asks n (Bd n) (kas_bin f p k)
 | 0,_,_,h=>h
 | f+1,p,k,h=>Asks.bind (λ l _=>Jmi f _ _ (h.perm (bubble_perm _ _ _))) (Jes h k _ _ _)
theorem Jf9 {n:Nat}(hn:0<n):Asks n (Bd n) (Zcq n) :=
 Asks.bind (λ r hr=>by
  split
  ·exact Jmi _ _ _ hr
  ·exact hr) (Jog ⟨hn,Zcy _⟩ n)
section
variable {prog:ZC}{w:ZU}{A:ZJ}{E:QvT}{s:Zl}{b:Bool}{Q:Bool->Zl->Prop}
end
theorem Ju2 (vs:List Zh)(h:vs.length<2):(Jv lt (Zcq vs.length)).toList.map (λ i=>vs.getD i ZV)=vs:=by
 match vs,h with
 | [],_=>simp[Zcq,Ze0,Zck,KasT.bind,Zdm,Zd6,Zfn,Jv,ZbW,mirror,Array.swapIfInBounds]
 | [v],_ =>
  have:=(Jf9 (n:=1) (by decide)).run (lt:=lt)
  have e:(Jv lt (Zcq 1)).toList=[0]:=List.perm_singleton.mp this.2
  show(Jv lt (Zcq 1)).toList.map _=_
  rw[e]
  rfl
 | _::_::_,h=>simp at h;omega
section
variable {prog:ZC}{w:ZU}{A:ZJ}{E:QvT}{s:Zl}
end
theorem Jle (r:Vals vs us):∀p:List Nat,(∀i∈p,i<vs.length)->Vals (p.map λ i=>vs.getD i .non) (p.map λ i=>us.getD i ZV)
 | [],_=>.nil
 | i::p,h=>by
  have hi:=h i (Z0 ..)
  obtain⟨u,eu,ru⟩:=r.get (Zb hi)
  refine .cons ?_ (Jle r p λ j hj=>h j (Zi _ hj))
  show L2.RelV (vs.getD i .non) (us.getD i ZV)
  rw[Zg,Zg,Zb hi,eu]
  exact ru
theorem Jm4 {K:W.Frag}{ι:List Zq}{H:Hp}{xs:List IV}{vs:List V}(r:RVs K ι H xs vs):∀p:List Nat,(∀i∈p,i<xs.length)->RVs K ι H (p.map λ i=>xs.getD i .non) (p.map λ i=>vs.getD i .non)
 | [],_=>rfl
 | i::p,h=>by
  have hi:=h i (Z0 ..)
  obtain⟨v,ev,rv⟩:=r.get (Zb hi)
  refine⟨_,_,rfl,?_,Jm4 r p λ j hj=>h j (Zi _ hj)⟩
  show RV K ι H (xs.getD i .non) (vs.getD i .non)
  rw[Zg,Zg,Zb hi,ev]
  exact rv
section
variable {ce:CeT}{X:Cx}
end
theorem Xu {α β:Type}{lt:Nat->Nat->Bool}{f:α->KasT β}:∀(t:KasT α),Jv lt (t.bind f)=Jv lt (f (Jv lt t))
 | .ret _=>rfl
 | .ask i j k=>Xu (k (lt i j))
section
variable {kf:Nat->Int}{p:Array Nat}{n i j:Nat}
abbrev ltF (kf:Nat->Int)(i j:Nat):Bool:=decide (kf i<kf j)
def kAt (kf:Nat->Int)(p:Array Nat)(i:Nat):Int:=kf (p.getD i 0)
def Ris (kf:Nat->Int)(p:Array Nat)(n:Nat):Prop:=∀i j,i<=j->j<n->kAt kf p i<=kAt kf p j
def Fal (kf:Nat->Int)(p:Array Nat)(n:Nat):Prop:=∀i j,i<=j->j<n->kAt kf p j<=kAt kf p i
theorem Yf (h:p[i]?=q[j]?):kAt kf p i=kAt kf q j:=by
 unfold kAt
 rw[Zbf,Zbf,h]
theorem Jlx (hj:j<=p.size)(m:Nat):kAt kf (ZbW p i j) m=if i<=m/\m<j then kAt kf p (i+j-1-m) else kAt kf p m:=by
 have e:=getElem?_mirror_all (i:=i) hj m
 split at e
 ·rename_i c;rw[if_pos c];exact Yf e
 ·rename_i c;rw[if_neg c];exact Yf e
theorem Jq6 (hs:k<p.size)(hd:d<=k)(m:Nat):kAt kf (bubble p k d) m=if m=k-d then kAt kf p k else if k-d<m/\m<=k then kAt kf p (m-1) else kAt kf p m:=by
 have e:=getElem?_bubble hs d hd m
 split at e
 ·rename_i c;rw[if_pos c];exact Yf e
 ·rename_i c
  rw[if_neg c]
  split at e
  ·rename_i c;rw[if_pos c];exact Yf e
  ·rename_i c;rw[if_neg c];exact Yf e
theorem Jez (hj:j<=p.size)(h:∀m,i<=m->m<j->kAt kf p m=kAt kf p (j-1))(m:Nat):kAt kf (ZbW p i j) m=kAt kf p m:=by
 rw[Jlx hj]
 split
 ·rw[h _ (by omega) (by omega),h m (by omega) (by omega)]
 ·rfl
theorem Ris.succ (h:Ris kf p n)(h1:1<=n)(q:kAt kf p (n-1)<=kAt kf p n):Ris kf p (n+1):=λ i j hij hj=>by
 by_cases e:j<n
 ·exact h i j hij e
 ·obtain rfl:j=n:=by omega
  by_cases e2:i=j
  ·subst e2;exact Zap _
  ·exact Zc5 (h i (j-1) (by omega) (by omega)) q
theorem Fal.succ (h:Fal kf p n)(h1:1<=n)(q:kAt kf p n<=kAt kf p (n-1)):Fal kf p (n+1):=λ i j hij hj=>by
 by_cases e:j<n
 ·exact h i j hij e
 ·obtain rfl:j=n:=by omega
  by_cases e2:i=j
  ·subst e2;exact Zap _
  ·exact Zc5 q (h i (j-1) (by omega) (by omega))
theorem Jl6:∀(f n:Nat),1<=n->Ris kf p n->n<=Jv (ltF kf) (Zck p f n)/\Jv (ltF kf) (Zck p f n)<=n+f/\Ris kf p (Jv (ltF kf) (Zck p f n))/\(Jv (ltF kf) (Zck p f n)=n+f∨kAt kf p (Jv (ltF kf) (Zck p f n))<kAt kf p (Jv (ltF kf) (Zck p f n)-1))
 | 0,n,_,h=>⟨Zr _,Zr _,h,.inl rfl⟩
 | f+1,n,h1,h=>by
  show n<=Jv (ltF kf) (if decide (kAt kf p n<kAt kf p (n-1))=Zj then .ret n else Zck p f (n+1))/\_
  have e:Jv (ltF kf) (Zck p (f+1) n)=Jv (ltF kf) (if decide (kAt kf p n<kAt kf p (n-1))=Zj then .ret n else Zck p f (n+1)):=rfl
  rw[e]
  split
  ·rename_i c
   exact⟨Zr _,by show n<=_;omega,h,.inr (of_decide_eq_true c)⟩
  ·rename_i c
   have c:¬kAt kf p n<kAt kf p (n-1):=by simpa using c
   obtain⟨a,b,d,g⟩:=Jl6 f (n+1) (by omega) (h.succ h1 (by omega))
   exact⟨by omega,by omega,d,g.imp (λ z=>by omega) id⟩
structure Dn (kf:Nat->Int)(p:Array Nat)(n q:Nat):Prop where
 f:Fal kf p n
 q1:q+1<=n
 e:∀m,n-(q+1)<=m->m<n->kAt kf p m=kAt kf p (n-1)
theorem Jf1:∀(f:Nat)(p:Array Nat)(n q:Nat),p.size=z->n+f<=z->Dn kf p n q->∀r,Jv (ltF kf) (Zd6 f p n q)=r->r.1.size=z/\n<=r.2.1/\r.2.1<=n+f/\Dn kf r.1 r.2.1 r.2.2
 | 0,p,n,q,hz,hf,d,r,e=>by subst e;exact⟨hz,Zr _,Zr _,d⟩
 | f+1,p,n,q,hz,hf,d,r,e=>by
  have dq:=d.q1
  have e':Jv (ltF kf) (if decide (kAt kf p n<kAt kf p (n-1))=Zj then(if q>0 then Zd6 f (ZbW p (n-(q+1)) n) (n+1) 0 else Zd6 f p (n+1) 0)
   else .ask (p.getD (n-1) 0) (p.getD n 0) λ d=>if d=Zj then .ret (p,n,q) else Zd6 f p (n+1) (q+1))=r:=e
  split at e'
  ·rename_i c
   have c:kAt kf p n<kAt kf p (n-1):=by simpa using c
   split at e'
   ·have same:=λ m=>Jez (kf:=kf) (i:=n-(q+1)) (j:=n) (p:=p) (by omega) d.e m
    have d2:Dn kf (ZbW p (n-(q+1)) n) (n+1) 0:=by
     refine⟨λ i j hij hj=>?_,by omega,λ m h1 h2=>by rw[show m=n+1-1 by omega]⟩
     rw[same,same]
     exact d.f.succ (by omega) (by omega) i j hij hj
    obtain⟨a1,a2,a3,a4⟩:=Jf1 f _ (n+1) 0 ((Zd7 _ _ _ _).trans hz) (by omega) d2 r e'
    exact⟨a1,by omega,by omega,a4⟩
   ·have d2:Dn kf p (n+1) 0:=⟨d.f.succ (by omega) (by omega),by omega,λ m h1 h2=>by rw[show m=n+1-1 by omega]⟩
    obtain⟨a1,a2,a3,a4⟩:=Jf1 f _ (n+1) 0 hz (by omega) d2 r e'
    exact⟨a1,by omega,by omega,a4⟩
  ·rename_i c
   have c:¬kAt kf p n<kAt kf p (n-1):=by simpa using c
   have e'':Jv (ltF kf) (if decide (kAt kf p (n-1)<kAt kf p n)=Zj then .ret (p,n,q) else Zd6 f p (n+1) (q+1))=r:=e'
   split at e''
   ·subst e''
    exact⟨hz,Zr _,by show n<=_;omega,d⟩
   ·rename_i c2
    have c2:¬kAt kf p (n-1)<kAt kf p n:=by simpa using c2
    have d2:Dn kf p (n+1) (q+1):=by
     refine⟨d.f.succ (by omega) (by omega),by omega,λ m h1 h2=>?_⟩
     by_cases em:m=n
     ·subst em;rfl
     ·rw[d.e m (by omega) (by omega)]
      show _=kAt kf p n
      omega
    obtain⟨a1,a2,a3,a4⟩:=Jf1 f _ (n+1) (q+1) hz (by omega) d2 r e''
    exact⟨a1,by omega,by omega,a4⟩
theorem Jkx {m r:Nat}(h1:1<=m)(hm:m<=r)(hr:r<=p.size)(h:Fal kf p m):∀x,Jv (ltF kf) (Zfn m r p)=x->x.2.size=p.size/\1<=x.1/\x.1<=r/\Ris kf x.2 x.1:=by
 intro x e
 have e:Jv (ltF kf) ((Zck (ZbW p 0 m) (r-m) m).bind λ k=>.ret (k,ZbW p 0 m))=x:=e
 rw[Xu] at e
 have rs:Ris kf (ZbW p 0 m) m:=λ i j hij hj=>by
  rw[Jlx (by omega),Jlx (by omega),if_pos (by omega),if_pos (by omega)]
  exact h _ _ (by omega) (by omega)
 obtain⟨a,b,c,_⟩:=Jl6 (r-m) m h1 rs
 subst e
 exact⟨Zd7 _ _ _ _,by show 1<=Jv (ltF kf) (Zck (ZbW p 0 m) (r-m) m);omega,by show Jv (ltF kf) (Zck (ZbW p 0 m) (r-m) m)<=r;omega,c⟩
theorem Jfh {m r:Nat}(hm:m+1<=r)(hr:r<=p.size)(h:Fal kf p (m+1)):∀x,Jv (ltF kf) (Zdm m r p)=x->x.2.size=p.size/\1<=x.1/\x.1<=r/\Ris kf x.2 x.1:=by
 intro x e
 unfold Zdm at e
 rw[Xu] at e
 obtain⟨a1,a2,a3,a4⟩:=Jf1 (z:=p.size) (r-(m+1)) p (m+1) 0 rfl (by omega) ⟨h,by omega,λ k h1 h2=>by rw[show k=m+1-1 by omega]⟩ _ rfl
 generalize Jv (ltF kf) (Zd6 (r-(m+1)) p (m+1) 0)=y at a1 a2 a3 a4 e
 have q1:=a4.q1
 split at e
 ·have same:=λ k=>Jez (kf:=kf) (i:=y.2.1-(y.2.2+1)) (j:=y.2.1) (p:=y.1) (by omega) a4.e k
  have:=Jkx (m:=y.2.1) (r:=r) (p:=ZbW y.1 (y.2.1-(y.2.2+1)) y.2.1) (by omega) (by omega) (by show r<=(mirror _ _ _ _).size;rw[Zd7];omega) (λ i j hij hj=>by rw[same,same];exact a4.f i j hij hj) x e
  rw[show(ZbW y.1 (y.2.1-(y.2.2+1)) y.2.1).size=y.1.size from Zd7 _ _ _ _,a1] at this
  exact this
 ·have:=Jkx (m:=y.2.1) (r:=r) (p:=y.1) (by omega) (by omega) (by omega) a4.f x e
  rw[a1] at this
  exact this
theorem Jr0 {r:Nat}(h1:1<=r)(hr:r<=p.size):∀x,Jv (ltF kf) (Ze0 r p)=x->x.2.size=p.size/\1<=x.1/\x.1<=r/\Ris kf x.2 x.1:=by
 intro x e
 unfold Ze0 at e
 rw[Xu] at e
 obtain⟨a,b,c,d⟩:=Jl6 (kf:=kf) (p:=p) (r-1) 1 (Zr _) (λ i j hij hj=>by
  obtain rfl:j=0:=by omega
  obtain rfl:i=0:=by omega
  exact Zap _)
 generalize Jv (ltF kf) (Zck p (r-1) 1)=n at a b c d e
 split at e
 ·subst e;exact⟨rfl,a,by show n<=r;omega,c⟩
 ·rename_i hn
  have hn:n≠r:=by simpa using hn
  have dn:kAt kf p n<kAt kf p (n-1):=d.resolve_left (by omega)
  split at e
  ·have e':Jv (ltF kf) (if decide (kAt kf p 0<kAt kf p (n-1))=Zj then .ret (n,p) else Zdm n r (ZbW p 0 n))=x:=e
   split at e'
   ·subst e';exact⟨rfl,a,by show n<=r;omega,c⟩
   ·rename_i cc
    have cc:¬kAt kf p 0<kAt kf p (n-1):=by simpa using cc
    have al:∀m,0<=m->m<n->kAt kf p m=kAt kf p (n-1):=λ m _ hm=>by
     have:=c 0 m (by omega) hm
     have:=c m (n-1) (by omega) (by omega)
     omega
    have same:=λ k=>Jez (kf:=kf) (i:=0) (j:=n) (p:=p) (by omega) al k
    have:=Jfh (m:=n) (r:=r) (p:=ZbW p 0 n) (by omega) (by show r<=(mirror _ _ _ _).size;rw[Zd7];omega) (λ i j hij hj=>by
     rw[same,same]
     by_cases ej:j<n
     ·rw[al i (by omega) (by omega),al j (by omega) ej];exact Zap _
     ·obtain rfl:j=n:=by omega
      by_cases ei:i=j
      ·subst ei;exact Zap _
      ·rw[al i (by omega) (by omega)];omega) x e'
    rw[show(ZbW p 0 n).size=p.size from Zd7 _ _ _ _] at this
    exact this
  ·obtain rfl:n=1:=by omega
   refine Jfh (m:=1) (r:=r) (p:=p) (by omega) hr (λ i j hij hj=>?_) x e
   have dn:kAt kf p 1<kAt kf p 0:=dn
   match i,j with
   | 0,0=>exact Zap _
   | 0,1=>omega
   | 1,1=>exact Zap _
   | _,j+2=>omega
   | i+2,_=>omega
   | 1,0=>omega
theorem Jg0 (h:Ris kf p k):∀(f l r:Nat),r<=k->l<=r->r-l<=f->(∀i,i<l->kAt kf p i<=kAt kf p k)->(∀i,r<=i->i<k->kAt kf p k<kAt kf p i)->∀x,Jv (ltF kf) (ZdN p k f l r)=x->x<=k/\(∀i,i<x->kAt kf p i<=kAt kf p k)/\∀i,x<=i->i<k->kAt kf p k<kAt kf p i
 | 0,l,r,hr,hl,hf,h1,h2,x,e=>by
  obtain rfl:l=r:=by omega
  subst e
  exact⟨hr,h1,h2⟩
 | f+1,l,r,hr,hl,hf,h1,h2,x,e=>by
  unfold ZdN at e
  split at e
  ·obtain rfl:l=r:=by omega
   subst e
   exact⟨hr,h1,h2⟩
  ·have e':Jv (ltF kf) (if decide (kAt kf p k<kAt kf p ((l+r)/2))=Zj then ZdN p k f l ((l+r)/2) else ZdN p k f ((l+r)/2+1) r)=x:=e
   split at e'
   ·rename_i c
    have c:kAt kf p k<kAt kf p ((l+r)/2):=by simpa using c
    exact Jg0 h f _ _ (by omega) (by omega) (by omega) h1 (λ i a b=>Int.lt_of_lt_of_le c (h _ _ a b)) x e'
   ·rename_i c
    have c:¬kAt kf p k<kAt kf p ((l+r)/2):=by simpa using c
    exact Jg0 h f _ _ hr (by omega) (by omega) (λ i a=>Zc5 (h i _ (show i<=(l+r)/2 by omega) (by omega)) (by omega)) h2 x e'
theorem Jrz:∀(f:Nat)(p:Array Nat)(k:Nat),k+f<=p.size->Ris kf p k->∀x,Jv (ltF kf) (kas_bin f p k)=x->Ris kf x (k+f)
 | 0,p,k,_,h,x,e=>by subst e;exact h
 | f+1,p,k,hk,h,x,e=>by
  unfold kas_bin at e
  rw[Xu] at e
  obtain⟨a,b,c⟩:=Jg0 h k 0 k (Zr _) (ZK _) (Zr _) (λ i q=>by omega) (λ i q r=>by omega) _ rfl
  generalize Jv (ltF kf) (ZdN p k k 0 k)=l at a b c e
  have:=Jrz f (bubble p k (k-l)) (k+1) (by rw[bubble_size];omega) (λ i j hij hj=>by
   have ed:k-(k-l)=l:=by omega
   rw[Jq6 (by omega) (by omega),Jq6 (by omega) (by omega),ed]
   split
   ·rename_i ei
    split
    ·exact Zap _
    ·split
     ·exact Int.le_of_lt (c _ (by omega) (by omega))
     ·omega
   ·split
    ·rename_i n1 y
     split
     ·omega
     ·split
      ·exact h _ _ (by omega) (by omega)
      ·omega
    ·split
     ·exact b i (by omega)
     ·split
      ·exact h _ _ (by omega) (by omega)
      ·exact h _ _ hij (by omega)) x e
  rwa [show k+(f+1)=k+1+f by omega]
theorem Juj {n:Nat}(hn:0<n):Ris kf (Jv (ltF kf) (Zcq n)) n:=by
 unfold Zcq
 rw[Xu]
 have hz:(Zat (Z9 n)).size=n:=by simp
 obtain⟨a,b,c,d⟩:=Jr0 (kf:=kf) (p:=Zat (Z9 n)) (r:=n) (by omega) (by rw[hz];exact Zr _) _ rfl
 generalize Jv (ltF kf) (Ze0 n (Zat (Z9 n)))=y at a b c d
 rw[hz] at a
 split
 ·have em:max y.1 1=y.1:=by omega
  rw[em]
  have:=Jrz (kf:=kf) (n-y.1) y.2 y.1 (by omega) d _ rfl
  rwa [show y.1+(n-y.1)=n by omega] at this
 ·obtain e:y.1=n:=by omega
  rw[<- e]
  exact d
end
def ordK (ks:List Int)(n:Nat):List Nat:=(Jv (ltF λ i=>ks.getD i 0) (Zcq n)).toList
theorem Jel (ks:List Int)(hn:0<n):(ordK ks n).Perm (Z9 n):=((Jf9 hn).run (lt:=ltF λ i=>ks.getD i 0)).2
theorem Yo (ks:List Int):ordK ks 0=[]:=by simp[ordK,Zcq,Ze0,Zck,KasT.bind,Zdm,Zd6,Zfn,Jv,ZbW,mirror,Array.swapIfInBounds]
theorem V9 (ks:List Int):∀i∈ordK ks n,i<n:=by
 intro i hi
 rcases Zcl n with e|e
 ·subst e
  rw[Yo] at hi
  cases hi
 ·exact ZR.mp ((Jel ks e).mem_iff.mp hi)
theorem Jmz (ks:List Int)(n:Nat):(ordK ks n).length=n:=by
 rcases Zcl n with e|e
 ·subst e
  rw[Yo]
  rfl
 ·rw[(Jel ks e).length_eq,ZaX]
theorem Jm0 (ks:List Int)(n:Nat):(ordK ks n).Pairwise λ i j=>ks.getD i 0<=ks.getD j 0:=by
 rcases Zcl n with e|e
 ·subst e
  rw[Yo]
  exact .nil
 ·have r:=Juj (kf:=λ i=>ks.getD i 0) e
  have l:=Jmz ks n
  rw[ZcA]
  intro i j hi hj hij
  have:=r i j (by omega) (by omega)
  have g:∀(m:Nat)(hm:m<(ordK ks n).length),(Jv (ltF λ i=>ks.getD i 0) (Zcq n)).getD m 0=(ordK ks n)[m]:=λ m hm=>by
   have hm':m<(Jv (ltF λ i=>ks.getD i 0) (Zcq n)).size:=by rw[<- ZP];exact hm
   rw[Zbf,ZaQ hm']
   rfl
  unfold kAt at this
  rw[g i hi,g j hj] at this
  exact this
theorem Jqy {X:Cx}{pj:PnT}{σ:L2.St}{H:Hp}{s:Zl}{h':Zar}{t':Nat}{it:Zq}{o:HO}(I:Inv X pj σ H s)(k:∀b u,b≠it->s.heap.get? b=Za u->h'.get? b=Za u)(F:FpOk X pj H it)(new:JC X.prog X.w (upd H it o) h' it o) :
  Inv X pj σ (upd H it o) { s with heap:=h',toks:=t' }:=by
 obtain⟨hn,hL,_,h1,h2,h3⟩:=F
 have nit:∀b u,H b=Za u->b≠it:=λ b u e z=>by rw[z,hn] at e;cases e
 refine I.step (g':=s.gens) (d':=s.drawn) (ch:=[it]) (λ b hb=>?_) (λ b o _ _ hc e _=>k b o (λ z=>hc (by simp[z])) e) (λ b o _ _ hc e _=>⟨o.slots,k b o (λ z=>hc (by simp[z])) e⟩) (λ b o hc _ n=>by rw[Jo (λ z=>hc (by simp[z]))];exact n)
  (λ b o hc e=>⟨o,k b o (λ z=>hc (by simp[z])) e⟩) (λ b _ e=>by rw[Jo (nit b _ e)];exact e) (λ b _ _ e=>by rw[Jo (nit b _ e)];exact e) (λ b ps e=>⟨#[],by rw[Jo (nit b _ e),e];simp⟩) (λ m hm=>?_) (λ b u e=>?_) I.bare
 ·have e:b=it:=by simpa using hb
  subst e
  exact⟨h1,hL,h2,h3⟩
 ·obtain⟨o,es,ep,ho,r⟩:=hm
  exact⟨o,es,ep,k _ o (ZO hL) ho,r⟩
 ·by_cases hb:b=it
  ·subst hb
   rw[J0] at e
   cases e
   exact new
  ·rw[Jo hb] at e
   refine(I.hok b u e).stay (λ c v hc q=>k c v ?_ q) (λ c q=>by rw[Jo (nit c _ q)];exact q) λ c _ q=>by rw[Jo (nit c _ q)];exact q
   rcases hc with z|z
   ·rw[z];exact hb
   ·exact nit c _ z
def Qn (mk:IV->IH->Res IV):List IV->List Int->IH->Res (List Int)
 | [],ks,h=>.ok ks h
 | y::r,ks,h=>(mk y h).nx.bind λ k h'=>match k with
  | .int n=>Qn mk r (ks++[n]) h'
  | _=>.stuck
def rvB {α:Type}(b:Bool)(l:List α):List α:=if b then l.reverse else l
theorem QK {α:Type}{b:Bool}{l:List α}:(rvB b l).length=l.length:=by cases b;rfl;exact ZcD
def Yt (b:Bool)(ys:List IV)(ks:List Int)(h:IH):Res IV:=.ok (.ref h.length) (h++[.lst (rvB b ((ordK ks ys.length).map λ i=>ys.getD i .non))])
def Xa (b:Bool)(ys:List IV)(ks:List Int)(h:IH):Res IV:=Yt b (rvB b ys) (rvB b ks) h
theorem RVs.rvB {K:W.Frag}{ι:List Zq}{H:Hp}{b:Bool}{xs:List IV}{vs:List V}(h:RVs K ι H xs vs):RVs K ι H (L3.rvB b xs) (L3.rvB b vs):=by cases b;exact h;exact h.rev
theorem Jns {b:Bool}{ws:List V}{its:List Zh}(h:Vals ws its):Vals (rvB b ws) (rvB b its):=by
 cases b
 ·exact h
 ·exact h.reverse
def XC (mk:IV->IH->Res IV)(i:Nat)(h:IH):Res IV:=match h[i]? with
 | some (.lst ys)=>if ys.length<64 then(Qn mk ys [] h).bind (Xa Zm ys) else .stuck
 | _=>.stuck
section
variable {ce:CeT}{X:Cx}
section
variable {A:ZJ}{Q:QvT}{E:QvT}{P:PySem.Fin->Zl->Prop}{pj:PnT}{σi:ISt}{σ:L2.St}{G:Hp->Prop}{fq D kS:Zq}{mk:IV->IH->Res IV}{ys:List IV}{ws:List V}{its:List Zh}{ks:List Int}{e e1:Nat}{H:Hp}{ι:List Zq}{h:IH}{s:Zl}
theorem Jnb {b:Bool}{kA:Array Zh}{st:SortSt}(N:Now ce X pj ι σi h σ H s)(fD:FpOk X pj H D)(fK:FpOk X pj H kS)(hDK:D≠kS)(gD:s.heap.get? D=Za (ZM "list" #[] e1))(gK:s.heap.get? kS=Za (ZM "list" kA e))(hz:kA.size<64)
  (rv:Vals ws its)(r3:RVs X.K ι H ys ws)(h64:ys.length<64)(hout:(arrOf st).map (·.2)=Zat ((ordK ks ys.length).map λ i=>its.getD i ZV))(hf:failedOf st=Zd)(hP:∀s',Q (.ref D) s'->P (.done (.ret .none)) s')(K:Kont ce X RU pj ι σi σ H (Yt b ys ks h) Q E) :
  Zu (Z6 X.prog X.w) A (ksk_tail D b e1 (.ref kS) st) P E s:=by
 have lo:=Jmz ks ys.length
 have lt:=V9 ks (n:=ys.length)
 have l1:=r3.length
 have l2:=rv.length
 have s1:∀b u,b≠kS->s.heap.get? b=Za u->(s.heap.update kS (ZW λ _=>(#[]:Array Zh))).get? b=Za u:=λ b u nb q=>(Zw _ _ (ZO nb)).trans q
 have gD1:=s1 D _ hDK gD
 have N1:=N.turned (h':=s.heap.update kS (ZW λ _=>(#[]:Array Zh))) (t':=s.toks) fK s1
 have hsz:(Zat (rvB b ((ordK ks ys.length).map λ i=>its.getD i ZV))).size=ys.length:=by rw[Zx,QK,Zn,lo]
 have hrv:(if b=Zj then(Zat ((ordK ks ys.length).map λ i=>its.getD i ZV)).reverse else Zat ((ordK ks ys.length).map λ i=>its.getD i ZV))=Zat (rvB b ((ordK ks ys.length).map λ i=>its.getD i ZV)):=by cases b<;>simp[rvB]
 unfold ksk_tail
 try dsimp only
 rw[hout,hrv]
 refine Zc (ZcI gK rfl ?_ (by rw[ZaL];omega) (ZK _))
 refine Zc (Zbo ?_)
 refine Zc (seqEpoch_at gD1 rfl ?_)
 refine Zc (ZcI gD1 rfl ?_ (ZK _) (by rw[hsz,ZaL];omega))
 rw[hf]
 simp only[bne_self_eq_false,ZX,if_false]
 refine Zk (hP _ ?_)
 obtain⟨c2,hc2⟩:∃c2,((s.heap.update kS (ZW λ _=>(#[]:Array Zh))).update D (ZW λ _=>Zat (rvB b ((ordK ks ys.length).map λ i=>its.getD i ZV)))).get? D=Za (ZM "list" (Zat (rvB b ((ordK ks ys.length).map λ i=>its.getD i ZV))) c2):=⟨_,Zbp gD1 λ _=>Zat (rvB b ((ordK ks ys.length).map λ i=>its.getD i ZV))⟩
 have hl:(rvB b ((ordK ks ys.length).map λ i=>ws.getD i V.non)).length<=sizeLine:=by rw[QK,Zn,lo,ZaL];omega
 have I':=Jqy N1.inv (o:=.lst (rvB b ((ordK ks ys.length).map λ i=>ws.getD i V.non))) (h':=(s.heap.update kS (ZW λ _=>(#[]:Array Zh))).update D (ZW λ _=>Zat (rvB b ((ordK ks ys.length).map λ i=>its.getD i ZV)))) (t':=s.toks) (λ b u nb q=>(Zw _ _ (ZO nb)).trans q) fD
  ⟨hl,rvB b ((ordK ks ys.length).map λ i=>its.getD i ZV),c2,Jns (Jle rv _ (λ i hi=>by have:=lt i hi;omega)),hc2⟩
 exact finA N1 K D fD.1 ⟨_,J0,RVs.new fD.1 (Jm4 r3 _ lt).rvB⟩ _ _ I' rfl
theorem Juk {b:Bool}{us:List Zh}{ns:List Int}(h:Zbh us ns):Zbh (rvB b us) (rvB b ns):=by
 cases b
 ·exact h
 ·exact h.reverse
theorem Jzd {b:Bool}{kA:Array Zh}{its:List Zh}(h:kA.size=its.length):(if b=Zj then(kA.zip its.toArray).reverse else kA.zip its.toArray)=(rvB b kA.toList).toArray.zip (rvB b its).toArray:=by
 cases b with
 | false=>simp[rvB]
 | true =>
  apply Array.toList_inj.mp
  simp only[rvB,if_true,Array.toList_reverse,Array.toList_zip]
  exact List.reverse_zipWith (by simpa using h)
theorem Jyt {b:Bool}{kA:Array Zh}(N:Now ce X pj ι σi h σ H s)(fD:FpOk X pj H D)(fK:FpOk X pj H kS)(hDK:D≠kS)(gD:s.heap.get? D=Za (ZM "list" #[] e1))(gK:s.heap.get? kS=Za (ZM "list" kA e))(hk:Zbh kA.toList ks)(lk:ks.length=ys.length)
  (rv:Vals ws its)(r3:RVs X.K ι H ys ws)(h64:ys.length<64)(hP:∀s',Q (.ref D) s'->P (.done (.ret .none)) s')(K:Kont ce X RU pj ι σi σ H (Xa b ys ks h) Q E) :
  Zu (Z6 X.prog X.w) A (ksk_end D b its.toArray e1 (.ref kS) kA) P E s:=by
 have l1:=r3.length
 have l2:=rv.length
 have l3:=hk.length
 have hz:kA.size=its.length:=by rw[<- ZP];omega
 have step:∀t:Sem PySem.Fin,Zu (Z6 X.prog X.w) A t P E s->Zu (Z6 X.prog X.w) A (if b=Zj then(do let _<-rule "list.sort.reverse";t) else t) P E s:=by
  intro t ht
  split
  ·exact Zc (Zdy ht)
  ·exact ht
 unfold ksk_end
 try dsimp only
 refine step _ ?_
 rw[Jzd hz]
 have rv':=Jns (b:=b) rv
 have r3':=r3.rvB (b:=b)
 have hk':=Juk (b:=b) hk
 have h64':(rvB b ys).length<64:=by rw[QK];exact h64
 have K:Kont ce X RU pj ι σi σ H (Yt b (rvB b ys) (rvB b ks) h) Q E:=K
 have ly:(rvB b ys).length=(rvB b its).length:=by rw[QK,QK];omega
 have lk':(rvB b ks).length=(rvB b its).length:=by rw[QK,QK];omega
 have l4:(rvB b kA.toList).length=(rvB b its).length:=by rw[QK,QK,ZP,hz]
 have z2:its.toArray.size=(rvB b its).length:=by rw[QK,Zx]
 by_cases h2:its.toArray.size<2
 ·rw[if_pos h2,if_pos h2]
  refine Zc (Zk ?_)
  rw[StateT.run_pure]
  refine Zc (Zk ?_)
  try dsimp only
  refine Jnb N fD fK hDK gD gK (by omega) rv' r3' h64' ?_ rfl hP K
  generalize rvB b its=its at *
  generalize rvB b kA.toList=kl at *
  have e1:(arrOf (SortSt.mk' general' (kl.toArray.zip its.toArray) #[] 7 Zd)).map (·.2)=its.toArray:=by
   apply Array.toList_inj.mp
   show((kl.toArray.zip its.toArray).map (·.2)).toList=_
   rw[Array.toList_map,ksk_zip]
   exact List.map_snd_zip (by rw[List.toList_toArray];omega)
  rw[e1,ly]
  exact congrArg Zat (Ju2 (lt:=ltF λ i=>(rvB b ks).getD i 0) its (by omega)).symm
 ·rw[if_neg h2,if_neg h2]
  rw[Zx] at h2
  rw[ksk_kind hk (by omega)]
  refine Zc (Zk ?_)
  have zk:kA.size<64:=by omega
  have n0:¬(rvB b its).length<2:=by rw[QK];exact h2
  generalize rvB b its=its at *
  generalize rvB b kA.toList=kl at *
  generalize rvB b ks=ks at *
  generalize rvB b ys=ys at *
  generalize rvB b ws=ws at *
  have sp:=Jf9 (n:=its.length) (by omega)
  refine Zc (Zas (kat_run (ks:=kl) (vs:=its) (Q:=λ st' s'=>s'=s/\failedOf st'=Zd/\arrOf st'=(Jv (ltF λ i=>ks.getD i 0) (Zcq its.length)).map (kas_item (kl.toArray.zip its.toArray))) (G:=λ p s'=>s'=s/\p=Jv (ltF λ i=>ks.getD i 0) (Zcq its.length)) l4 (by omega) (by omega)
   (λ p st' s' a1 a2 a3 a4=>⟨a4.1,a3,a4.2▸a2⟩) (Asks.wp (n:=its.length) (lt:=ltF λ i=>ks.getD i 0) (λ i j hi hj C hC=>?_) sp ⟨rfl,rfl⟩)) ?_ λ _ _ e=>e)
  ·unfold kas_ask
   obtain⟨t1,e1⟩:=hk'.get i _ (Zb (show i<ks.length by omega))
   obtain⟨t2,e2⟩:=hk'.get j _ (Zb (show j<ks.length by omega))
   rw[Zg,Zg,e1,e2]
   refine kat_lt_int ?_
   have hC:C (decide (ks.getD i 0<ks.getD j 0)) s:=hC
   rw[Zg,Zg,Zb (show i<ks.length by omega),Zb (show j<ks.length by omega)] at hC
   exact hC
  ·rintro⟨⟨⟩,st'⟩ s' ⟨rfl,hfl,har⟩
   try dsimp only
   refine Jnb N fD fK hDK gD gK zk rv' r3' h64' ?_ hfl hP K
   rw[kat_snds (ks:=kl) (vs:=its) l4 har,ly]
   rfl
theorem Ju4 {b:Bool}(ko:XQ ce X A σi σ pj G (.ref fq) mk)(hG:∀H H',Ext H H'->G H->G H')(N:Now ce X pj ι σi h σ H s)(g:G H)(fD:FpOk X pj H D)(fK:FpOk X pj H kS)(hDK:D≠kS)(gD:s.heap.get? D=Za (ZM "list" #[] e1))(gK:s.heap.get? kS=Za (ZM "list" #[] 0))
  (rv:Vals ws its)(r3:RVs X.K ι H ys ws)(h64:ys.length<64)(hP:∀s',Q (.ref D) s'->P (.done (.ret .none)) s')(K:Kont ce X RU pj ι σi σ H ((Qn mk ys [] h).bind (Xa b ys)) Q E) :
  Zu (Z6 X.prog X.w) A (ksk_rest D (.ref fq) b its.toArray e1 (.ref kS)) P E s:=by
 have l1:=r3.length
 have l2:=rv.length
 unfold ksk_rest
 refine Zc (Zdy ?_)
 rw[List.forIn_toArray]
 refine Zc (ksk_fold (λ j s'=>∃H' ι' h' ks kA e,Now ce X pj ι' σi h' σ H' s'/\G H'/\Nxt ι H ι' H'/\s'.heap.get? D=Za (ZM "list" #[] e1)/\s'.heap.get? kS=Za (ZM "list" kA e)/\Zbh kA.toList ks/\ks.length=j/\H' D=Zd/\H' kS=Zd/\Kont ce X RU pj ι' σi σ H' ((Qn mk (ys.drop j) ks h').bind (Xa b ys)) Q E) its 0 s
  ⟨H,ι,h,[],#[],0,N,g,.refl,gD,gK,.nil,rfl,fD.1,fK.1,K⟩ ?step ?done)
 case step =>
  rintro j x s' hx ⟨H',ι',h',ks,kA,e,N',g',n',gD',gK',hk,hlj,hD',hK',K'⟩
  simp only[Nat.zero_add] at hlj K' ⊢
  have fD':=FpOk.at fD hD'
  have fK':=FpOk.at fK hK'
  obtain⟨xv,ex,rx⟩:=Jmf rv hx
  obtain⟨yv,eyv,qy⟩:=(r3.mono n').get' ex
  have hj:j<ys.length:=(Zt.mp eyv).1
  have ed:ys.drop j=yv::ys.drop (j+1):=by
   rw[Za9 hj,(Zt.mp eyv).2]
  rw[ed] at K'
  have K':Kont ce X RU pj ι' σi σ H' (((mk yv h').nx.bind λ k h''=>match k with|.int n=>Qn mk (ys.drop (j+1)) (ks++[n]) h''|_=>.stuck).bind (Xa b ys)) Q E:=K'
  rw[Res.bind_bind] at K'
  have hz:kA.size=j:=by rw[<- ZP,hk.length,hlj]
  have N2:=(N'.pinO gK' fK' λ v z=>by cases z).pinO gD' (FpOk.more (p:=(kS,ZM "list" kA e)) fD' (ZO hDK)) λ v z=>by cases z
  rw[Zag] at N2
  refine Zc (Zd3 (nof (ko _ _ _ _ _ yv x _ N2 g' ⟨xv,rx,qy⟩ (Jrm K' λ k h3 u s3 H3 ι3 N3 n3 ru K3=>?_))))
  have pK:=N3.inv.pin (kS,ZM "list" kA e) (Zo _ (Zo _ (by simp)))
  have pD:=N3.inv.pin (D,ZM "list" #[] e1) (Zo _ (Zo _ (by simp)))
  have N4:=N3.pins
  cases k with
  | int n =>
   obtain⟨v,rv',ev⟩:=ru
   have ev:v=.int n:=ev
   subst ev
   obtain⟨t,rfl⟩:=rv'
   try dsimp only
   refine Zc (ZcI pK.1 rfl ?_ (by rw[ZaL];omega) (Zaf (Zde (Array.size_push ..)) (by rw[ZaL];omega)))
   obtain⟨c2,hc2⟩:∃c2,(s3.heap.update kS (ZW (·.push (.int n t)))).get? kS=Za (ZM "list" (kA.push (.int n t)) c2):=⟨_,Zbp pK.1 (·.push (.int n t))⟩
   have s1:∀b u,b≠kS->s3.heap.get? b=Za u->(s3.heap.update kS (ZW (·.push (.int n t)))).get? b=Za u:=λ b u nb q=>(Zw _ _ (ZO nb)).trans q
   have N5:=N4.turned (h':=s3.heap.update kS (ZW (·.push (.int n t)))) (t':=s3.toks) (FpOk.at fK pK.2.1) s1
   refine Zk ⟨rfl,H3,ι3,h3,ks++[n],kA.push (.int n t),c2,N5,hG _ _ n3.ext g',n'.trans n3,s1 D _ hDK pD.1,hc2,by rw[Zee];exact ksk_snoc hk,by simp[hlj],pD.2.1,pK.2.1,K3⟩
  | _=>exact Zf K3
 case done =>
  rintro s' ⟨H',ι',h',ks,kA,e,N',g',n',gD',gK',hk,hlj,hD',hK',K'⟩
  rw[Nat.zero_add] at hlj K'
  rw[Zdn (by omega)] at K'
  try dsimp only
  refine Zc (listItems_at gK' rfl ?_)
  exact Jyt N' (FpOk.at fD hD') (FpOk.at fK hK') hDK gD' gK' hk (by omega) rv (r3.mono n') h64 hP K'
theorem Jsd {b:Bool}{kw:List (Str×Zh)}{B:ZJ}{h2:Zar}{tk:Nat}(hkw:∀a,ZbO.«list.sort» ⟨[.ref a],kw⟩=ksk_tree a (.ref fq) b)(hak:∀a,ZdW "list.sort" ⟨[a],kw⟩)(ko:XQ ce X B.in1 σi σ pj G (.ref fq) mk)(hG:∀H H',Ext H H'->G H->G H')(N:Now ce X pj ι σi h σ H s)(g:G H)
  (keep:∀b o,s.heap.get? b=Za o->h2.get? b=Za o)(le0:s.heap.objs.size<=h2.objs.size)(rv2:Vals ws its)(r3:RVs X.K ι H ys ws)(h64:ys.length<64)(hP:∀D s',Q (.ref D) s'->P (.done (.ret (.ref D))) s')
  (K:Kont ce X RU pj ι σi σ H ((Qn mk ys [] h).bind (Xa b ys)) Q E):Zu (Z6 X.prog X.w) B (do let l<-newList its;let _<-Zci [l] (call (.builtin "list.sort") [l] kw);ret l) P E { s with heap:=h2,toks:=tk }:=by
 have l1:=r3.length
 have l2:=rv2.length
 refine Zc (ZbT ?_ (by rw[ZaL];omega))
 have hoL:(h2.push (ZM "list" its.toArray 0)).get? h2.objs.size=Za (ZM "list" its.toArray 0):=Zv _ rfl
 have keep3:∀b o,s.heap.get? b=Za o->(h2.push (ZM "list" its.toArray 0)).get? b=Za o:=λ b o q=>Ze _ (keep b o q)
 have sz3:(h2.push (ZM "list" its.toArray 0)).objs.size=h2.objs.size+1:=ZcS ..
 show Zu _ _ _ _ _ { s with heap:=h2.push (ZM "list" its.toArray 0),toks:=tk }
 generalize h2.push (ZM "list" its.toArray 0)=h3 at hoL keep3 sz3
 refine Zc (ZT (wpAny_call_entry_kw slot_list_sort ⟨_,hoL,rfl⟩ entry_list_sort ?body (hak _)))
 case body =>
  show Zu (Z6 X.prog X.w) B.in1 (ZbO.«list.sort» ⟨[.ref h2.objs.size],kw⟩) _ _ _
  rw[hkw]
  unfold ksk_tree
  refine Zc (listItems_at hoL rfl ?_)
  refine Zc (ZcI hoL rfl ?_ (by rw[Zx,ZaL];omega) (ZK _))
  obtain⟨ep,ho1⟩:∃ep,(h3.update h2.objs.size (ZW λ _=>(#[]:Array Zh))).get? h2.objs.size=Za (ZM "list" #[] ep):=⟨_,Zbp hoL λ _=>#[]⟩
  refine Zc (seqEpoch_at ho1 rfl ?_)
  refine Zc (wpAny_newTuple ?_ (by show its.length<=_;rw[ZaL];omega))
  refine Zc (ZbT ?_ (ZK _))
  refine ZT ?_
  have sz5:((h3.update h2.objs.size (ZW λ _=>(#[]:Array Zh))).push (ZM "tuple" its.toArray 0)).objs.size=h2.objs.size+2:=by rw[ZcS,Heap.size_update,sz3]
  obtain⟨kS,hkS⟩:∃kS,kS=((h3.update h2.objs.size (ZW λ _=>(#[]:Array Zh))).push (ZM "tuple" its.toArray 0)).objs.size:=⟨_,rfl⟩
  have gK:(((h3.update h2.objs.size (ZW λ _=>(#[]:Array Zh))).push (ZM "tuple" its.toArray 0)).push (ZM "list" #[] 0)).get? kS=Za (ZM "list" #[] 0):=by rw[hkS];exact Zv _ rfl
  have gD:(((h3.update h2.objs.size (ZW λ _=>(#[]:Array Zh))).push (ZM "tuple" its.toArray 0)).push (ZM "list" #[] 0)).get? h2.objs.size=Za (ZM "list" #[] ep):=Ze _ (Ze _ ho1)
  have old:∀b o,s.heap.get? b=Za o->(((h3.update h2.objs.size (ZW λ _=>(#[]:Array Zh))).push (ZM "tuple" its.toArray 0)).push (ZM "list" #[] 0)).get? b=Za o:=λ b o q=>Ze _ (Ze _ ((Zw _ _ (ZaA (ZI (Zz q) le0))).trans (keep3 b o q)))
  rw[<- hkS]
  rw[sz5] at hkS
  have fD:FpOk X pj H h2.objs.size:=N.inv.fpOk le0 (N.inv.hok.fresh le0)
  have le:s.heap.objs.size<=kS:=by rw[hkS];exact Zaf le0 (Nat.le_add_right _ _)
  have fK:FpOk X pj H kS:=N.inv.fpOk le (N.inv.hok.fresh le)
  exact Ju4 ko hG (N.keptH (t':=tk) old) g fD fK (by rw[hkS];exact Z3 (Nat.lt_add_of_pos_right (by decide))) gD gK rv2 r3 h64 (λ s' q=>⟨_,rfl,Zk (hP _ _ q)⟩) K
theorem Ju3 {i:Nat}{l:Zq}(ko:XQ ce X A.in1.in1 σi σ pj G (.ref fq) mk)(hG:∀H H',Ext H H'->G H->G H')(N:Now ce X pj ι σi h σ H s)(g:G H)(hi:ι[i]?=Za l)
  (K:Kont ce X RU pj ι σi σ H (XC mk i h) Q E):Zu (Z6 X.prog X.w) A (call (.builtin "sorted") [.ref l] [(ZaO "key",.ref fq)]) Q E s:=by
 unfold XC at K
 cases eh:h[i]? with
 | none=>rw[eh] at K;exact Zf K
 | some ob =>
  rw[eh] at K
  cases ob with
  | lst ys =>
   dsimp only at K
   split at K
   ·rename_i h64
    obtain⟨ws,e1,r3⟩:=N.at eh hi
    obtain⟨its,rv2,pl,_⟩:=N.inv.list (SqL.of e1)
    have hl:=pl.isList
    have l1:=r3.length
    have l2:=rv2.length
    refine ZeG kind_sorted Zf4 Zf5 (ksk_s1 _ _) ?_
    unfold ZbO.«sorted»
    refine Zc (m:=checkCount "sorted" 1 1 _) (Zk ?_)
    refine Zc (collect_list hl ?_ (by rw[ZaL];omega))
    refine Jsd (P:=_) (tk:=s.toks) (λ a=>ksk_t1 fq a) (λ a=>ksk_l1 a _) ko hG N g (λ b o q=>?_) ?_ rv2 r3 h64 (λ D s' q=>⟨_,rfl,q⟩) K
    ·have hlt:b<s.heap.objs.size:=Zz q
     rw[Heap.get?_update_ne _ _ _ _ (Z3 hlt),Heap.get?_push_ne _ _ _ (Z3 hlt)]
     exact q
    ·rw[Heap.size_update,ZcS]
     exact ZaG _
   ·exact Zf K
  | _=>exact Zf K
end
def Xr (q:Str)(j:Nat)(js:List Nat)(aa:A1)(m:E1):E1:=λ σ h=>(aa σ h).bind λ xs h1=>match h1[j]? with
 | some (.tab q')=>if q'=q then(match xs with
  | [.ref i]=>XC (λ v h'=>m (Za v::js.map λ j=>(σ[j]?).join) h') i h1
  | _=>.stuck) else .stuck
 | _=>.stuck
theorem Jxs {k:Nat}{q x:Str}{caps:List Str}{js:List Nat}{j:Nat}{a body:Expr}{aa:A1}{m:E1}{params:Zcr}{scope:Zb1}{p lp pos kp:Pos}(hg:Gl X "sorted")(hm:X.mg "sorted"=Zd)(ha:PAi ce X [a] aa)(hs:ZE [a] X.env=[(Zm,Zbr a X.env)])
  (hr:Room (k+3) X.A)(hcd:W.codeIn X.K X.env.code q=Zj)(hq:X.env.qual=q++".<locals>.")(B:Qs X.mg X.base)(hx:Qo params=Za x)(S:LamSc X.N X.env.scope.names x caps js scope)
  (hb:∀f cd s' H',PEi ce (cxL X X.A.in1.in1 (x::caps) q scope f cd s' H') body m) :
  PEi ce X (.Call (.Name "sorted" p) [a] [⟨Za "key",.Lambda params body scope lp,kp⟩] pos) (Xr q j js aa m):=λ pj s σ H ι σi h Q E N K=>by
 have hcl:Zdx scope X.env=pure (clOf X.env.cells scope.names []):=Jao λ y hm hk=>N.inv.ok.has y.1 (.inl (S.free y hm hk))
 refine Zac (Qh N.inv hg hm rfl ?_)
 refine Zfg ?_ (by rw[hs];rfl) (by rw[hs];rfl) rfl rfl
 refine(ha pos).run N K λ xs h1 us s1 H1 ι1 N1 n1 r1 K1=>?_
 cases ej:h1[j]? with
 | none=>rw[ej] at K1;exact Zf K1
 | some ob =>
  rw[ej] at K1
  cases ob with
  | tab q' =>
   dsimp only at K1
   split at K1
   ·rename_i eq
    subst eq
    refine Zbs (Zc (Jis N1 ej hcd hq (Jir hx) hcl B λ f c pm ctv s2 H2 N2 n2 LC=>Zc (ZbD (Zk ?_))))
    refine ZbU ?_
    have K3:=Kont.more (pl:=[(f,lamO q' params body scope (clOf X.env.cells scope.names []) pm ctv c)]) (Kont.mono K1 n2)
    obtain⟨vs,rv,qs⟩:=r1.mono n2
    match xs,K3 with
    | [.ref i],K3 =>
     obtain⟨w,rfl,ad,rfl,hav⟩:=qs.one_of
     obtain⟨u,rfl,ru⟩:=QE rv
     cases ru
     refine Ju3 (G:=λ H=>Qz H q' (.ref c)) (mk:=λ v h'=>m (Za v::js.map λ j=>(σi[j]?).join) h') ?_ (λ H H' e g=>g.mono e.frzs) N2 LC hav ?_
     ·intro pl s4 H4 ι4 h4 v u Q4 N4 g4 ru4 K4
      have pf:=N4.inv.pin (f,lamO q' params body scope (clOf X.env.cells scope.names []) pm ctv c) (Zo _ (ZY _ (Zo _ (Z5.mpr rfl))))
      exact Jly (A:=X.A.in1.in1) N.inv.ok.frames hr.in1.in1 N4 pf.1 g4 hx S (hb f (.ref c)) ru4 K4
     ·exact K3
    | [],K3=>exact Zf K3
    | [.non],K3=>exact Zf K3
    | [.bl _],K3=>exact Zf K3
    | [.int _],K3=>exact Zf K3
    | [.str _],K3=>exact Zf K3
    | [.tup _],K3=>exact Zf K3
    | [.rol _],K3=>exact Zf K3
    | x::_::_,K3=>cases x<;>exact Zf K3
   ·exact Zf K1
  | _=>exact Zf K1
end
end L3
namespace L3
open PySem PySem.Spec PyProof.Rows L2
abbrev RisA (xs:Array Nat):Prop:=xs.toList.Pairwise (· < ·)
section
variable {xs:Array Nat}{j:Nat}
theorem RisA.get (r:RisA xs)(h:i<k)(hk:k<xs.size):xs.getD i 0<xs.getD k 0:=by
 have:=ZcA.mp r i k (by simp;omega) (by simpa using hk) h
 simpa [ZcT,hk,Zf1 h hk] using this
theorem RisA.le (r:RisA xs)(h:i<=k)(hk:k<xs.size):xs.getD i 0<=xs.getD k 0:=by
 rcases Nat.eq_or_lt_of_le h with e|e
 ·rw[e];exact Zr _
 ·exact Zb2 (r.get e hk)
theorem Jh8 (r:RisA xs):∀(f lo hi:Nat),lo<=hi->hi<=xs.size->hi-lo<=f->(∀i,i<lo->xs.getD i 0<j)->(∀i,hi<=i->i<xs.size->j<=xs.getD i 0)->∀x,SetTable.below.go xs j f lo hi=x->x<=xs.size/\(∀i,i<x->xs.getD i 0<j)/\∀i,x<=i->i<xs.size->j<=xs.getD i 0
 | 0,lo,hi,h1,h2,h3,a,b,x,e=>by
  obtain rfl:lo=hi:=by omega
  subst e
  exact⟨h2,a,b⟩
 | f+1,lo,hi,h1,h2,h3,a,b,x,e=>by
  unfold SetTable.below.go at e
  split at e
  ·rename_i hl
   have hm:(lo+hi)/2<xs.size:=by omega
   have gd:xs.getD ((lo+hi)/2) j=xs.getD ((lo+hi)/2) 0:=by simp[ZcT,hm]
   dsimp only at e
   rw[gd] at e
   by_cases c:xs.getD ((lo+hi)/2) 0<j
   ·rw[if_pos c] at e
    exact Jh8 r f _ _ (by omega) h2 (by omega) (λ i hi'=>ZdZ (r.le (show i<=(lo+hi)/2 by omega) hm) c) b x e
   ·rw[if_neg c] at e
    exact Jh8 r f _ _ (by omega) (by omega) (by omega) a (λ i hi' hs=>Zaf (Zc4 c) (r.le hi' hs)) x e
  ·obtain rfl:lo=hi:=by omega
   subst e
   exact⟨h2,a,b⟩
theorem Jh9 (r:RisA xs)(j:Nat):Za2 xs j<=xs.size/\(∀i,i<Za2 xs j->xs.getD i 0<j)/\∀i,Za2 xs j<=i->i<xs.size->j<=xs.getD i 0 :=
 Jh8 r xs.size 0 xs.size (ZK _) (Zr _) (by omega) (λ i h=>by omega) (λ i h1 h2=>by omega) _ rfl
def Ys (xs:Array Nat):Nat->Nat
 | 0=>0
 | i+1=>xs.getD i 0+1
theorem Jhq (r:RisA xs):∀{i:Nat},i<=xs.size->Za2 xs (Ys xs i)=i
 | 0,_=>by
  obtain⟨h1,h2,h3⟩:=Jh9 r 0
  rcases Zcl (Za2 xs 0) with e|e
  ·exact e
  ·have:=h2 0 e;omega
 | i+1,hi=>by
  obtain⟨h1,h2,h3⟩:=Jh9 r (xs.getD i 0+1)
  show Za2 xs (xs.getD i 0+1)=i+1
  generalize Za2 xs (xs.getD i 0+1)=x at h1 h2 h3
  rcases Nat.lt_trichotomy x (i+1) with e|e|e
  ·have:=h3 i (by omega) (by omega);omega
  ·exact e
  ·have a:=h2 (i+1) e
   have b:=r.get (show i<i+1 by omega) (show i+1<xs.size by omega)
   omega
theorem RisA.insert (r:RisA xs)(hj:xs[Za2 xs j]?≠Za j):RisA (SetTable.insertAt xs (Za2 xs j) j):=by
 obtain⟨h1,h2,h3⟩:=Jh9 r j
 generalize Za2 xs j=p at h1 h2 h3 hj
 unfold RisA
 rw[SetTable.toList_insertAt,Zb7]
 have lo:∀a∈xs.toList.take p,a<j:=λ a ha=>by
  obtain⟨i,hi,rfl⟩:=ZF.mp ha
  have hi':i<p/\i<xs.size:=by
   have:i<min p xs.size:=by simpa using hi
   omega
  have:=h2 i hi'.1
  simpa [ZcT,hi'.2] using this
 have hi:∀a∈xs.toList.drop p,j<a:=λ a ha=>by
  obtain⟨i,hi,rfl⟩:=ZF.mp ha
  have hi':p+i<xs.size:=by
   have:i<xs.size-p:=by simpa using hi
   omega
  have ge:=h3 (p+i) (by omega) hi'
  have pz:p<xs.size:=by omega
  have np:j≠xs.getD p 0:=λ e=>hj (by rw[ZaQ pz];simp[ZcT,pz] at e;rw[e])
  have gp:=h3 p (Zr _) pz
  have pi:=r.le (show p<=p+i by omega) hi'
  have:j<xs.getD (p+i) 0:=by omega
  simpa [ZcT,hi'] using this
 exact⟨ZeT (List.take_sublist _ _) r,ZaB.mpr ⟨hi,ZeT (List.drop_sublist _ _) r⟩,λ a ha b hb=>by
  rcases Z2.mp hb with rfl|hb
  ·exact lo a ha
  ·exact Zf1 (lo a ha) (hi b hb)⟩
end
structure Tb (led:Bool)(t:SetTable):Prop where
 r:RisA t.place
 d:t.dummies=#[]
 l:t.led=led
section
variable {t:SetTable}{led:Bool}
theorem Tb.standIn (b:Tb led t)(n:Nat):Tb led (t.standIn n):=⟨by show(Array.range n).toList.Pairwise _;rw[Array.toList_range];exact ZeH,rfl,b.l⟩
theorem Tb.orStandIn (b:Tb led t)(n:Nat):Tb led (t.orStandIn n):=by
 unfold SetTable.orStandIn
 split
 ·exact b
 ·exact b.standIn n
theorem Jqs (j:Nat):Zf6 #[] j=Zm:=by
 unfold Zf6
 simp
theorem Jm1 (d:t.dummies=#[]):∀(n:Nat)(p:SetTable.Probe),p.dummy=Zd->∀j dm,SetTable.probe.go t f h n p=Za (.empty j dm)->dm=Zd/\t.place[Za2 t.place j]?≠Za j
 | 0,p,_,j,dm,e=>by cases e
 | n+1,p,hp,j,dm,e=>by
  have adv:(t.advance p).dummy=Zd:=by
   unfold SetTable.advance
   split
   ·exact hp
   ·exact hp
  unfold SetTable.probe.go at e
  unfold SetTable.slot at e
  dsimp only at e
  by_cases c:(t.place[Za2 t.place p.j]?==Za p.j)=Zj
  ·rw[if_pos c] at e
   dsimp only at e
   split at e
   ·cases e
   ·exact Jm1 d n _ adv j dm e
  ·rw[if_neg c,d,Jqs] at e
   simp only[ZX,if_false,Za3,SetTable.Met.empty.injEq] at e
   obtain⟨rfl,rfl⟩:=e
   exact⟨hp,λ z=>c (beq_iff_eq.mpr z)⟩
theorem Tb.free (b:Tb led t)(e:t.freeSlot h=Za (sl,wd)):t.place[Za2 t.place sl]?≠Za sl:=by
 unfold SetTable.freeSlot at e
 split at e
 ·rename_i j dm ep
  obtain⟨rfl,q⟩:=Jm1 b.d _ _ rfl j dm ep
  simp only[Za3,Zel] at e
  rw[<- e.1]
  exact q
 ·cases e
theorem Tb.layNew (b:Tb led t)(es:Array (Int×Zh))(h:Int)(x:Zh):Tb led (layNew t es h x).2.1:=by
 unfold PySem.layNew
 split
 ·rename_i sl wd e
  refine Tb.orStandIn ?_ _
  refine⟨b.r.insert (b.free e),?_,b.l⟩
  show(if Zf6 t.dummies sl then _ else t.dummies)=#[]
  rw[b.d,Jqs]
  rfl
 ·exact b.standIn _
theorem Tb.laid (e:SetTable.laid mask fi mo led pl hs=Za (t',o)):Tb led t':=by
 unfold SetTable.laid at e
 cases q:SetTable.layClean mask hs with
 | none=>rw[q] at e;cases e
 | some ow =>
  rw[q] at e
  have e:Za _=Za (t',o):=e
  simp only[Za3,Zel] at e
  obtain⟨rfl,_⟩:=e
  refine⟨?_,rfl,rfl⟩
  show(List.map _ _).Pairwise _
  rw[ZbP]
  refine List.Pairwise.filterMap _ (λ a a' hlt b hb b' hb'=>?_) ZeH
  obtain⟨_,_,rfl⟩:=Z8.mp hb
  obtain⟨_,_,rfl⟩:=Z8.mp hb'
  exact hlt
theorem Tb.relayAll (b:Tb led t)(es:Array (Int×Zh))(w:Nat):Tb led (Zf7 t es w).2.1:=by
 unfold PySem.relayAll
 split
 ·rename_i t' o e
  dsimp only
  split
  ·unfold SetTable.relaid at e
   rw[b.l] at e
   exact Tb.laid e
  ·exact b.standIn _
 ·exact b.standIn _
end
theorem Jex {α:Type}:∀{l:List α}{i:Nat}{x:α},l[i]?=Za x->(x::l.eraseIdx i).Perm l
 | [],i,x,e=>by simp at e
 | a::l,0,x,e=>by
  simp only[Zbe,Za3] at e
  subst e
  exact Zcy _
 | a::l,i+1,x,e=>by
  simp only[Zbd] at e
  exact(List.Perm.swap a x _).trans ((Jex e).cons a)
theorem Jrp:∀(f k:Nat)(l:List α)(out:Array α),l.length<=f->(Zf8 nx f k l out).toList.Perm (out.toList++l)
 | 0,k,l,out,h=>by
  obtain rfl:l=[]:=Zal (by omega)
  unfold Zf8
  simp
 | f+1,k,l,out,h=>by
  unfold Zf8
  cases e:l[nx k%l.length]? with
  | none =>
   have:l=[]:=by
    cases l with
    | nil=>rfl
    | cons a l =>
     have:nx k%(a::l).length<(a::l).length:=Nat.mod_lt _ (by simp)
     rw[Zb this] at e
     cases e
   subst this
   simp
  | some x =>
   dsimp only
   have hl:=(Zt.mp e).1
   refine(Jrp f (k+1) _ _ (by rw[Zea hl];omega)).trans ?_
   rw[Zee,Zag]
   exact(Jex e).append_left _
theorem Jrq (nx:Nat->Nat)(xs:Array α):(Zfo nx xs).toList.Perm xs.toList:=by
 have:=Jrp (nx:=nx) xs.size 0 xs.toList #[] (by simp)
 unfold Zfo
 simpa using this
abbrev byT (wd:ZU):Bool:=wd.params.followText "set-order"
abbrev ents (es:Array (Int×Zh)):List Int:=es.toList.map λ e=>numOf e.2
def AllI (es:List (Int×Zh)):Prop:=∀e∈es,∃n t,e=(Zfh n,ZbI n t)
def SetI (wd:ZU)(h:Zar)(a:Zq)(ns:List Int):Prop:=∃o es ep t,h.get? a=Za o/\o.ExactSet/\o.data=.set es ep t/\AllI es.toList/\ents es=ns/\es.size<Zb8/\t.fits es.size=Zj/\Tb (!byT wd) t
theorem SetI.moved {hp h2:Zar}(q:SetI wd hp a ns)(m:∀o,hp.get? a=Za o->h2.get? a=Za o):SetI wd h2 a ns:=by
 obtain⟨o,es,ep,t,ho,rest⟩:=q
 exact⟨o,es,ep,t,m o ho,rest⟩
theorem AllI.perm {l l':List (Int×Zh)}(h:AllI l)(p:l'.Perm l):AllI l':=λ e he=>h e (p.mem_iff.mp he)
theorem AllI.elems (h:AllI l):ElemsOf (ZbV pr wd) l:=λ e he=>by
 obtain⟨n,t,rfl⟩:=h e he
 exact⟨⟨n,Zft _ _ _ _,rfl⟩,rfl⟩
section
variable {pr:ZC}{wd:ZU}{A:ZJ}{E:QvT}{s:Zl}{a:Zq}
theorem Jru {h:Zar}(ho:h.get? a=Za o)(hd:o.data=.set es ep t):(h.update a (Obj.putSet es' t')).get? a=Za { o with data:=.set es' (ep+1) t' }:=by
 have:=Zae (Obj.putSet es' t') ho (by rw[putSet_of es' t' hd];rfl)
 rwa [putSet_of es' t' hd] at this
theorem Jms {b:Bool}{s1:Zl}{Q:Unit->Zl->Prop}(h:Q () s1):Zu (Z6 pr wd) A (match b with|true=>rule "set.scan.the-table-gave-way"|false=>pure ()) Q E s1:=by
 cases b<;>first|exact Zk h|exact Zdy h
theorem Jum {n:Int}{tk:Tok}{Q:Bool->Zl->Prop}(hS:SetI wd s.heap a ns)(room:ns.length+1<Zb8) 
  (h:∀b h' ns',Zb3 a s.heap h'->SetI wd h' a ns'->ns'.Perm (if n∈ns then ns else ns++[n])->Q b { s with heap:=h' }):Zu (Z6 pr wd) A (setAddHashed a (.int n tk) (Zfh n)) Q E s:=by
 obtain⟨o,es,ep,t,ho,hex,hd,ai,en,hb,hf,tb⟩:=hS
 have hel:ElemsOf (ZbV pr wd) es.toList:=ai.elems
 have hkey:(ZbV pr wd).is n (.int n tk)=Zj:=Zft _ _ _ _
 have lz:es.size=ns.length:=by rw[<- en,Zn,ZP]
 unfold setAddHashed setAddHashedIn
 refine ZT (Zc (ZbQ ho hd hf ?_))
 dsimp only
 rw[byScan_of (knd:=ZbV pr wd) rfl hb hel]
 simp only[↓reduceIte]
 unfold setAddByScan
 refine Zc ?_
 refine Zc (Zdy ?_)
 refine Zc (wpAny_setScan_of (knd:=ZbV pr wd) hkey ho hd hf hel ?_)
 cases hr:List.findIdx? (λ e=>(ZbV pr wd).is n e.2) es.toList with
 | some j =>
  dsimp only
  obtain⟨hj,hpj,_⟩:=Zdd.mp hr
  have mem:n∈ns:=by
   rw[<- en]
   refine ZD.mpr ⟨es.toList[j],ZB hj,?_⟩
   obtain⟨m,t',e⟩:=ai _ (ZB hj)
   rw[e] at hpj ⊢
   exact(ZbV pr wd).inj _ _ _ (Zft _ _ _ _) hpj
  refine Zk (Zk ?_)
  have e:s={ s with heap:=s.heap }:=by cases s;rfl
  rw[e]
  exact h _ s.heap ns (Heap.SameBut.refl a s.heap) ⟨o,es,ep,t,ho,hex,hd,ai,en,hb,hf,tb⟩ (by rw[if_pos mem])
 | none =>
  dsimp only
  have nmem:n∉ns:=λ m=>by
   rw[<- en] at m
   obtain⟨e,he,q⟩:=ZD.mp m
   obtain⟨m',t',rfl⟩:=ai e he
   have q:m'=n:=q
   subst q
   have:=Zec.mp hr _ he
   rw[show(ZbV pr wd).is m' (.int m' t')=Zj from Zft _ _ _ _] at this
   cases this
  have hperm:=layNew_perm t es (Zfh n) (.int n tk)
  have hfits:=layNew_fits t es (Zfh n) (.int n tk)
  have tb1:=tb.layNew es (Zfh n) (.int n tk)
  generalize layNew t es (Zfh n) (.int n tk)=L at hperm hfits tb1 ⊢
  obtain⟨es1,t1,wasDummy,gave⟩:=L
  dsimp only at hperm hfits tb1 ⊢
  rw[Zee] at hperm
  have ai1:AllI es1.toList:=AllI.perm (λ e he=>by
   rcases Zah.mp he with he|he
   ·exact ai e he
   ·rw[Z5.mp he];exact⟨n,tk,rfl⟩) hperm
  have en1:(ents es1).Perm (ns++[n]):=by
   have:=hperm.map λ e=>numOf e.2
   rw[ZbC] at this
   rwa [show es.toList.map (λ e=>numOf e.2)=ns from en] at this
  have sz1:es1.size=es.size+1:=by rw[<- ZP,hperm.length_eq,Z1,ZP];rfl
  have hb1:es1.size<Zb8:=by omega
  have fin:∀h' ns',Zb3 a s.heap h'->SetI wd h' a ns'->ns'.Perm (ents es1)->Q Zj { s with heap:=h' }:=λ h' ns' sb q p=>h Zj h' ns' sb q (by rw[if_neg nmem];exact p.trans en1)
  refine Zc (Jms ?_)
  have tail:∀{R:Option Bool->Zl->Prop},(∀h' ns',Zb3 a s.heap h'->SetI wd h' a ns'->ns'.Perm (ents es1)->R (Za Zj) { s with heap:=h' })->Zu (Z6 pr wd) A (do
    storeSet a es1 t1
    if (!wasDummy&&t1.tooFull)=Zj then do
      (match (Zf7 t1 es1 (Zcb es1.size)).2.2 with|true=>rule "set.scan.the-table-gave-way"|false=>pure ())
      storeSet a (Zf7 t1 es1 (Zcb es1.size)).1 (Zf7 t1 es1 (Zcb es1.size)).2.1
      pure (Za Zj)
     else pure (Za Zj)) R E s:=λ {R} hR=>by
   refine Zc (wpAny_storeSet_of ho hd ?_ (Zef hb1))
   have ho1:=Jru (es':=es1) (t':=t1) ho hd
   have sb1:=ZaT s.heap a (Obj.putSet es1 t1)
   split
   ·have hp:=relayAll_perm t1 es1 (Zcb es1.size)
    have hfr:=relayAll_fits t1 es1 (Zcb es1.size)
    have tb2:=tb1.relayAll es1 (Zcb es1.size)
    generalize Zf7 t1 es1 (Zcb es1.size)=Rl at hp hfr tb2 ⊢
    obtain⟨es2,t3,gave2⟩:=Rl
    dsimp only at hp hfr tb2 ⊢
    have sz2:es2.size=es1.size:=by rw[<- ZP,hp.length_eq,ZP]
    refine Zc (Jms ?_)
    refine Zc (wpAny_storeSet_of ho1 rfl ?_ (Zef (by omega)))
    exact Zk (hR _ _ (sb1.trans (ZaT _ a _)) ⟨_,es2,ep+1+1,t3,Jru ho1 rfl,hex,rfl,ai1.perm hp,rfl,by omega,hfr,tb2⟩ (hp.map _))
   ·exact Zk (hR _ _ sb1 ⟨_,es1,ep+1,t1,ho1,hex,rfl,ai1,rfl,hb1,hfits,tb1⟩ (Zcy _))
  split
  ·refine Zc ?_
   rw[hashByValue_scannable 8 (x:=.int n tk) rfl]
   refine Zk ?_
   exact tail λ h' ns' sb q p=>by dsimp only;exact Zk (fin h' ns' sb q p)
  ·refine Zc (Zk ?_)
   simp only[↓reduceIte]
   exact tail λ h' ns' sb q p=>by dsimp only;exact Zk (fin h' ns' sb q p)
end
def ddN (f:Nat->Int):Nat->List Int
 | 0=>[]
 | i+1=>if f i∈ddN f i then ddN f i else ddN f i++[f i]
theorem Jp5 (f:Nat->Int):∀i,(ddN f i).length<=i
 | 0=>Zr _
 | i+1=>by
  have:=Jp5 f i
  unfold ddN
  split
  ·omega
  ·rw[Z1,ZaI];omega
theorem Jtb {ms:List Int}(p:ms.Perm (ddN f i)):(if f i∈ms then ms else ms++[f i]).Perm (ddN f (i+1)):=by
 unfold ddN
 by_cases c:f i∈ms
 ·rw[if_pos c,if_pos (p.mem_iff.mp c)];exact p
 ·rw[if_neg c,if_neg (λ z=>c (p.mem_iff.mpr z))];exact p.append_right _
theorem Jp6 (f:Nat->Int)(x:Int):∀i,x∈ddN f i↔∃j,j<i/\x=f j
 | 0=>by simp[ddN]
 | i+1=>by
  have ih:=Jp6 f x i
  unfold ddN
  constructor
  ·intro h
   split at h
   ·obtain⟨j,hj,e⟩:=ih.mp h;exact⟨j,by omega,e⟩
   ·rcases Zah.mp h with h|h
    ·obtain⟨j,hj,e⟩:=ih.mp h;exact⟨j,by omega,e⟩
    ·exact⟨i,by omega,Z5.mp h⟩
  ·rintro⟨j,hj,rfl⟩
   by_cases e:j=i
   ·subst e
    split
    ·assumption
    ·exact Zo _ (Z5.mpr rfl)
   ·have:=ih.mpr ⟨j,by omega,rfl⟩
    split
    ·exact this
    ·exact ZY _ this
abbrev Qm (zs:List Int):Nat->Int:=λ i=>zs.getD i 0
def SetD (wd:ZU)(h:Zar)(a:Zq)(f:Nat->Int)(i:Nat):Prop:=∃ms,SetI wd h a ms/\ms.Perm (ddN f i)
theorem SetD.moved {hp h2:Zar}(q:SetD wd hp a f i)(m:∀o,hp.get? a=Za o->h2.get? a=Za o):SetD wd h2 a f i:=by
 obtain⟨ms,h,p⟩:=q
 exact⟨ms,h.moved m,p⟩
section
variable {pr:ZC}{wd:ZU}{B:ZJ}{R:Zeh->Zl->Prop}{it:Zq}{fps wrs:List Zq}{G:Array Zep->Array Zep->Prop}{n:Nat}{P:Nat->Zh->Prop}{St:Nat->Zl->Prop}
theorem Jr8 (W:WalksS pr wd B.in1 it fps wrs G n P St)(C:Zq)(hC:C∉fps)(f:Nat->Int)(hf:∀i v,P i v->∃t,v=.int (f i) t)(room:n+1<Zb8) :
  ∀(r i:Nat)(z:Zl),n-i=r->i<=n->St i z->SetD wd z.heap C f i->(∀z2,Moved (C::wrs) G z z2->SetD wd z2.heap C f n->R (.ok (.ret .none)) z2) ->
   Zc2 (Z6 pr wd) B (.builtin "set.update.loop" ⟨[.ref C,.ref it],[]⟩) R z:=by
 have nw:C∉wrs:=λ q=>hC (W.sub _ q)
 have more:∀b∈wrs,b∈C::wrs:=λ b q=>Zi _ q
 intro r
 induction r with
 | zero =>
  intro i z hr hi st hS fin
  obtain rfl:i=n:=by omega
  refine Zaa ZaS ?_
  rw[ZG Zaq _]
  show Zu _ B.in1 (Zbv (.ref it)>>=_) _ _ z
  refine Zc (W.done z _ _ st λ z2 mv=>?_)
  show Zu _ B.in1 (ret ZV) _ _ z2
  exact Zk (fin z2 (mv.mono more) (hS.moved λ o e=>mv.heap C _ nw e))
 | succ r ih =>
  intro i z hr hi st hS fin
  have lt:i<n:=by omega
  refine Zaa ZaS ?_
  rw[ZG Zaq _]
  show Zu _ B.in1 (Zbv (.ref it)>>=_) _ _ z
  refine Zc (W.item i z _ _ lt st λ v z2 hP st2 mv=>?_)
  obtain⟨t,rfl⟩:=hf i v hP
  have hS2:SetD wd z2.heap C f i:=hS.moved λ o e=>mv.heap C _ nw e
  show Zu _ B.in1 (Zci [ZbI (f i) t] (setAdd C (.int (f i) t))>>=_) _ _ z2
  refine Zc (ZT ?_)
  unfold setAdd
  refine ZT ?_
  refine Zc (wpAny_pyHash_int ?_)
  obtain⟨ms,hm,pm⟩:=hS2
  have lm:ms.length<=i:=by rw[pm.length_eq];exact Jp5 f i
  refine Jum (s:={ z2 with toks:=z2.toks+1 }) hm (by omega) λ _ h3 ms' sb hm' pm'=>?_
  have hS4:SetD wd h3 C f (i+1):=⟨ms',hm',pm'.trans (Jtb pm)⟩
  refine Zk ⟨Zav Zaq _,ih (i+1) _ (by omega) lt (W.frame _ z2 _ _ st2 (ZaG _) λ b q o e=>?_) hS4 λ z5 m5 hS5=>?_⟩
  ·rw[sb.2 b (λ e2:b=C=>hC (by rw[<- e2];exact q))];exact e
  ·refine fin z5 (Moved.trans W.gtrans ((mv.mono more).then_heap (ZaG _) λ b o q e=>?_) m5) hS5
   rw[sb.2 b (λ e2:b=C=>q (by rw[e2];exact Z0))];exact e
end
section
variable {pr:ZC}{wd:ZU}{A B:ZJ}{E:QvT}{s z:Zl}{l:Zq}{us:List Zh}{zs:List Int}{Q:QvT}
theorem Juq (a:Zh)(h:Q₁ (.ref s.heap.objs.size) { s with heap:=s.heap.push (JE (!byT wd)) }):Zc2 (Z6 pr wd) A (.call (.builtin "set.__new__") ⟨[.type "set",a],[]⟩) (wants Q₁ E) s:=by
 refine ZeL ?_
 show Zu _ A.in1 (do checkBuiltinCall "set.__new__" ⟨[.type "set",a],[]⟩;again (.builtin "set.__new__" ⟨[.type "set",a],[]⟩)) _ _ s
 refine Zc (Zed (PySem.F.newCall_set_1 a) (Zk ⟨Zav ZeU _,Zaa PySem.F.entry_set_new ?_⟩))
 rw[ZG ZeU _]
 unfold ZbO.«set.__new__» Builtin.Frozenset.newClass
 have hsub:=PySem.sub_set_self
 obtain⟨hp,g,d,tk,os⟩:=s
 dsimp only
 wp_walk
 refine Zcc (Zk ?_)
 dsimp only
 simp only[newObj]
 refine Zc (wpAny_alloc (Zk ?_))
 exact Zk h
set_option maxRecDepth 100000 in
theorem Jr7 (hh:B.handled=Zd)(hl:z.heap.IsList l us.toArray)(hi:Zbh us zs)(room:zs.length+1<Zb8) 
  (fin:∀(h2:Zar)(tk:Nat),SetD wd h2 z.heap.objs.size (Qm zs) zs.length->(∀b o,z.heap.get? b=Za o->h2.get? b=Za o)->Q (.ref z.heap.objs.size) { z with heap:=h2,toks:=tk }) :
  Zu (Z6 pr wd) B (call (.type "set") [.ref l]) Q E z:=by
 have len:us.toArray.size=zs.length:=by rw[Zx,hi.length]
 have vals:∀(i:Nat)(v:Zh),us.toArray[i]?=Za v->∃t,v=.int (Qm zs i) t:=λ i v q=>by
  have q:us[i]?=Za v:=by simpa using q
  have hz:i<zs.length:=by have:=(Zt.mp q).1;have:=hi.length;omega
  obtain⟨t,e⟩:=hi.get i _ (Zb hz)
  rw[q] at e
  cases e
  exact⟨t,by simp[Qm,hz]⟩
 obtain⟨c,tl,hmro⟩:=PySem.F.called_set.mro
 have hmade:=PySem.F.called_set.made
 have hsub:=PySem.F.called_set.sub
 refine ZeB (ZeL ?_)
 show Zu _ _ (callAny (.type "set") _) _ _ _
 refine Zk ⟨Code.quiet_builtin _ (by decide +kernel),Zaa Zez ?_⟩
 rw[Around.under_plain (ZeS "set" [.ref l] []) rfl]
 have no1:=PySem.F.called_set.notType
 have no2:=PySem.F.called_set.canCreate
 have ok1:=ZeE (.ref l)
 repeat (any_goals (first|assumption|wp_step))
 refine Zch (Juq (.ref l) (E:=E) (Q₁:=λ obj z1=>obj=.ref z.heap.objs.size/\z1={ z with heap:=z.heap.push (JE (!byT wd)) }) ⟨rfl,rfl⟩) λ res z1 hr=>?_
 cases res with
 | error e=>exact hr
 | ok fl =>
  cases fl with
  | ret obj =>
   obtain⟨rfl,rfl⟩:=hr
   have gS:(z.heap.push (JE (!byT wd))).get? z.heap.objs.size=Za (JE (!byT wd)):=Zv _ rfl
   have tS:Zem { z with heap:=z.heap.push (JE (!byT wd)) } (.ref z.heap.objs.size) "set":=⟨_,gS,rfl⟩
   have in1:=PySem.F.called_set.init.lookup
   have in2:=PySem.F.called_set.init.bind (.ref z.heap.objs.size)
   repeat (any_goals (first|assumption|wp_step))
   refine Zch (codeAny_call_builtin (R:=wants (λ res z2=>res=.none/\∃h2 tk,z2={ z with heap:=h2,toks:=tk }/\SetD wd h2 z.heap.objs.size (Qm zs) zs.length/\(∀b o,z.heap.get? b=Za o->h2.get? b=Za o)) E)
    PySem.F.called_set.init.plain ZeF (check_set_init_1 tS ?_)) λ res2 z2 hr2=>?_
   ·obtain⟨ol,hol,hcl,nl,hdl⟩:=hl
    obtain⟨ocls,odict,odata,oslots⟩:=ol
    simp only at hcl hdl
    subst hcl;subst hdl
    have gl:(z.heap.push (JE (!byT wd))).get? l=Za { cls:=.type "list",dict:=odict,data:=.seq us.toArray nl,slots:=oslots }:=Ze _ hol
    have sb1:=PySem.F.sub_list_set
    have sb2:=ZdX
    have dne:(ZdO "list"==ZdO "dict")=Zm:=by decide
    have hl1:(z.heap.push (JE (!byT wd))).IsList l us.toArray:=⟨_,gl,rfl,nl,rfl⟩
    unfold ZbO.«set.__init__» noKeywords ZdB
    generalize hPI:Zeg=PI
    wp_walk
    subst hPI
    refine ZaU hl1 ?_
    refine Zc (ZdY ?_)
    have lS:l<z.heap.objs.size:=Zz hol
    have h3:B.in1.in1.in1.handled=Zd:=by simp[hh]
    have neI:l≠(z.heap.push (JE (!byT wd))).objs.size:=by rw[ZbG];exact Z3 (ZaW lS)
    have nC:z.heap.objs.size∉[(z.heap.push (JE (!byT wd))).objs.size,l]:=by
     rw[ZbG]
     simp only[Z2,ZL,or_false,not_or]
     exact⟨Z3 (Zax _),ZaA lS⟩
    refine Jr8 ((ZcR h3 _ l neI us.toArray).toS) z.heap.objs.size nC (Qm zs) vals (by rw[len];exact room) (us.toArray.size-0) 0 _ (by omega) (ZK _) ⟨⟨_,Zv _ rfl,rfl,rfl⟩,(hl1.push _)⟩ ?start ?stop
    case start =>
     have g0:((z.heap.push (JE (!byT wd))).push { cls:=.type "list_iterator",data:=.fields #[.ref l,.int 0 0] }).get? z.heap.objs.size=Za (JE (!byT wd)):=Ze _ gS
     exact⟨[],⟨_,#[],0,_,g0,⟨rfl,rfl,rfl⟩,rfl,(λ e he=>by simp at he),rfl,by decide,rfl,⟨.nil,rfl,rfl⟩⟩,Zcy _⟩
    case stop =>
     intro z5 mv hS5
     obtain⟨h5,g5,d5,tk5,os5⟩:=z5
     have eg:g5=z.gens:=mv.gens
     have ed:d5=z.drawn:=mv.drawn
     have eo:os5=z.os:=mv.os
     subst eg;subst ed;subst eo
     show Zu _ _ _ _ _ _
     refine Zk ?_
     show Zu _ _ (ret ZV) _ _ _
     rw[len] at hS5
     refine Zk ⟨rfl,h5,tk5,rfl,hS5,λ b o e=>?_⟩
     have lb:=Zz e
     have b1:b≠z.heap.objs.size:=Z3 lb
     have b2:b≠(z.heap.push (JE (!byT wd))).objs.size:=by rw[ZbG];exact Z3 (ZaW lb)
     exact mv.heap b o (by simp only[Z2,ZL,or_false,not_or];exact⟨b1,b2⟩) (Ze _ (Ze _ e))
   ·cases res2 with
    | error e=>exact hr2
    | ok fl2 =>
     cases fl2 with
     | ret rv =>
      obtain⟨rfl,h2,tk,rfl,hS2,keep⟩:=hr2
      repeat (any_goals (first|assumption|wp_step))
      exact fin _ _ hS2 keep
     | _=>exact hr2.elim
  | _=>exact hr.elim
end
theorem QL:Slot "set_iterator" "__next__" "set_iterator.__next__" :=
 .of (owner:="set_iterator") (n:="__next__") (by rw[ZeM,Zds];kernel_rfl) (by decide +kernel) (by decide +kernel) (by decide +kernel) (by first|exact .inl (by decide +kernel)|exact .inr (by decide +kernel)) (by rw[isSubtype_type];kernel_rfl)
theorem Jm8:Slot "set_iterator" "__iter__" "set_iterator.__iter__" :=
 .of (owner:="set_iterator") (n:="__iter__") (by rw[ZeM,Zds];kernel_rfl) (by decide +kernel) (by decide +kernel) (by decide +kernel) (by first|exact .inl (by decide +kernel)|exact .inr (by decide +kernel)) (by rw[isSubtype_type];kernel_rfl)
theorem Jfu:entryFor table "set_iterator.__next__"=Za ZbO.«set_iterator.__next__» :=entryFor_of_fast (by kernel_rfl)
theorem Jh0 (a:Zh):ZdW "set_iterator.__next__" ⟨[a],[]⟩:=by unfold ZdW;kernel_rfl
theorem Jqj:entryFor table "set.__iter__"=Za ZbO.«frozenset.__iter__» :=entryFor_alias (id':="frozenset.__iter__") (by kernel_rfl) rfl (by decide +kernel) (by kernel_rfl)
def IsSI (h:Zar)(it:Zq)(F:Zh)(i:Nat)(a:Zq)(n ep:Nat):Prop:=∃o,h.get? it=Za o/\o.cls=.type "set_iterator"/\o.data=.fields #[F,.int i 0,.ref a,.int n 0,.int ep 0]
theorem IsSI.ty {s:Zl}(x:IsSI s.heap it F i a n ep):s.TypeIs (.ref it) "set_iterator":=let ⟨o,ho,hc,_⟩:=x;⟨o,ho,hc⟩
section
variable {pr:ZC}{wd:ZU}{A:ZJ}{E:QvT}{s:Zl}{a it:Zq}{o:Obj}{es:Array (Int×Zh)}{ep i n sl:Nat}{t:SetTable}
theorem Jlf (hb:byT wd=Zj)(ho:s.heap.get? a=Za o)(hd:o.data=.set es ep t)(hf:t.fits es.size=Zj){Q:Option (Zh×Nat)->Zl->Prop} 
  (h:Q (((Zfo (wd.params.setOrder a ep) es)[i]?).map λ e=>(e.2,sl)) s):Zu (Z6 pr wd) A (ZdH a sl i ep) Q E s:=by
 unfold ZdH
 refine Zc (ZbQ ho hd hf ?_)
 unfold Zfu
 refine Zc (Zc (Zcc (Zk ?_)))
 show Zu _ _ (if byT wd=Zj then _ else _) _ _ s
 rw[if_pos hb]
 dsimp only
 rw[if_neg (by simp)]
 unfold setWalk Zfu
 refine Zc (Zc (ZbQ ho hd hf ?_))
 refine Zc (Zc (Zcc (Zk ?_)))
 show Zu _ _ (if byT wd=Zj then _ else _) _ _ s
 rw[if_pos hb]
 exact Zc (Zcc (Zk (Zk h)))
theorem Jnt (hb:byT wd=Zm)(ho:s.heap.get? a=Za o)(hd:o.data=.set es ep t)(hf:t.fits es.size=Zj)(hp:(!t.plain&&decide (es.size>1))=Zm)(hl:t.led=Zj){Q:Option (Zh×Nat)->Zl->Prop} 
  (h:Q (match es[Za2 t.place sl]?,t.place[Za2 t.place sl]? with|some (_,x),Za j=>Za (x,j+1)|_,_=>Zd) s):Zu (Z6 pr wd) A (ZdH a sl i ep) Q E s:=by
 unfold ZdH
 refine Zc (ZbQ ho hd hf ?_)
 unfold Zfu
 refine Zc (Zc (Zcc (Zk ?_)))
 show Zu _ _ (if byT wd=Zj then _ else _) _ _ s
 rw[if_neg (by rw[hb];exact Zs)]
 show Zu _ _ (if (!t.plain&&decide (es.size>1))=Zj then _ else _) _ _ s
 rw[if_neg (by rw[hp];exact Zs)]
 refine Zc (show Zu _ _ (if (!t.led&&!es.isEmpty)=Zj then _ else _) _ _ s from ?_)
 rw[hl]
 simp only[Zcs,ZdR,ZX,if_false]
 exact Zk (Zk h)
theorem Jpg (ho:s.heap.get? a=Za o)(hd:o.data=.set es ep t)(hf:t.fits es.size=Zj)(hx:es[p]?=Za x)(h:Q x.2 s):Zu (Z6 pr wd) A (setNextDrawn a p ep) Q E s:=by
 unfold setNextDrawn
 refine Zc (ZbQ ho hd hf ?_)
 dsimp only
 rw[if_neg (by simp),hx]
 exact Zk h
theorem Jyp {x:Zh}{nx:Nat}{Q:Option Zh->Zl->Prop}(hit:IsSI s.heap it (.int sl 0) i a n ep)(ho:s.heap.get? a=Za o)(hd:o.data=.set es ep t)(hf:t.fits es.size=Zj)(hn:es.size=n) 
  (hN:∀(Q':Option (Zh×Nat)->Zl->Prop)(E':QvT),Q' (Za (x,nx)) s->Zu (Z6 pr wd) A.in1 (ZdH a sl i ep) Q' E' s)
  (hQ:∀h',IsSI h' it (.int nx 0) (i+1) a n ep->Zb3 it s.heap h'->Q (Za x) { s with heap:=h' }):Zu (Z6 pr wd) A (Zbv (.ref it)) Q E s:=by
 obtain⟨oi,hi,hc,hdi⟩:=id hit
 unfold Zbv
 refine Zc (Zd3 (Zcd (name:=ZaO "__next__") hit.ty QL (ZbE QL hit.ty Jfu ?_ (Jh0 _))))
 unfold ZbO.«set_iterator.__next__»
 refine Zc (Zk ?_)
 refine Zc (Zeb hi hdi ?_)
 show Zu _ A.in1 (Zfv a>>=_) _ _ s
 refine Zc (ZbX ho hd hf ?_)
 rw[if_neg (by rw[hn];simp)]
 show Zu _ A.in1 (ZdH a sl i ep>>=_) _ _ s
 refine Zc (hN _ _ ?_)
 show Zu _ A.in1 (Zf3 (.ref it) 0 (Za4 nx)>>=_) _ _ s
 refine Zc (Zbj hi hdi (by simp) ?_)
 have h1:(s.heap.update it (Zan (·.setIfInBounds 0 (Za4 (nx:Int))))).get? it=Za (oi.mapFields (·.setIfInBounds 0 (Za4 (nx:Int)))):=Zae _ hi (ZaZ (Zab hdi _))
 have d1:(oi.mapFields (·.setIfInBounds 0 (Za4 (nx:Int)))).data=.fields #[.int nx 0,.int i 0,.ref a,.int n 0,.int ep 0]:=by rw[Zab hdi];simp[Za4]
 refine Zc (Zbj h1 d1 (by simp) ?_)
 refine Zk ⟨_,rfl,Zk (hQ _ ⟨_,Zae _ h1 (ZaZ (Zab d1 _)),(Zdi ..).trans ((Zdi ..).trans hc),?_⟩ ((ZaT ..).trans (ZaT ..)))⟩
 rw[Zab d1]
 simp[Za4]
theorem Jnd {α:Type}{Qf:α->Zl->Prop}(hh:A.handled=Zd)(e1:ZcW it s.heap h1)(hE:∀h' e,ZcW it s.heap h'->(∃o,h'.get? e=Za o/\o.cls=.type "StopIteration")->E' (.ref e) { s with heap:=h' }) :
  Zu (Z6 pr wd) A.in1 (newExc (.type "StopIteration") []>>=λ e=>(raiseNew e:Sem α)) Qf E' { s with heap:=h1 }:=by
 refine Zc ?_
 simp only[newExc,newTuple]
 refine Zc (ZbN ?_ (by size_fits))
 refine Zc (m:=firstArgMember _ _) (Zed (a:=ZV) (by first|rfl|(simp only[firstArgMember];rfl)) ?_)
 refine ZbN ?_ (by size_fits)
 simp only[raiseNew]
 refine Zc (wpAny_handled ?_)
 rw[show A.in1.handled=Zd from hh]
 exact Zc (Zk (wpAny_throw (hE _ _ ((e1.push _).push _) ⟨_,Zv _ rfl,rfl⟩)))
theorem J1o {Q:Option Zh->Zl->Prop}(hh:A.handled=Zd)(hit:IsSI s.heap it (.int sl 0) i a n ep)(ho:s.heap.get? a=Za o)(hd:o.data=.set es ep t)(hf:t.fits es.size=Zj)(hn:es.size=n) 
  (hN:∀(Q':Option (Zh×Nat)->Zl->Prop)(E':QvT),Q' Zd s->Zu (Z6 pr wd) A.in1 (ZdH a sl i ep) Q' E' s)
  (hQ:∀h',ZcW it s.heap h'->Q Zd { s with heap:=h' }):Zu (Z6 pr wd) A (Zbv (.ref it)) Q E s:=by
 obtain⟨oi,hi,hc,hdi⟩:=id hit
 unfold Zbv
 refine Zc (Zd3 (Zcd (name:=ZaO "__next__") hit.ty QL (ZbE QL hit.ty Jfu ?_ (Jh0 _))))
 unfold ZbO.«set_iterator.__next__»
 refine Zc (Zk ?_)
 refine Zc (Zeb hi hdi ?_)
 show Zu _ A.in1 (Zfv a>>=_) _ _ s
 refine Zc (ZbX ho hd hf ?_)
 rw[if_neg (by rw[hn];simp)]
 show Zu _ A.in1 (ZdH a sl i ep>>=_) _ _ s
 refine Zc (hN _ _ ?_)
 show Zu _ A.in1 (Zf3 (.ref it) 2 .none>>=_) _ _ s
 refine Zc (Zbj hi hdi (by simp) ?_)
 refine Jnd (it:=it) hh (ZaT ..).extBut λ h' e x ⟨o',g',c'⟩=>?_
 exact Zc (Ze1 (T:="StopIteration") (b:=Zj) ⟨o',g',c'⟩ isSubtype_stop (Zk (hQ _ x)))
theorem Jym {ot:Obj}{its:Array Zh}{nt p:Nat}{x:Int×Zh}{tk:Tok}{Q:Option Zh->Zl->Prop}(hit:IsSI s.heap it (.ref T) i a n ep)(ho:s.heap.get? a=Za o)(hd:o.data=.set es ep t)(hf:t.fits es.size=Zj)(hn:es.size=n) 
  (hT:s.heap.get? T=Za ot)(dT:ot.data=.seq its nt)(hp:its[i]?=Za (.int p tk))(hx:es[p]?=Za x)
  (hQ:∀h',IsSI h' it (.ref T) (i+1) a n ep->Zb3 it s.heap h'->Q (Za x.2) { s with heap:=h' }):Zu (Z6 pr wd) A (Zbv (.ref it)) Q E s:=by
 obtain⟨oi,hi,hc,hdi⟩:=id hit
 unfold Zbv
 refine Zc (Zd3 (Zcd (name:=ZaO "__next__") hit.ty QL (ZbE QL hit.ty Jfu ?_ (Jh0 _))))
 unfold ZbO.«set_iterator.__next__»
 refine Zc (Zk ?_)
 refine Zc (Zeb hi hdi ?_)
 show Zu _ A.in1 (Zfv a>>=_) _ _ s
 refine Zc (ZbX ho hd hf ?_)
 rw[if_neg (by rw[hn];simp)]
 show Zu _ A.in1 (Zca (.ref T)>>=_) _ _ s
 refine Zc (Zba hT dT ?_)
 simp only[Za7,hp]
 refine Zc (Jpg ho hd hf hx ?_)
 refine Zc (Zbj hi hdi (by simp) ?_)
 refine Zk ⟨_,rfl,Zk (hQ _ ⟨_,Zae _ hi (ZaZ (Zab hdi _)),(Zdi ..).trans hc,?_⟩ (ZaT ..))⟩
 rw[Zab hdi]
 simp[Za4]
theorem J1m {ot:Obj}{its:Array Zh}{nt:Nat}{Q:Option Zh->Zl->Prop}(hh:A.handled=Zd)(hit:IsSI s.heap it (.ref T) i a n ep)(ho:s.heap.get? a=Za o)(hd:o.data=.set es ep t)(hf:t.fits es.size=Zj)(hn:es.size=n) 
  (hT:s.heap.get? T=Za ot)(dT:ot.data=.seq its nt)(hp:its[i]?=Zd)(hQ:∀h',ZcW it s.heap h'->Q Zd { s with heap:=h' }):Zu (Z6 pr wd) A (Zbv (.ref it)) Q E s:=by
 obtain⟨oi,hi,hc,hdi⟩:=id hit
 unfold Zbv
 refine Zc (Zd3 (Zcd (name:=ZaO "__next__") hit.ty QL (ZbE QL hit.ty Jfu ?_ (Jh0 _))))
 unfold ZbO.«set_iterator.__next__»
 refine Zc (Zk ?_)
 refine Zc (Zeb hi hdi ?_)
 show Zu _ A.in1 (Zfv a>>=_) _ _ s
 refine Zc (ZbX ho hd hf ?_)
 rw[if_neg (by rw[hn];simp)]
 show Zu _ A.in1 (Zca (.ref T)>>=_) _ _ s
 refine Zc (Zba hT dT ?_)
 simp only[Za7,hp]
 show Zu _ A.in1 (Zf3 (.ref it) 0 (Za4 0)>>=_) _ _ s
 refine Zc (Zbj hi hdi (by simp) ?_)
 have h1:(s.heap.update it (Zan (·.setIfInBounds 0 (Za4 0)))).get? it=Za (oi.mapFields (·.setIfInBounds 0 (Za4 0))):=Zae _ hi (ZaZ (Zab hdi _))
 have d1:(oi.mapFields (·.setIfInBounds 0 (Za4 0))).data=.fields #[.int 0 0,.int i 0,.ref a,.int n 0,.int ep 0]:=by rw[Zab hdi];simp[Za4]
 show Zu _ A.in1 (Zf3 (.ref it) 2 .none>>=_) _ _ _
 refine Zc (Zbj h1 d1 (by simp) ?_)
 have e1:=((ZaT s.heap it (Zan (·.setIfInBounds 0 (Za4 0)))).trans (ZaT (s.heap.update it (Zan (·.setIfInBounds 0 (Za4 0)))) it (Zan (·.setIfInBounds 2 .none)))).extBut
 refine Jnd (s:=s) (it:=it) (h1:=(s.heap.update it (Zan (·.setIfInBounds 0 (Za4 0)))).update it (Zan (·.setIfInBounds 2 .none))) hh e1 λ h' e x ⟨o',g',c'⟩=>?_
 exact Zc (Ze1 (T:="StopIteration") (b:=Zj) ⟨o',g',c'⟩ isSubtype_stop (Zk (hQ _ x)))
end
theorem Jqi:entryFor table "set_iterator.__iter__"=Za ZbO.«dict_keyiterator.__iter__» :=entryFor_alias (id':="dict_keyiterator.__iter__") (by kernel_rfl) rfl (by decide +kernel) (by kernel_rfl)
theorem Js1 (a:Zh):ZdW "set_iterator.__iter__" ⟨[a],[]⟩:=by unfold ZdW;kernel_rfl
section
variable {pr:ZC}{wd:ZU}{A:ZJ}{E:QvT}{s:Zl}{a it T:Zq}{o ot:Obj}{es:Array (Int×Zh)}{ep n nt:Nat}{t:SetTable}{ord:List Zh}
theorem IsSI.self (hit:IsSI s.heap it F i a n ep)(h:Q (.ref it) s):Zu (Z6 pr wd) A (Zeg (.ref it)) Q E s:=by
 refine wpAny_pyIter_slot hit.ty Jm8 (ZbE Jm8 hit.ty Jqi ?_ (Js1 _))
 show Zu _ _ (ret (.ref it)) _ _ s
 exact Zk ⟨_,rfl,"set_iterator",_,hit.ty,QL.lookup,h⟩
theorem IsSI.at {h h':Zar}(x:IsSI h it F i a n ep)(e:∀o,h.get? it=Za o->h'.get? it=Za o):IsSI h' it F i a n ep:=let ⟨o,ho,r⟩:=x;⟨o,e _ ho,r⟩
theorem Jsm (hh:A.handled=Zd)(ne:a≠it)(hd:o.data=.set es ep t)(hf:t.fits es.size=Zj)(hn:es.size=n)(sl:Nat->Nat)(lo:ord.length=n) 
  (hN:∀(i:Nat)(s:Zl)(x:Zh),s.heap.get? a=Za o->ord[i]?=Za x->∀(Q':Option (Zh×Nat)->Zl->Prop)(E':QvT),Q' (Za (x,sl (i+1))) s->Zu (Z6 pr wd) A.in1 (ZdH a (sl i) i ep) Q' E' s)
  (hE:∀(s:Zl),s.heap.get? a=Za o->∀(Q':Option (Zh×Nat)->Zl->Prop)(E':QvT),Q' Zd s->Zu (Z6 pr wd) A.in1 (ZdH a (sl n) n ep) Q' E' s) :
  Walks pr wd A it [it,a] [it] n (λ i v=>ord[i]?=Za v) (λ i h=>IsSI h it (.int (sl i) 0) i a n ep/\h.get? a=Za o) where
 sub:=λ b hb=>by simp at hb;simp[hb]
 frame:=λ _ _ _ st hk=>⟨st.1.at λ o e=>hk it (by simp) o e,hk a (by simp) _ st.2⟩
 item:=λ i s Q E hi st hQ=>by
  have hx:ord[i]?=Za (ord[i]'(by omega)):=Zb _
  refine Jyp st.1 st.2 hd hf hn (hN i s _ st.2 hx) λ h' hit' hs'=>?_
  exact hQ _ h' s.toks hx ⟨hit',(hs'.2 a ne).trans st.2⟩ λ b o hb e=>(hs'.2 b (λ h=>hb (by simp[h]))).trans e
 done:=λ s Q E st hQ=>J1o hh st.1 st.2 hd hf hn (hE s st.2) λ h' he'=>hQ h' s.toks λ b o hb e=>he' b o (λ h=>hb (by simp[h])) e
 self:=λ _ _ _ _ st hQ=>st.1.self hQ
theorem Jy4 (hh:A.handled=Zd)(ne:a≠it)(nT:T≠it)(hd:o.data=.set es ep t)(hf:t.fits es.size=Zj)(hn:es.size=n)(ps:List Nat)(lp:ps.length=n)(dT:ot.data=.seq (Zat (ps.map λ (i:Nat)=>Za4 i)) nt)(hp:∀p∈ps,p<es.size) :
  Walks pr wd A it [it,a,T] [it] n (λ i v=>(ps.map λ p=>(es.getD p (0,.none)).2)[i]?=Za v) (λ i h=>IsSI h it (.ref T) i a n ep/\h.get? a=Za o/\h.get? T=Za ot) where
 sub:=λ b hb=>by simp at hb;simp[hb]
 frame:=λ _ _ _ st hk=>⟨st.1.at λ o e=>hk it (by simp) o e,hk a (by simp) _ st.2.1,hk T (by simp) _ st.2.2⟩
 item:=λ i s Q E hi st hQ=>by
  have hi':i<ps.length:=by omega
  have pz:=hp _ (ZB hi')
  refine Jym (p:=ps[i]) (tk:=0) (x:=es[ps[i]]) st.1 st.2.1 hd hf hn st.2.2 dT (by simp[hi',Za4]) (ZaQ pz) λ h' hit' hs'=>?_
  refine hQ _ h' s.toks ?_ ⟨hit',(hs'.2 a ne).trans st.2.1,(hs'.2 T nT).trans st.2.2⟩ λ b o hb e=>(hs'.2 b (λ h=>hb (by simp[h]))).trans e
  simp[hi',ZcT,pz]
 done:=λ s Q E st hQ=>J1m hh st.1 st.2.1 hd hf hn st.2.2 dT (by simp[lp]) λ h' he'=>hQ h' s.toks λ b o hb e=>he' b o (λ h=>hb (by simp[h])) e
 self:=λ _ _ _ _ st hQ=>st.1.self hQ
theorem Jso (hm:m≠0)(h:∀i d',i<m->Q i { s with drawn:=d' }):Zu (Z6 pr wd) A (choose src m) Q E s:=λ Γ p _=>by
 show Sem.wp _ Γ (.choose src m .pure) _ _ p s
 rw[Sem.wp]
 refine⟨hm,?_⟩
 rw[Sem.wp]
 exact h _ _ (Nat.mod_lt _ (Nat.pos_of_ne_zero hm))
theorem Jqd:∀(n:Nat)(xs:List α)(s:Zl)(Q:List α->Zl->Prop),xs.length=n->(∀ys d',ys.Perm xs->Q ys { s with drawn:=d' })->Zu (Z6 pr wd) A (drawOrder n xs) Q E s
 | 0,xs,s,Q,h,hQ=>by
  obtain rfl:xs=[]:=Zal h
  unfold drawOrder
  exact Zk (hQ [] s.drawn (Zcy _))
 | n+1,[],s,Q,h,hQ=>by cases h
 | n+1,x::xs,s,Q,h,hQ=>by
  unfold drawOrder
  refine Zc (Jso (by simp) λ i d' hi=>?_)
  have e:(x::xs)[i]?=Za (x::xs)[i]:=Zb hi
  have el:((x::xs).eraseIdx i).length=n:=by rw[Zea hi,h];rfl
  have pm:=Jex e
  rw[e]
  dsimp only
  refine Zc (Jqd n _ _ _ el λ ys d2 p=>?_)
  exact Zk (hQ _ d2 ((p.cons _).trans pm))
structure WalkOf (pr:ZC)(wd:ZU)(a lo it:Zq)(h:Zar)(ns:List Int)(fp:List Zq)(ord:List Zh)(St:Nat->Zar->Prop):Prop where
 w:∀A:ZJ,A.handled=Zd->Walks pr wd A it fp [it] ns.length (λ i v=>ord[i]?=Za v) St
 st:St 0 h
 fp:∀b∈fp,b=a∨lo<=b
 zs:∃ms,Zbh ord ms/\ms.Perm ns
theorem Jy3 {l:List (Int×Zh)}(h:AllI l):Zbh (l.map (·.2)) (l.map λ e=>numOf e.2):=by
 have:=intsAre_map (l.map (·.2)) λ v hv=>by
  obtain⟨e,he,rfl⟩:=ZD.mp hv
  obtain⟨n,t,rfl⟩:=h e he
  exact⟨n,t,rfl⟩
 rwa [Zak] at this
theorem Jgy {l l':List (Int×Zh)}{ns:List Int}(h:AllI l)(en:l.map (λ e=>numOf e.2)=ns)(p:l'.Perm l):∃ms,Zbh (l'.map (·.2)) ms/\ms.Perm ns :=
 ⟨_,Jy3 (h.perm p),en▸p.map _⟩
theorem Jtz (hS:SetI wd s.heap a ns)(hQ:∀it h' d' fp ord St,WalkOf pr wd a s.heap.objs.size it h' ns fp ord St->(∀b o,s.heap.get? b=Za o->h'.get? b=Za o)->s.heap.objs.size<=it->Q (.ref it) { s with heap:=h',drawn:=d' }) :
  Zu (Z6 pr wd) A (Zeg (.ref a)) Q E s:=by
 obtain⟨o,es,ep,t,ho,hex,hd,ai,en,hb,hf,tb⟩:=hS
 have hT:s.TypeIs (.ref a) "set":=⟨o,ho,hex.1⟩
 have ln:es.size=ns.length:=by rw[<- en,Zn,ZP]
 have lt:=Zz ho
 refine wpAny_pyIter_slot hT ZeV (ZbE ZeV hT Jqj ?_ (PySem.F.args_set_iter_1 _))
 unfold ZbO.«frozenset.__iter__»
 refine Zc (Zk ?_)
 refine Zc (Zc (ZbX ho hd hf (Zk ?_)))
 refine Zc ?_
 unfold setDrawn Zfu
 refine Zc (ZbQ ho hd hf ?_)
 refine Zc (Zc (Zcc (Zk ?_)))
 refine Zk ?_
 show Zu _ _ (if (!byT wd&&(!t.plain&&decide (es.size>1)))=Zj then _ else _) _ _ s
 cases c:(!byT wd&&(!t.plain&&decide (es.size>1))) with
 | true =>
  rw[if_pos rfl]
  refine Zc (Jqd es.size (Z9 es.size) s _ (by simp) λ ps d' pm=>?_)
  have lp:ps.length=es.size:=by rw[pm.length_eq,ZaX]
  have hp:∀p∈ps,p<es.size:=λ p h=>ZR.mp (pm.mem_iff.mp h)
  refine Zc (wpAny_newTuple ?_ (by rw[Zn,lp];exact Zef hb))
  show Zu _ _ (setEpoch a>>=_) _ _ _
  refine Zc (wpAny_setEpoch_of (Ze _ ho) hd hf ?_)
  refine Zc (ZbN (Zk ⟨_,rfl,"set_iterator",_,⟨_,Zv _ rfl,rfl⟩,QL.lookup,?_⟩))
  have sz:(s.heap.push (ZM "tuple" (Zat (ps.map λ (i:Nat)=>Za4 i)) 0)).objs.size=s.heap.objs.size+1:=ZcS ..
  refine hQ _ _ d' [(s.heap.push (ZM "tuple" (Zat (ps.map λ (i:Nat)=>Za4 i)) 0)).objs.size,a,s.heap.objs.size] (ps.map λ p=>(es.getD p (0,.none)).2) (λ i h=>IsSI h (s.heap.push (ZM "tuple" (Zat (ps.map λ (i:Nat)=>Za4 i)) 0)).objs.size (.ref s.heap.objs.size) i a ns.length ep/\h.get? a=Za o/\h.get? s.heap.objs.size=Za (ZM "tuple" (Zat (ps.map λ (i:Nat)=>Za4 i)) 0)) ⟨λ A hh=>?_,?_,?_,?_⟩ (λ b o e=>Ze _ (Ze _ e)) (by rw[sz];exact ZaG _)
  ·exact Jy4 (ot:=ZM "tuple" (Zat (ps.map λ (i:Nat)=>Za4 i)) 0) (nt:=0) (o:=o) (ep:=ep) hh (by rw[sz];exact Z3 (ZaW lt)) (by rw[sz];exact Z3 (Zax _)) hd hf ln ps (by rw[lp,ln]) rfl hp
  ·refine⟨⟨_,Zv _ rfl,rfl,?_⟩,Ze _ (Ze _ ho),Ze _ (Zv _ rfl)⟩
   simp[Za4,ln]
  ·intro b hb
   simp only[Z2,ZL,or_false] at hb
   rcases hb with rfl|rfl|rfl
   ·exact .inr (by rw[sz];exact ZaG _)
   ·exact .inl rfl
   ·exact .inr (Zr _)
  ·have e1:(ps.map λ p=>(es.getD p (0,.none)).2)=(ps.map λ p=>es.getD p (0,.none)).map (·.2):=by rw[Zak];rfl
   rw[e1]
   refine Jgy ai en ?_
   have e2:(Z9 es.size).map (λ p=>es.getD p (0,.none))=es.toList:=by
    refine Zbx (by simp) λ i h1 h2=>?_
    have h3:i<es.size:=by simpa using h1
    simp[ZcT,h3]
   rw[<- e2]
   exact pm.map _
 | false =>
  rw[if_neg Zs]
  refine Zc (Zk ?_)
  show Zu _ _ (setEpoch a>>=_) _ _ _
  refine Zc (wpAny_setEpoch_of ho hd hf ?_)
  refine Zc (ZbN (Zk ⟨_,rfl,"set_iterator",_,⟨_,Zv _ rfl,rfl⟩,QL.lookup,?_⟩))
  have fpz:∀b∈[s.heap.objs.size,a],b=a∨s.heap.objs.size<=b:=λ b hb=>by
   simp only[Z2,ZL,or_false] at hb
   rcases hb with rfl|rfl
   ·exact .inr (Zr _)
   ·exact .inl rfl
  have go:∀(sl:Nat->Nat)(ord:List Zh),sl 0=0->(∀A:ZJ,A.handled=Zd->Walks pr wd A s.heap.objs.size [s.heap.objs.size,a] [s.heap.objs.size] ns.length (λ i v=>ord[i]?=Za v) (λ i h=>IsSI h s.heap.objs.size (.int (sl i) 0) i a ns.length ep/\h.get? a=Za o))->(∃ms,Zbh ord ms/\ms.Perm ns) ->
    Q (.ref s.heap.objs.size) { s with heap:=s.heap.push { cls:=.type "set_iterator",data:=.fields #[.int 0 0,.int 0 0,.ref a,.int ns.length 0,.int ep 0] } }:=λ sl ord h0 w q =>
   hQ _ _ s.drawn _ ord _ ⟨w,⟨⟨_,Zv _ rfl,rfl,by rw[h0];rfl⟩,Ze _ ho⟩,fpz,q⟩ (λ b o e=>Ze _ e) (Zr _)
  have ne:a≠s.heap.objs.size:=Z3 lt
  rw[ln]
  show Q (.ref s.heap.objs.size) { s with heap:=s.heap.push { cls:=.type "set_iterator",data:=.fields #[.int 0 0,.int 0 0,.ref a,.int ns.length 0,.int ep 0] } }
  cases hb':byT wd with
  | true =>
   have pm:=Jrq (wd.params.setOrder a ep) es
   have lo:((Zfo (wd.params.setOrder a ep) es).toList.map (·.2)).length=ns.length:=by rw[Zn,pm.length_eq,ZP,ln]
   refine go (λ _=>0) ((Zfo (wd.params.setOrder a ep) es).toList.map (·.2)) rfl (λ A hh=>Jsm hh ne hd hf ln (λ _=>0) lo (λ i s' x g e Q' E' q=>Jlf hb' g hd hf ?_) (λ s' g Q' E' q=>Jlf hb' g hd hf ?_)) (Jgy ai en pm)
   ·rw[Zy,Zcu] at e
    obtain⟨y,ey,rfl⟩:=Z8.mp e
    rw[ey]
    exact q
   ·rw[Zdl (by rw[Zn,ZP] at lo;omega)]
    exact q
  | false =>
   rw[hb'] at c tb
   have c:(!t.plain&&decide (es.size>1))=Zm:=c
   have pz:t.place.size=es.size:=by
    unfold SetTable.fits at hf
    simp only[Zp,beq_iff_eq] at hf
    exact hf.1
   have lo:(es.toList.map (·.2)).length=ns.length:=by rw[Zn,ZP,ln]
   refine go (Ys t.place) (es.toList.map (·.2)) rfl (λ A hh=>Jsm hh ne hd hf ln (Ys t.place) lo (λ i s' x g e Q' E' q=>Jnt hb' g hd hf c tb.l ?_) (λ s' g Q' E' q=>Jnt hb' g hd hf c tb.l ?_)) (Jgy ai en (Zcy _))
   ·rw[Zy,Zcu] at e
    obtain⟨y,ey,rfl⟩:=Z8.mp e
    have hi:i<es.size:=(Zbi.mp ey).1
    rw[Jhq tb.r (by omega),ey,ZaQ (show i<t.place.size by omega)]
    have:Ys t.place (i+1)=t.place[i]+1:=by simp[Ys,ZcT,show i<t.place.size by omega]
    rw[this] at q
    exact q
   ·rw[Jhq tb.r (by omega),Zdl (by omega)]
    exact q
end
theorem Jyn:Zfs (.type "set") "__len__"=pure (Za (.builtin "set.__len__")):=by rw[ZeM,Zds];kernel_rfl
section
variable {pr:ZC}{wd:ZU}{A:ZJ}{E:QvT}{s:Zl}{a:Zq}
theorem Jt4 (hT:s.TypeIs (.ref a) "set")(h:Q Zm s):Zu (Z6 pr wd) A (ZdI (.ref a)) Q E s:=by
 unfold ZdI
 refine Zc (wpAny_specialOf hT Jyn ?_)
 dsimp only
 rw[show splitId "set.__len__"=Za ("set","__len__") from by decide +kernel]
 dsimp only
 refine Zc (Ze1 (b:=Zj) hT PySem.sub_set_self ?_)
 simp only[Zcs,ZX,if_false]
 rw[if_pos (by decide +kernel)]
 exact Zc (wpAny_typeOf hT (Zk h))
theorem Jlo (hh:A.handled=Zd)(hS:SetI wd s.heap a ns)(hb:ns.length<4096)(hQ:∀h' d' tk ord ms,Zbh ord ms->ms.Perm ns->(∀b o,s.heap.get? b=Za o->h'.get? b=Za o)->s.heap.objs.size<h'.objs.size->Q ord { s with heap:=h',drawn:=d',toks:=tk }) :
  Zu (Z6 pr wd) A (collect (.ref a)) Q E s:=by
 obtain⟨o,hoo⟩:∃o,s.heap.get? a=Za o/\o.cls=.type "set":=by
  obtain⟨o,es,ep,t,ho,hex,_⟩:=hS
  exact⟨o,ho,hex.1⟩
 have la:=Zz hoo.1
 unfold collect
 refine Zc (ZdY (Zaa ZdJ ?_))
 rw[ZG ZdK _]
 show Zu _ A.in1 (newList []>>=λ l=>again (.builtin "list.__iadd__" ⟨[l,.ref a],[]⟩)) _ _ s
 refine Zc (ZbT ?_ (ZK _))
 refine Zk ⟨Zav Zce _,Zaa Ze2 ?_⟩
 rw[ZG Zce _]
 show Zu _ A.in1 (Zcw (.ref s.heap.objs.size) (.ref a) (.ref s.heap.objs.size)) _ _ _
 unfold Zcw
 have keep1:∀b o,s.heap.get? b=Za o->(s.heap.push (ZM "list" #[] 0)).get? b=Za o:=λ b o e=>Ze _ e
 have gL:(s.heap.push (ZM "list" #[] 0)).get? s.heap.objs.size=Za (ZM "list" #[] 0):=Zv _ rfl
 have hT1:Zem { s with heap:=s.heap.push (ZM "list" #[] 0) } (.ref a) "set":=⟨o,keep1 _ _ hoo.1,hoo.2⟩
 refine Zc (wpAny_typeOf hT1 ?_)
 have h1:Zen (.ref s.heap.objs.size) (.ref a)=Zm:=by simp[Zen,ZaA la]
 rw[if_neg (by rw[h1];decide)]
 refine Zc (Jtz (s:={ s with heap:=s.heap.push (ZM "list" #[] 0) }) (hS.moved λ o e=>keep1 _ _ e) λ it h2 d2 fp ord St W keep2 le=>?_)
 have sz1:(s.heap.push (ZM "list" #[] 0)).objs.size=s.heap.objs.size+1:=ZcS ..
 have gL2:=keep2 _ _ gL
 have hT2:Zem { s with heap:=h2,drawn:=d2 } (.ref a) "set":=⟨o,keep2 _ _ (keep1 _ _ hoo.1),hoo.2⟩
 refine Zc (ZT (Jt4 (s:={ s with heap:=h2,drawn:=d2 }) hT2 ?_))
 rw[if_pos (by decide +kernel)]
 refine Zc (Zdy ?_)
 have nS:s.heap.objs.size∉fp:=λ hb=>by
  rcases W.fp _ hb with e|e
  ·exact absurd e (ZaA la)
  ·rw[show({ s with heap:=s.heap.push (ZM "list" #[] 0) }:Zl).heap.objs.size=s.heap.objs.size+1 from sz1] at e
   exact absurd e (Nat.not_le_of_gt (Zax _))
 have bg:10<=sizeLine:=by decide
 unfold Builtin.List.listTouch
 refine Zc (Zc (ZcI (f:=(·.push .none)) gL2 rfl ?_ (ZK _) (show 1<=sizeLine+1 by omega)))
 obtain⟨c3,g3⟩:∃c3,(h2.update s.heap.objs.size (ZW (·.push .none))).get? s.heap.objs.size=Za (ZM "list" #[.none] c3):=⟨_,Zbp gL2 (·.push .none)⟩
 refine ZcI (f:=(·.pop)) g3 rfl ?_ (show 1<=sizeLine by omega) (ZK _)
 obtain⟨c4,g4⟩:∃c4,((h2.update s.heap.objs.size (ZW (·.push .none))).update s.heap.objs.size (ZW (·.pop))).get? s.heap.objs.size=Za (ZM "list" #[] c4):=⟨_,Zbp g3 (·.pop)⟩
 have keep4:∀b o,b≠s.heap.objs.size->h2.get? b=Za o->((h2.update s.heap.objs.size (ZW (·.push .none))).update s.heap.objs.size (ZW (·.pop))).get? b=Za o:=λ b o nb e=>(Zw _ _ (ZO nb)).trans ((Zw _ _ (ZO nb)).trans e)
 generalize (h2.update s.heap.objs.size (ZW (·.push .none))).update s.heap.objs.size (ZW (·.pop))=h4 at g4 keep4
 have st4:=(W.w A.in1 hh).frame 0 h2 h4 W.st λ b hb o e=>keep4 b o (λ z=>nS (z▸hb)) e
 refine Zk ⟨Zav PySem.F.plain_extend_loop _,codeAny_extend_loopS (W.w A.in1 hh).toS (Zaf (Zb2 hb) (by decide)) _ nS _ ns.length 0 _ #[] c4 rfl (ZK _) st4 g4 (ItemsOf.nil _) λ s5 acc c5 mv g5 hacc=>?_⟩
 show Zu _ A (load s.heap.objs.size>>=_) _ _ s5
 refine Zc (wpAny_load g5 ?_)
 refine Zk ?_
 obtain⟨ms,hi,hp⟩:=W.zs
 have eo:acc.toList=ord:=by
  have lo:ord.length=ns.length:=by rw[hi.length,hp.length_eq]
  refine Zb9 λ i=>?_
  by_cases hi':i<ns.length
  ·have e1:acc.toList[i]?=Za (acc[i]'(by rw[hacc.1];exact hi')):=by simp[hacc.1,hi']
   rw[e1]
   exact(hacc.2 i _ (by simp[hacc.1,hi'])).symm
  ·rw[Zay (by rw[ZP,hacc.1];omega),Zay (by omega)]
 rw[eo]
 obtain⟨h5,g5',d5,tk5,os5⟩:=s5
 have eg:g5'=s.gens:=mv.gens
 have ed:d5=d2:=mv.drawn
 have eos:os5=s.os:=mv.os
 subst eg;subst ed;subst eos
 refine hQ h5 d5 tk5 ord ms hi hp (λ b o e=>?_) (Zz g5)
 have lb:=Zz e
 have b1:b≠s.heap.objs.size:=Z3 lb
 have le':s.heap.objs.size+1<=it:=by rw[<- sz1];exact le
 have b2:b≠it:=Z3 (ZI lb (Zaf (ZaG _) le'))
 exact mv.heap b o (by simp only[Z2,ZL,or_false,not_or];exact⟨b1,b2⟩) (keep4 b o b1 (keep2 _ _ (keep1 _ _ e)))
theorem Jpc {ns:List Int}{Q:QvT}(hh:A.handled=Zd)(hS:SetI wd s.heap a ns)(h64:ns.length<64) 
  (h:∀D h' d' tk out ns' c,Zbh out ns'->ns'.Perm ns->ns'.Pairwise (· <= ·)->s.heap.objs.size<=D->(∀b o,s.heap.get? b=Za o->h'.get? b=Za o)->h'.get? D=Za (ZM "list" (Zat out) c)->Q (.ref D) { s with heap:=h',drawn:=d',toks:=tk }) :
  Zu (Z6 pr wd) A (call (.builtin "sorted") [.ref a]) Q E s:=by
 refine Calls.call_function_entry kind_sorted Zf4 Zf5 (args_sorted1 _) ?_
 unfold ZbO.«sorted»
 refine Zc (m:=checkCount "sorted" 1 1 _) (Zk ?_)
 refine Zc (Jlo hh hS (by omega) λ h2 d2 tk2 ord ms hi hp keep lz=>?_)
 have lo:ord.length=ns.length:=by rw[hi.length,hp.length_eq]
 refine Zc (ZbT ?_ (by rw[lo,ZaL];omega))
 have gL:(h2.push (ZM "list" ord.toArray 0)).get? h2.objs.size=Za (ZM "list" ord.toArray 0):=Zv _ rfl
 refine Zc (ZT (ZbE (s:={ s with heap:=h2.push (ZM "list" ord.toArray 0),drawn:=d2,toks:=tk2 }) slot_list_sort ⟨_,gL,rfl⟩ entry_list_sort (list_sort_tree (s:={ s with heap:=h2.push (ZM "list" ord.toArray 0),drawn:=d2,toks:=tk2 }) gL hi (by omega) λ out ns' a1 a2 a3=>⟨_,rfl,?_⟩) (args_list_sort _)))
 obtain⟨e1,ho1⟩:∃e1,((h2.push (ZM "list" ord.toArray 0)).update h2.objs.size (ZW λ _=>#[])).get? h2.objs.size=Za (ZM "list" #[] e1):=⟨_,Zbp gL (λ _=>#[])⟩
 have ho6:((((h2.push (ZM "list" ord.toArray 0)).update h2.objs.size (ZW λ _=>#[])).push (ZM "tuple" ord.toArray 0)).push (ZM "list" #[] 0)).get? h2.objs.size=Za (ZM "list" #[] e1):=Ze _ (Ze _ ho1)
 obtain⟨c,hc⟩:∃c,(sortedHeap (h2.push (ZM "list" ord.toArray 0)) h2.objs.size ord out).get? h2.objs.size=Za (ZM "list" out c):=⟨_,Zbp ho6 (λ _=>out)⟩
 refine Zk ⟨_,rfl,h h2.objs.size _ d2 tk2 out.toList ns' c a1 (a2.trans hp) a3 (Zb2 lz) (λ b o e=>?_) (by rw[Array.toArray_toList];exact hc)⟩
 have nb:b≠h2.objs.size:=Z3 (Zz (keep b o e))
 exact(Zw _ _ (ZO nb)).trans (Ze _ (Ze _ ((Zw _ _ (ZO nb)).trans (Ze _ (keep b o e)))))
end
theorem Jqz {X:Cx}{pj:PnT}{σ:L2.St}{H:Hp}{s:Zl}{d:Drawn}(I:Inv X pj σ H s):Inv X pj σ H { s with drawn:=d }:=⟨I.ok,I.os,I.bare,I.base,I.loc,I.cell,I.free,I.freeC,I.pin,I.hok,I.len⟩
section
variable {ce:CeT}{X:Cx}
def XZ (aa:A1):E1:=λ σ h=>(aa σ h).bind λ xs h1=>match xs with
 | [.ref i]=>(match h1[i]? with
  | some (.lst ys)=>(match JA ys with
   | some zs=>if zs.length<64 then .ok (.ref h1.length) (h1++[.lst ((Vc (ddN (Qm zs) zs.length)).map .int)]) else .stuck
   | none=>.stuck)
  | _=>.stuck)
 | _=>.stuck
theorem Jqw {a:Expr}{aa:A1}{p pos p2 pos2:Pos}(hh:X.A.handled=Zd)(g1:Gl X "sorted")(m1:X.mg "sorted"=Zd)(g2:Gl X "set")(m2:X.mg "set"=Zd)(ha:PAi ce X [a] aa)(hs:ZE [a] X.env=[(Zm,Zbr a X.env)]) :
  PEi ce X (.Call (.Name "sorted" p) [.Call (.Name "set" p2) [a] [] pos2] [] pos) (XZ aa):=λ pj s σ H ι σi h Q E N K=>by
 refine Zac (Qh N.inv g1 m1 rfl ?_)
 refine Zbw ?_ rfl rfl
 refine Zc8 ?_
 refine Zac (Qh N.inv g2 m2 rfl ?_)
 refine ZaJ ?_ hs rfl
 refine(ha pos2).run N K λ xs h1 us s1 H1 ι1 N1 n1 r1 K1=>?_
 obtain⟨vs,rv,qs⟩:=r1
 match xs,K1 with
 | [.ref i],K1 =>
  obtain⟨w,rfl,ad,rfl,hav⟩:=qs.one_of
  obtain⟨u,rfl,ru⟩:=QE rv
  cases ru
  dsimp only at K1
  cases hi:h1[i]? with
  | none=>rw[hi] at K1;exact Zf K1
  | some ob =>
   rw[hi] at K1
   cases ob with
   | lst ys =>
    dsimp only at K1
    cases hb:JA ys with
    | none=>rw[hb] at K1;exact Zf K1
    | some zs =>
     rw[hb] at K1
     dsimp only at K1
     split at K1
     ·rename_i room
      obtain⟨ws,e1,r3⟩:=N1.at hi hav
      obtain⟨its,rv2,pl,_⟩:=N1.inv.list (SqL.of e1)
      have are:=Vo hb r3 rv2
      have dl:=Jp5 (Qm zs) zs.length
      refine Jr7 hh pl.isList are (show zs.length+1<4096 by omega) λ h2 tk hS keep=>Zc9 ?_
      obtain⟨ms,hm,pm⟩:=hS
      have lm:ms.length<=zs.length:=by rw[pm.length_eq];exact dl
      refine Jpc (s:={ s1 with heap:=h2,toks:=tk }) hh hm (by omega) λ D h3 d3 tk3 out ns' c a1 a2 a3 le keep3 hc=>?_
      have en:=Ju0 (a2.trans pm) a3
      subst en
      have leD:s1.heap.objs.size<=D:=by
       obtain⟨o,es,ep,t,ho,_⟩:=hm
       exact Zaf (Zb2 (Zz ho)) le
      have hl:((Vc (ddN (Qm zs) zs.length)).map V.int).length<=sizeLine:=by
       have:=(a2.trans pm).length_eq
       rw[Zn,this,ZaL]
       omega
      have I':=N1.inv.laid (a:=D) (o:=.lst ((Vc (ddN (Qm zs) zs.length)).map V.int)) (h':=h3) (t':=tk3) (λ b u q=>keep3 _ _ (keep _ _ q)) leD ⟨hl,out,c,XG a1,hc⟩
      exact finA N1 K1 D (N1.inv.hok.fresh leD) ⟨_,J0,Jiy _⟩ _ _ (Jqz (d:=d3) I') rfl
     ·exact Zf K1
   | _=>exact Zf K1
 | [],K1=>exact Zf K1
 | [.non],K1=>exact Zf K1
 | [.bl _],K1=>exact Zf K1
 | [.int _],K1=>exact Zf K1
 | [.str _],K1=>exact Zf K1
 | [.tup _],K1=>exact Zf K1
 | [.rol _],K1=>exact Zf K1
 | x::_::_,K1=>cases x<;>exact Zf K1
end
end L3
namespace L3
open PySem PySem.Spec PyProof.Rows L2 PySem.W
def V6 (x:IV)(h:IH):Option (Nat×List IV):=match x with
 | .ref i=>(match h[i]? with
  | some (.lst xs)=>Za (i,xs)
  | _=>Zd)
 | _=>Zd
theorem Jhv (e:V6 x h=Za (i,xs)):x=.ref i/\h[i]?=Za (.lst xs):=by
 unfold V6 at e
 split at e
 ·split at e
  ·rename_i q
   cases e
   exact⟨rfl,q⟩
  ·cases e
 ·cases e
def X4 (x:IV)(as:List IV)(h:IH):Res IV:=match V6 x h,as with
 | some (i,xs),[]=>(match xs[xs.length-1]? with
  | some y=>.ok y (h.set i (.lst xs.dropLast))
  | none=>.stuck)
 | _,_=>.stuck
def X6 (x:IV)(as:List IV)(h:IH):Res IV:=match V6 x h,as with
 | some (i,xs),[.int k]=>(match JA xs with
  | some ns=>(match ns.findIdx? (· ==k) with
   | some j=>.ok .non (h.set i (.lst (xs.eraseIdx j)))
   | none=>.stuck)
  | none=>.stuck)
 | _,_=>.stuck
section
variable {ce:CeT}{X:Cx}
theorem J0k:MtI ce X "list" "list.pop" X4:=by
 intro pj s σ H ι σi h x xs v us Q E N rx rs K
 unfold X4 at K
 split at K
 ·rename_i i zs e
  obtain⟨rfl,hi⟩:=Jhv e
  split at K
  ·rename_i y hy
   obtain⟨xv,rx,a,rfl,ha⟩:=rx
   obtain⟨vs,rv,qs⟩:=rs
   cases (show vs=[] from qs)
   obtain⟨ws,e1,r1⟩:=N.at hi ha
   obtain⟨z,hz,qz⟩:=r1.get hy
   exact Jwq (J0p (X:=X.wish E)) N.inv rx rv ⟨a,ws,z,rfl,rfl,e1,by rw[r1.length];exact hz,finW (ys:=zs.dropLast) N K ha e1 (by rw[ZeW,ZeW,r1.length];exact r1.take _) qz⟩
  ·exact Zf K
 ·exact Zf K
theorem Jt7:MtI ce X "list" "list.remove" X6:=by
 intro pj s σ H ι σi h x xs v us Q E N rx rs K
 unfold X6 at K
 split at K
 ·rename_i i zs k e
  obtain⟨rfl,hi⟩:=Jhv e
  split at K
  ·rename_i ns hb
   split at K
   ·rename_i j hj
    obtain⟨xv,rx,a,rfl,ha⟩:=rx
    obtain⟨vs,rv,qs⟩:=rs
    obtain⟨w,rfl,qw⟩:=qs.one_of
    cases (show w=.int k from qw)
    obtain⟨u,rfl,t,rfl⟩:=QE rv
    cases rx
    obtain⟨ws,e1,r1⟩:=N.at hi ha
    obtain⟨z,its,n,r,hl,eo⟩:=N.inv.lstM e1
    have are:=Vo hb r1 r
    have ln:=Jbw are
    obtain⟨hlt,hp,hno⟩:=Zdd.mp hj
    have at_:∀m (hm:m<its.toArray.size),∃t,its.toArray[m]=.int (ns.getD m 0) t:=λ m hm=>Zff are m _ (by simp at hm;simp[hm])
    refine ZdS F.slot_list_remove ⟨_,eo,rfl⟩ F.entry_list_remove (F.args_list_remove_2 _ _)
     (MeetsSeq.list_remove a its.toArray n (.int k t) (isK k) (λ y hy=>?_) j (by simp;omega) ?_ (λ m hm hmj=>?_) (by rw[Zx];omega)) ⟨eo,?_⟩
    ·obtain⟨m,hm,rfl⟩:=Array.mem_iff_getElem.mp hy
     obtain⟨t',e⟩:=at_ m hm
     rw[e]
     exact MeetsSeq.EqGives.int _ _ _ _
    ·obtain⟨t',e⟩:=at_ j (by simp;omega)
     rw[e]
     simpa [isK,Zg,hlt] using hp
    ·obtain⟨t',e⟩:=at_ m hm
     rw[e]
     have:=hno m hmj
     have hm2:m<ns.length:=by omega
     simpa [isK,Zg,hm2] using this
    ·exact finW (ys:=zs.eraseIdx j) (ws:=ws.eraseIdx j) N K ha e1 (r1.erase _) rfl _ _ (N.inv.lset (its':=its.eraseIdx j) e1 eo (by rw[Zdr]) (r.eraseIdx j) (by have:=Jkr ws j;omega)) rfl
   ·exact Zf K
  ·exact Zf K
 ·exact Zf K
end
section
variable {pr:ZC}{wd:ZU}{A:ZJ}{E:QvT}{s:Zl}
theorem Jib {Q:List Zh->Zl->Prop}{n:Nat}(hh:A.handled=Zd)(hr:IsRange s.heap r a b c t u v)(hsmall:Builtin.Range.small a b c=Zj) 
  (hn:Zer a b c=n)(hlen:n<=2^24)(hQ:∀h' tk acc,(∀b o,s.heap.get? b=Za o->h'.get? b=Za o)->s.heap.objs.size<=h'.objs.size->ItemsOf (λ i v=>∃t,v=.int (a+i*c) t) acc n->Q acc.toList { s with heap:=h',toks:=tk }) :
  Zu (Z6 pr wd) A (collect (.ref r)) Q E s:=by
 unfold collect
 refine Zc (ZdY (Zaa ZdJ ?_))
 rw[ZG ZdK _]
 show Zu _ A.in1 (newList []>>=λ l=>again (.builtin "list.__iadd__" ⟨[l,.ref r],[]⟩)) _ _ s
 refine Zc (ZbT ?_ (ZK _))
 refine Zk ⟨Zav Zce _,Zaa Ze2 ?_⟩
 rw[ZG Zce _]
 show Zu _ A.in1 (Zcw (.ref s.heap.objs.size) (.ref r) (.ref s.heap.objs.size)) _ _ _
 refine wpAny_extend_range (R:=λ r s'=>match r with|.ok (.ret v)=>Zu (Z6 pr wd) A (match v with|.ref a=>(do match (<- load a).data with|.seq xs _=>pure xs.toList|_=>unsupported "internal:collect")|_=>unsupported "internal:collect") Q E s'|.ok _=>False|.error e=>E e s') (s:={ s with heap:=s.heap.push { cls:=.type "list",data:=.seq #[] } }) hh (Ze _ hr) hsmall hn hlen s.heap.objs.size _ 0 (Zv _ rfl) λ h' tk acc c' keep g its=>?_
 show Zu _ A (load s.heap.objs.size>>=_) _ _ _
 refine Zc (wpAny_load g ?_)
 exact Zk (hQ h' tk acc (λ b o e=>keep b o (Z3 (Zz e)) (Ze _ e)) (Zb2 (Zz g)) its)
end
section
variable {ce:CeT}{X:Cx}
def XY (q:Str)(j:Nat)(js:List Nat)(aa:A1)(m:E1):E1:=λ σ h=>(aa σ h).bind λ xs h1=>match xs,h1[j]? with
 | [.int n],Za (.tab q')=>if q'=q/\0<=n/\n<64 then(Qn (λ v h'=>m (Za v::js.map λ j=>(σ[j]?).join) h') (rngI 0 n) [] h1).bind (Xa Zj (rngI 0 n)) else .stuck
 | _,_=>.stuck
theorem Jtq {k:Nat}{q x:Str}{caps:List Str}{js:List Nat}{j:Nat}{a body:Expr}{aa:A1}{m:E1}{params:Zcr}{scope:Zb1}{p p2 lp pos pos2 kp kp2 cp:Pos}{ck:Nat}(hh:X.A.handled=Zd)(hg:Gl X "sorted")(hm:X.mg "sorted"=Zd)(g2:Gl X "range")(m2:X.mg "range"=Zd)(ha:PAi ce X [a] aa)(hs:ZE [a] X.env=[(Zm,Zbr a X.env)])
  (hr:Room (k+3) X.A)(hcd:W.codeIn X.K X.env.code q=Zj)(hq:X.env.qual=q++".<locals>.")(B:Qs X.mg X.base)(hx:Qo params=Za x)(S:LamSc X.N X.env.scope.names x caps js scope)
  (hb:∀f cd s' H',PEi ce (cxL X X.A.in1.in1 (x::caps) q scope f cd s' H') body m) :
  PEi ce X (.Call (.Name "sorted" p) [.Call (.Name "range" p2) [a] [] pos2] [⟨Za "key",.Lambda params body scope lp,kp⟩,⟨Za "reverse",.Constant (.bool Zj) ck cp,kp2⟩] pos) (XY q j js aa m):=λ pj s σ H ι σi h Q E N K=>by
 have hcl:Zdx scope X.env=pure (clOf X.env.cells scope.names []):=Jao λ y hm hk=>N.inv.ok.has y.1 (.inl (S.free y hm hk))
 refine Zac (Qh N.inv hg hm rfl ?_)
 refine Zfg ?_ rfl rfl rfl rfl
 refine Zc8 ?_
 refine Zac (Qh N.inv g2 m2 boot_range ?_)
 refine ZaJ ?_ hs rfl
 refine(ha pos2).run N K λ xs h1 us s1 H1 ι1 N1 n1 r1 K1=>?_
 obtain⟨vs,rv,qs⟩:=r1
 split at K1
 ·rename_i n q' ej
  split at K1
  ·rename_i hc
   obtain⟨rfl,n0,n64⟩:=hc
   obtain⟨w,rfl,qw⟩:=qs.one_of
   cases (show w=.int n from qw)
   obtain⟨u,rfl,t,rfl⟩:=QE rv
   refine call_range_1 (Zc9 ?_)
   have gr:(s1.heap.push { cls:=.type "range",data:=.fields #[.int 0 s1.toks,.int n t,.int 1 (s1.toks+1)] }).get? s1.heap.objs.size=Za { cls:=.type "range",data:=.fields #[.int 0 s1.toks,.int n t,.int 1 (s1.toks+1)] }:=Zv _ rfl
   have N1':=(N1.keptH (h':=s1.heap.push { cls:=.type "range",data:=.fields #[.int 0 s1.toks,.int n t,.int 1 (s1.toks+1)] }) (t':=s1.toks+1+1) λ b o e=>Ze _ e)
   have F1:FpOk X pj H1 s1.heap.objs.size:=N1.inv.fpOk (Zr _) (N1.inv.hok.fresh (Zr _))
   have N2:=N1'.pinO gr F1 λ v z=>by cases z
   have K2:=Kont.more (pl:=[(s1.heap.objs.size,({ cls:=.type "range",data:=.fields #[.int 0 s1.toks,.int n t,.int 1 (s1.toks+1)] }:Obj))]) K1
   refine Zbs (Zc (Jis N2 ej hcd hq (Jir hx) hcl B λ f c pm ctv s3 H3 N3 n3 LC=>Zc (ZbD (Zk ?_))))
   refine Zbs (Zc (Zk (Zc (ZbD (Zk (ZbU ?_))))))
   have K3:=Kont.more (pl:=[(f,lamO q' params body scope (clOf X.env.cells scope.names []) pm ctv c)]) (Kont.mono K2 n3)
   have pr:=N3.inv.pin (s1.heap.objs.size,{ cls:=.type "range",data:=.fields #[.int 0 s1.toks,.int n t,.int 1 (s1.toks+1)] }) (Zo _ (ZY _ (Zo _ (Z5.mpr rfl))))
   refine ZeG kind_sorted Zf4 Zf5 (ksk_s2 _ _ _) ?_
   unfold ZbO.«sorted»
   refine Zc (m:=checkCount "sorted" 1 1 _) (Zk ?_)
   refine Zc (Jib (n:=n.toNat) hh pr.1 (small_one (by decide) (by decide) (by omega) (by omega)) ?_ (by omega) λ h4 tk acc keep le its=>?_)
   ·rw[rangeSize_one]
    split<;>omega
   have are:Zbh acc.toList ((Z9 n.toNat).map λ k=>((k:Nat):Int)):=by
    refine Jqx _ _ (by simp[its.1]) λ i v hv=>?_
    obtain⟨t,rfl⟩:=its.2 i v (by simpa using hv)
    have hi:i<n.toNat:=by
     have:=(Zt.mp hv).1
     simp only[ZP,its.1] at this
     exact this
    exact⟨t,by simp[Zg,hi]⟩
   refine Jsd (G:=λ H=>Qz H q' (.ref c)) (mk:=λ v h'=>m (Za v::js.map λ j=>(σi[j]?).join) h') (ys:=rngI 0 n) (λ a=>ksk_t2 f a Zj) (λ a=>ksk_l2 a _ _) ?_ (λ H H' e g=>g.mono e.frzs) N3 LC keep le (XG are) (by rw[X7];exact Jiy _) (by rw[X7];simp;omega) (λ D s' q=>⟨_,rfl,q⟩) K3
   intro pl s4 H4 ι4 h4 v u Q4 N4 g4 ru4 K4
   have pf:=N4.inv.pin (f,lamO q' params body scope (clOf X.env.cells scope.names []) pm ctv c) (Zo _ (ZY _ (Zo _ (Z5.mpr rfl))))
   exact Jly (A:=X.A.in1.in1) N.inv.ok.frames hr.in1.in1 N4 pf.1 g4 hx S (hb f (.ref c)) ru4 K4
  ·exact Zf K1
 ·exact Zf K1
end
end L3
namespace L4
open PySem PySem.Spec PyProof.Rows L2 L3
noncomputable def stE:E1:=λ _ _=>.stuck
noncomputable def stT:T1:=λ _ _=>.stuck
noncomputable def stO:O1:=λ _ _=>.stuck
noncomputable def stI:I1:=λ _ _=>.stuck
noncomputable def stG:G1:=λ _ _ _=>.stuck
noncomputable def stS:S1:=λ _ _=>.stuck
structure Fn where
 np:Nat
 dvs:List IV
 run:List IV->IH->Res IV
structure Pg where
 fn:Str->Option Fn
 cls:Str->Option Fn
 meth:Str->Str->Option Fn
 con:Str->Option IV
 isa:Str->Option (Str->Bool)
 fld:Str->Bool
 free:Str->Bool
 tabs:Str->Option Nat
 rz:Str->Bool
 bas:Str->Bool
 xi:Str->Option (Str->Option Bool)
 wr:Str->Option (List IV->IH->Res IV)
 ne:Str->Bool
 xo:Str->Option Fn
 xf:Str->Str->Bool
 xb:Str->Bool
structure Sc where
 N:List Str
 names:List (Str×Zbt)
 own:Bool
 q:Str
noncomputable def ixOf (x:Str):List Str->Option Nat
 | []=>Zd
 | y::r=>if y==x then Za 0 else(ixOf x r).map (· + 1)
noncomputable def Sc.vis (S:Sc)(x:Str):Option Nat :=
 match S.names.lookup x with
 | some .local=>if x=="__debug__"||x=="__classdict__" then Zd else ixOf x S.N
 | some .cell=>if x=="__debug__"||x=="__classdict__" then Zd else ixOf x S.N
 | some .free=>if x=="__debug__"||x=="__classdict__" then Zd else ixOf x S.N
 | _=>Zd
noncomputable def Sc.gl (S:Sc)(x:Str):Bool:=S.names.lookup x==Za .globalImplicit&&!(x=="__debug__")&&!(x=="__name__")
noncomputable def Sc.sto (S:Sc)(x:Str):Option Nat :=
 match S.names.lookup x with
 | some .local=>ixOf x S.N
 | some .cell=>if S.own then ixOf x S.N else Zd
 | _=>Zd
def evC:Const->E1
 | .int i=>eC (.int i)
 | .bool b=>eC (.bl b)
 | .none=>eC .non
 | .str x=>eC (.str x)
 | _=>stE
def binI:ZcJ->IV->IV->IH->Res IV
 | .Add=>Jn
 | .Sub=>Qp
 | .Mult=>JN
 | .FloorDiv=>JT
 | .Mod=>J2
 | .Pow=>JF
 | _=>λ _ _ _=>.stuck
def cmpI:CmpOp->IV->IV->IH->Res IV
 | .Lt=>cLt
 | .LtE=>cLe
 | .Gt=>cGt
 | .GtE=>cGe
 | .Eq=>cEq
 | .NotEq=>cNe
 | .Is=>cIs
 | .IsNot=>VP
 | _=>λ _ _ _=>.stuck
def unI:UnaryOp->IV->IH->Res IV
 | .Not=>X1 tru
 | .USub=>Yn
 | _=>λ _ _=>.stuck
def Jw8:List E1->E1
 | []=>stE
 | [a]=>a
 | a::b::r=>eAnd a (Jw8 (b::r)) tru
def eOrs:List E1->E1
 | []=>stE
 | [a]=>a
 | a::b::r=>eOr a (eOrs (b::r)) tru
def Jyv:List T1->T1
 | []=>stT
 | [a]=>a
 | a::b::r=>QD a (Jyv (b::r))
def tOrs:List T1->T1
 | []=>stT
 | [a]=>a
 | a::b::r=>tOrI a (tOrs (b::r))
def aAll:List E1->A1
 | []=>Jd
 | a::r=>Jb a (aAll r)
def Jw:Expr->Bool
 | .Starred .. =>Zm
 | _=>Zj
def Xy:Expr->Bool
 | .Set .. =>Zm
 | _=>Zj
def VW:Expr->Bool
 | .Slice .. =>Zm
 | _=>Zj
def Vt:Expr->Bool
 | .ListComp .. =>Zm
 | .SetComp .. =>Zm
 | .DictComp .. =>Zm
 | _=>Zj
def Vs:Expr->Bool
 | .Call (.Name ..) [] [] _=>Zm
 | _=>Zj
def isM1:Expr->Bool
 | .UnaryOp .USub (.Constant (.int 1) _ _) _=>Zj
 | _=>Zm
def Fn.fill (f:Fn)(n:Nat):Option (List IV):=if n<=f.np/\f.np<=n+f.dvs.length then Za (f.dvs.drop (f.dvs.length-(f.np-n))) else Zd
def VQ (f:Fn)(n:Nat)(a:A1):E1:=match f.fill n with
 | some d=>Jl f.run d a
 | none=>stE
def Jmq (c:Str)(f:Fn)(n:Nat)(a:A1):E1:=match f.fill (n+1) with
 | some d=>Q5 c f.run d a
 | none=>stE
def bltF (x:Str):List IV->IH->Res IV :=
 if x=="len" then on1 lenI else if x=="all" then on1 allI else if x=="sum" then on1 sumI else if x=="min" then on1 VV else if x=="max" then on1 V7 else λ _ _=>.stuck
def bltT (x:Str):List IV->IH->Res IV :=
 if x=="list" then on1 Vq else if x=="tuple" then on1 Xc else λ _ _=>.stuck
def Jq1 (x:Str):Bool:=x=="len"||x=="all"||x=="sum"||x=="min"||x=="max"
def Jq2 (x:Str):Bool:=x=="list"||x=="tuple"
def Js0 (P:Pg)(x:Str):Option (Ty->Option Bool) :=
 match P.isa x with
 | some g=>Za λ t=>match t with|.ins c=>Za (g c)|.exc _=>Zd|_=>Za Zm
 | none=>if P.free x then(if x=="int" then Za VG else if x=="bool" then Za VF else if x=="str" then Za VI else if x=="list" then Za (if P.ne "Work" then VH else Vm) else if x=="tuple" then Za VJ else Zd) else Zd
def Jxa (o:Option (Ty->Option Bool))(e:E1):E1:=match o with
 | some ans=>eIsi ans e
 | none=>stE
def bmOf (T:String)(m:Str)(n:Nat):Option (IV->List IV->IH->Res IV) :=
 if T=="list"&&m=="append"&&n==1 then Za VL else if T=="list"&&m=="pop"&&n==0 then Za X4 else if T=="list"&&m=="remove"&&n==1 then Za X6 else if T=="dict"&&m=="setdefault"&&n==2 then Za Jmb else Zd
def JR (P:Pg)(m:Str)(n:Nat):Str->Option ((List IV->IH->Res IV)×List IV):=λ c=>match P.meth c m with
 | some f=>(match f.fill (n+1) with
  | some d=>Za (f.run,d)
  | none=>Zd)
 | none=>Zd
def Ye (v:IV)(h:IH):Bool:=match v with
 | .ref i=>(match h[i]? with
  | some (.ins ..)=>Zj
  | _=>Zm)
 | _=>Zm
def tyS (v:IV)(h:IH):String:=match v with
 | .str _=>"str"
 | .rol _=>"list"
 | .ref i=>(match h[i]? with
  | some (.lst _)=>"list"
  | some (.dct _)=>"dict"
  | _=>"")
 | _=>""
def Jp (P:Pg)(m:Str)(n:Nat)(o:E1)(a:A1):E1:=λ σ h=>match o σ h with
 | .ok v h1=>if Ye v h1 then Jtf m (JR P m n) o a σ h else(match bmOf (tyS v h1) m n with
  | some g=>eBm (tyS v h1) g o a σ h
  | none=>.stuck)
 | _=>.stuck
def Jzv (n:Nat)(a:A1):I1:=match n with
 | 1=>iRg JZ a
 | 2=>stI
 | _=>stI
def gAll:List G1->List IV->ISt->IH->SRes
 | []=>gN
 | g::r=>gC g (gAll r)
def Vr (sc:Zb1):List Str:=sc.names.filterMap λ x=>if x.2==.local&&!(x.1==(".0":Str)) then Za x.1 else Zd
def Qv (sc:Zb1):List Str:=sc.names.filterMap λ x=>if x.2==.free then Za x.1 else Zd
def jsOf (S:Sc)(sc:Zb1):List Nat:=(Qv sc).map λ x=>(ixOf x S.N).getD 0
def Sc.comp (S:Sc)(sc:Zb1):Sc where
 N:=Vr sc++Qv sc
 names:=sc.names.map λ x=>if x.2==.free&&S.names.lookup x.1==Za .cell then(x.1,.cell) else x
 own:=Zm
 q:=""
def Sc.lam (S:Sc)(x:Str)(sc:Zb1):Sc where
 N:=x::Qv sc
 names:=sc.names
 own:=Zm
 q:=""
def Qg (S:Sc)(x:Str)(sc:Zb1):Bool :=
 sc.kind==.function&&!sc.isCoroutine&&!sc.isGenerator&&sc.names.all (λ y=>!(y.2==.cell))&&sc.names.lookup x==Za .local&&sc.names.all (λ y=>!(y.2==.free)||S.names.lookup y.1==Za .cell)
  && (Qv sc).all (λ y=>decide (S.N[(ixOf y S.N).getD 0]?=Za y)&&sc.names.lookup y==Za .free)&&decide (x::Qv sc).Nodup
def Sc.fake (S:Sc):Zb1:={ kind:=.function,names:=S.names,isGenerator:=Zm,isCoroutine:=Zm }
def Jqa:Expr->Bool
 | .Name x _=>x=="last_come"||x=="tops"||x=="last"||x=="_law_last"||x=="_law_lows_here"
 | _=>Zm
def ixD (a:Expr):IV->IV->IH->Res IV:=if Jqa a then VX else Jg
def cmpD (ne:Str->Bool)(o:CmpOp)(b:Expr):IV->IV->IH->Res IV:=match o with
 | .In=>if Jqa b then cInD else λ _ _ _=>.stuck
 | o=>cmpI o
def gSbF (a:Expr)(o i:E1):G1:=if Jqa a then gSbD o i else stG
def Jm5:Expr->Option Expr
 | .Call (.Name y _) [e] [] _=>if y=="set"&&Jw e then Za e else Zd
 | _=>Zd
def Jm2:Expr->Option Expr
 | .Call (.Name y _) [e] [] _=>if y=="range"&&Jw e then Za e else Zd
 | _=>Zd
def dctB:Expr->Bool
 | .Call (.Name y _) _ _ _=>y=="ceilings"
 | _=>Zm
def Jlk (P:Pg)(S:Sc)(x:Str)(f:Expr->E1):List Expr->E1
 | [a,b]=>if x=="max" then eCB (on2 maxI) (Jb (f a) (Jb (f b) Jd)) else if x=="min" then eCB (on2 minI) (Jb (f a) (Jb (f b) Jd)) else(match b with
  | .Name y _=>if x=="isinstance"&&S.gl y then Jxa (Js0 P y) (f a) else stE
  | _=>stE)
 | [a]=>(match (if x=="len"&&S.gl "set"&&P.free "set" then Jm5 a else Zd) with
  | some e=>XW (Jb (f e) Jd)
  | none=>match (if x=="list"&&S.gl "range"&&P.free "range" then Jm2 a else Zd) with
  | some _=>stE
  | none=>if x=="len"&&dctB a then eCB (on1 Xx) (Jb (f a) Jd) else if Jq1 x then eCB (bltF x) (Jb (f a) Jd) else if Jq2 x then eCB (bltT x) (Jb (f a) Jd) else stE)
 | _=>stE
def Jr6:List Expr->Option Expr
 | [a]=>Jm5 a
 | _=>Zd
def Jfq (P:Pg)(S:Sc)(x:Str)(f:Expr->E1)(args:List Expr):E1:=match (if x=="sorted"&&S.gl "set"&&P.free "set" then Jr6 args else Zd) with
 | some e=>XZ (Jb (f e) Jd)
 | none=>Jlk P S x f args
def J1r (P:Pg)(S:Sc)(f:Sc->Expr->E1)(x:Str)(a:Expr)(k:Str):Expr->E1
 | .Lambda ps body sc _=>(match Qo ps,P.tabs S.q with
  | some y,Za j=>if x=="sorted"&&k=="key"&&S.gl x&&P.free x&&Jw a&&S.own&&Qg S y sc then Xr S.q j (jsOf S sc) (Jb (f S a) Jd) (f (S.lam y sc) body) else stE
  | _,_=>stE)
 | _=>stE
def Jz6:Expr->Bool
 | .Constant (.bool Zj) _ _=>Zj
 | _=>Zm
def Jsc (P:Pg)(S:Sc)(f:Sc->Expr->E1)(x:Str)(a:Expr)(k:Str)(ps:Zcr)(body:Expr)(sc:Zb1)(k2:Str)(d:Expr):E1:=match Jm2 a,Qo ps,P.tabs S.q with
 | some e,Za y,Za j=>if x=="sorted"&&k=="key"&&k2=="reverse"&&Jz6 d&&S.gl x&&P.free x&&S.gl "range"&&P.free "range"&&S.own&&Qg S y sc then XY S.q j (jsOf S sc) (Jb (f S e) Jd) (f (S.lam y sc) body) else stE
 | _,_,_=>stE
def minK (P:Pg)(S:Sc)(f:Sc->Expr->E1)(x:Str)(a:Expr)(k:Str):Expr->E1
 | .Lambda ps body sc _=>(match Qo ps,P.tabs S.q with
  | some y,Za j=>if x=="min"&&k=="key"&&S.gl x&&P.free x&&Jw a&&S.own&&Qg S y sc then Xq ltT S.q j (jsOf S sc) (Jb (f S a) Jd) (f (S.lam y sc) body) else stE
  | _,_=>stE)
 | _=>stE
def Jra (P:Pg)(S:Sc)(f:Sc->Expr->E1)(x:Str)(args:List Expr)(kws:List Zfl):E1:=match args,kws with
 | [a],[⟨Za k,d,_⟩]=>if x=="max"&&k=="default"&&S.gl x&&P.free x&&Jw a then XX (Jb (f S a) Jd) (f S d) else if x=="sorted" then J1r P S f x a k d else minK P S f x a k d
 | [a],[⟨Za k,.Lambda ps body sc _,_⟩,⟨Za k2,d,_⟩]=>Jsc P S f x a k ps body sc k2 d
 | _,_=>stE
def Jmk (P:Pg)(S:Sc)(m:Str):Expr->Option Fn
 | .Name x _=>if m=="__init__"&&S.gl x&&P.bas x then P.cls x else Zd
 | _=>Zd
def Jw9 (P:Pg)(m:Str)(n:Nat)(b:Option Fn)(o:E1)(a:A1):E1:=match b with
 | some f=>if n=0 then stE else VQ f n a
 | none=>Jp P m n o a
def Jp3 (ifs:List Expr)(f:Expr->T1)(m:T1->E1):E1:=match ifs with
 | []=>m J7
 | [c]=>m (f c)
 | _=>stE
section
mutual
def ev (P:Pg):Nat->Sc->Expr->E1
 | 0,_,_=>stE
 | n+1,S,e=>match e with
  | .Constant c _ _=>evC c
  | .Name x _=>(match S.vis x with
   | some i=>Ja i
   | none=>if S.gl x then(match P.con x with
    | some v=>eC v
    | none=>stE) else stE)
  | .BinOp a op b _=>Jc (binI op) (ev P n S a) (ev P n S b)
  | .UnaryOp op a _=>eUn (unI op) (ev P n S a)
  | .BoolOp .And vs _=>Jw8 (vs.map (ev P n S))
  | .BoolOp .Or vs _=>eOrs (vs.map (ev P n S))
  | .IfExp t a b _=>eIf (evT P n S t) (ev P n S a) (ev P n S b)
  | .Compare a [o] [b] _=>if ZcH o b then stE else Jc (cmpD P.ne o b) (ev P n S a) (ev P n S b)
  | .Compare a [o,o'] [b,c] _=>if Zev [o,o'] [b,c] then stE else JS (cmpI o) (cmpI o') (ev P n S a) (ev P n S b) (ev P n S c)
  | .Tuple es _ _=>if es.all Jw then eTup (aAll (es.map (ev P n S))) else stE
  | .Dict [] [] _=>Xp
  | .List es _=>if es.all Jw then eLst (aAll (es.map (ev P n S))) else stE
  | .Subscript a (.Slice lo hi Zd _) _=>eSl slI (ev P n S a) (evO P n S lo) (evO P n S hi)
  | .Subscript a i _=>if VW i then Jc (ixD a) (ev P n S a) (ev P n S i) else stE
  | .Attribute o f _=>if Vs o&&P.fld f then Jm f (ev P n S o) else stE
  | .Call (.Name x _) args [] _=>if S.gl x&&args.all Jw then Jqm P n S x args else stE
  | .Call (.Name x _) args (kw::kws) _=>Jra P S (λ S e=>ev P n S e) x args (kw::kws)
  | .Call (.Attribute o m ap) args [] p=>if args.all Jw&&Vs o&&(ap.endLine==p.line)&&decide (args.length<30) then Jw9 P m args.length (Jmk P S m o) (ev P n S o) (aAll (args.map (ev P n S))) else stE
  | .ListComp elt [⟨tg,iter,ifs,as⟩] sc _ =>
   if as=0/\Xy iter=Zj/\Q3 S.N (Vr sc) (Qv sc) (jsOf S sc) S.fake sc=Zj then
    Jp3 ifs (evT P n (S.comp sc)) λ mt=>Jx (evI P n S tg iter) (Vr sc).length (jsOf S sc) (tgt P n (S.comp sc) tg) mt (ev P n (S.comp sc) elt)
   else stE
  | _=>stE
def evT (P:Pg):Nat->Sc->Expr->T1
 | 0,_,_=>stT
 | n+1,S,e=>match e with
  | .UnaryOp .Not a _=>JD (evT P n S a)
  | .BoolOp .And vs _=>Jyv (vs.map (evT P n S))
  | .BoolOp .Or vs _=>tOrs (vs.map (evT P n S))
  | .IfExp .. =>stT
  | .Compare a [o] [b] _=>if ZcH o b then stT else Jh asB (Jc (cmpD P.ne o b) (ev P n S a) (ev P n S b))
  | .Compare a [o,o'] [b,c] _=>if Zev [o,o'] [b,c] then stT else Jh asB (JS (cmpI o) (cmpI o') (ev P n S a) (ev P n S b) (ev P n S c))
  | .Compare .. =>stT
  | e=>Jh tru (ev P n S e)
def evO (P:Pg):Nat->Sc->Option Expr->O1
 | 0,_,_=>stO
 | _+1,_,Zd=>Yl
 | n+1,S,Za e=>V8 (ev P n S e)
def Jqm (P:Pg):Nat->Sc->Str->List Expr->E1
 | 0,_,_,_=>stE
 | n+1,S,x,args=>match P.fn x with
  | some f=>VQ f args.length (aAll (args.map (ev P n S)))
  | none=>match P.cls x with
   | some f=>Jmq x f args.length (aAll (args.map (ev P n S)))
   | none=>if P.free x then Jfq P S x (ev P n S) args else stE
def evI (P:Pg):Nat->Sc->Expr->Expr->I1
 | 0,_,_,_=>stI
 | n+1,S,tg,e=>match e with
  | .Call (.Name x _) args [] _ =>
   if S.gl x&&P.free x&&args.all Jw&&(x=="range") then Jzv args.length (aAll (args.map (ev P n S)))
   else if S.gl x&&P.free x&&args.all Jw&&(x=="enumerate") then(match tg,args with
    | .Tuple ..,[a]=>iRg Q7 (Jb (ev P n S a) Jd)
    | _,_=>stI)
   else Ju (ev P n S e)
  | e=>Ju (ev P n S e)
def tgt (P:Pg):Nat->Sc->Expr->G1
 | 0,_,_=>stG
 | n+1,S,e=>match e with
  | .Name x _=>(match S.sto x with
   | some i=>gNm i
   | none=>stG)
  | .Tuple es _ _=>if es.all Jw then gTp es.length (gAll (es.map (tgt P n S))) else stG
  | .Subscript o i _=>if VW i then gSbF o (ev P n S o) (ev P n S i) else stG
  | _=>stG
end
end
def Vx (t:T1)(b:S1):Nat->S1
 | 0,_,_=>.stuck
 | n+1,σ,h=>match t σ h with
  | .ok c h1=>if c then(match b σ h1 with
   | .next σ2 h2=>Vx t b n σ2 h2
   | .cont σ2 h2=>Vx t b n σ2 h2
   | .brk σ2 h2=>.next σ2 h2
   | .ret v h2=>.ret v h2
   | _=>.stuck) else .next σ h1
  | _=>.stuck
@[irreducible] def turns:Nat:=1000000
def VY (t:T1)(b:S1):S1:=Vx t b turns
def ipI:ZcJ->IV->IV->IH->Res IV
 | .Add,.int i,.int j,h=>.ok (.int (i+j)) h
 | _,_,_,_=>.stuck
def sAug (op:ZcJ)(i:Nat)(e:E1):S1:=λ σ h=>rS σ (Ja i σ h) λ x h1=>rS σ (e σ h1) λ y h2=>rS σ (ipI op x y h2) λ z h3=>.next (σ.set i (Za z)) h3
def X9 (op:ZcJ)(f:Str)(o e:E1):S1:=λ σ h=>rS σ (o σ h) λ ov h1=>match ov with
 | .ref i=>(match h1[i]? with
  | some (.ins _ fs)=>(match fs.lookup f with
   | some x=>rS σ (e σ h1) λ y h2=>rS σ (ipI op x y h2) λ z h3=>(match h3[i]? with
    | some (.ins c gs)=>if gs.length<1000 then .next σ (h3.set i (.ins c (putI f z gs))) else .stuck
    | _=>.stuck)
   | none=>.stuck)
  | _=>.stuck)
 | _=>.stuck
def ixL:IV->IV->IH->Res IV
 | .ref i,.int k,h=>match h[i]? with
  | some (.lst xs)=>(match atI xs k with
   | some v=>if 0<=k then .ok v h else .stuck
   | none=>.stuck)
  | _=>.stuck
 | _,_,_=>.stuck
def XA (op:ZcJ)(o k e:E1):S1:=λ σ h=>rS σ (o σ h) λ ov h1=>rS σ (k σ h1) λ kv h2=>rS σ (ixL ov kv h2) λ x h3=>rS σ (e σ h3) λ y h4=>rS σ (ipI op x y h4) λ z h5=>setI ov kv z σ h5
def sAll:List S1->S1
 | []=>Jr
 | [a]=>a
 | a::b::r=>Jf a (sAll (b::r))
def Jx4:Expr->Bool
 | .Tuple .. =>Zm
 | _=>Zj
def Jtw:Expr->Bool
 | .Tuple .. =>Zj
 | _=>Zm
def isLC:Expr->Bool
 | .ListComp .. =>Zj
 | _=>Zm
def Jtv:Expr->Bool
 | .Subscript .. =>Zj
 | _=>Zm
abbrev Xi:=Str->Option (Str->Option Bool)
section
end
section
end
def Jyg (P:Pg)(f:Str)(o e:E1):S1:=if P.fld f then JJ f o e else stS
section
def ex (P:Pg):Nat->Sc->ZdP->S1
 | 0,_,_=>stS
 | n+1,S,st=>match st with
  | .Pass _=>Jyh
  | .Break _=>Jwg
  | .Continue _=>J1c
  | .Expr e _=>if Vt e then JI (ev P n S e) else stS
  | .Return Zd _=>Jyi
  | .Return (Za e) _=>Jk (ev P n S e)
  | .If c a b _=>sIf (evT P n S c) (sAll (a.map (ex P n S))) (sAll (b.map (ex P n S)))
  | .While c a [] _=>VY (evT P n S c) (sAll (a.map (ex P n S)))
  | .For tg it a [] _=>if Xy it&&S.own then sFor (evI P n S tg it) (tgt P n S tg) (sAll (a.map (ex P n S))) else stS
  | .Assign [.Name x _] e _=>if Vt e||isLC e then(match S.sto x with
   | some i=>Jj i (ev P n S e)
   | none=>stS) else stS
  | .Assign [.Attribute o f _] e _=>if Vt e||isLC e then Jyg P f (ev P n S o) (ev P n S e) else stS
  | .Assign [tg] e _=>if Vt e&&((Jtw tg&&Jx4 e)||Jtv tg) then sAsg (ev P n S e) (tgt P n S tg) else stS
  | .AugAssign (.Name x _) op e _=>(match S.sto x with
   | some i=>sAug op i (ev P n S e)
   | none=>stS)
  | .AugAssign (.Attribute o f _) op e _=>if P.fld f then X9 op f (ev P n S o) (ev P n S e) else stS
  | .AugAssign (.Subscript o k _) op e _=>if VW k then XA op (ev P n S o) (ev P n S k) (ev P n S e) else stS
  | _=>stS
end
structure FnD (ce:CeT)(prog:ZC)(w:ZU)(K:W.Frag)(mg:Str->Option Zh)(base:Zar)(k:Nat)(f:Fn)(fa:Zq)(fd:ZaP)(ps:List Str):Prop where
 len:ps.length=f.np
 ok:FnOk prog w K mg base (CXI prog w) k fa fd ps (spI ce K ps f.run)
 dv:∀j,j<=f.dvs.length->∃ds,Qc K fd ps ds/\ds.length=f.dvs.length-j/\∃vs,Vals vs ds/\∀ι H,RVs K ι H (f.dvs.drop j) vs
structure PgOk (ce:CeT)(k:Nat)(P:Pg)(prog:ZC)(w:ZU)(K:W.Frag)(mg:Str->Option Zh)(base:Zar):Prop where
 fn:∀x f,P.fn x=Za f->∃fa fd ps,mg x=Za (.ref fa)/\W.keepIn K (.ref fa)=Zj/\FnD ce prog w K mg base k f fa fd ps
 cls:∀x f,P.cls x=Za f->∃C fa fd ps,mg x=Za (.ref C)/\ce x=Za C/\Mk K C fa/\FnD ce prog w K mg base k f fa fd ps
 meth:∀c m f,P.meth c m=Za f->∃C fa fd ps,ce c=Za C/\Cls K C/\Meth K C m fa/\FnD ce prog w K mg base k f fa fd ps
 con:∀x v,P.con x=Za v->∃u y,mg x=Za u/\RelV y u/\∀ι H,RV K ι H v y
 isa:∀D g,P.isa D=Za g->∃c,mg D=Za c/\IsOk ce K c λ t=>match t with|.ins c=>Za (g c)|.exc _=>Zd|_=>Za Zm
 fld:∀f,P.fld f=Zj->XO ce K f
 free:∀x,P.free x=Zj->mg x=Zd
 blt:∀q j,P.tabs q=Za j->Qs mg base
 bas:∀x,P.bas x=Zj->∃C,mg x=Za (.ref C)/\BasK K C
 ne:∀c,P.ne c=Zj->∃C,ce c=Za C/\neIn K C=Zj/\ClsI K C/\W.kitOne K (.ref C) (.type "list")=Za Zm
structure Good (ce:CeT)(k:Nat)(P:Pg)(S:Sc)(X:Cx):Prop where
 n:X.N=S.N
 sc:X.env.scope.names=S.names
 nd:S.N.Nodup
 fk:X.env.scope.kind=.function
 calm:X.calm=Zj
 room:Room (k+1) X.A
 st:S.own=Zj->∀x,X.fn x=Zj
 pg:PgOk ce k P X.prog X.w X.K X.mg X.base
 code:S.own=Zj->W.codeIn X.K X.env.code S.q=Zj/\X.env.qual=S.q++".<locals>."
 room3:S.own=Zj->Room (k+3) X.A
 top:S.own=Zj->X.stack=X.env::X.outer/\X.env.frame=Za X.env.locals
section
variable {ce:CeT}{k:Nat}{P:Pg}{S:Sc}{X:Cx}{α β:Type}{R:REL α β}
theorem Ji {t:Sem β}:PX ce X R t (λ _ _=>.stuck):=λ _ _ _ _ _ _ _ _ _ _ K=>(show False from K).elim
theorem J3n (hh:∀σi h,∃m',m σi h=m' σi h/\PX ce X R t m'):PX ce X R t m:=by
 intro pj s σ H ι σi h Q E N K
 obtain⟨m',e,p⟩:=hh σi h
 rw[e] at K
 exact p pj s σ H ι σi h Q E N K
theorem Yp:PIi ce X tg e stI:=λ _ _ _ _ _ _ _ _ _ _ K=>(show False from K).elim
theorem X2:PGi ce X e stG:=λ _ _ _ _ _ _ _ _ _ _ _ _ _ K=>(show False from K).elim
theorem JO:PSi ce X t stS:=λ _ _ _ _ _ _ _ _ _ _ K=>(show False from K).elim
theorem Jfw:∀{l:List Str}{i:Nat},ixOf x l=Za i->l[i]?=Za x
 | [],_,h=>by cases h
 | y::r,i,h=>by
  unfold ixOf at h
  split at h
  ·rename_i e
   cases h
   simp[beq_iff_eq.mp e]
  ·obtain⟨j,hj,rfl⟩:=Z8.mp h
   simpa using Jfw hj
theorem Good.kind (G:Good ce k P S X)(x:Str):X.env.kindOf x=S.names.lookup x:=by
 show X.env.scope.names.lookup x=_
 rw[G.sc]
theorem Good.vis (G:Good ce k P S X)(h:S.vis x=Za i):X.N[i]?=Za x/\Vis X.env.scope x/\(x==("__debug__":Str))=Zm/\(x==("__classdict__":Str))=Zm:=by
 unfold Sc.vis at h
 have fin:∀{o:Zbt},(o=.local∨o=.cell∨o=.free)->S.names.lookup x=Za o->(if (x==("__debug__":Str)||x==("__classdict__":Str))=Zj then Zd else ixOf x S.N)=Za i ->
   X.N[i]?=Za x/\Vis X.env.scope x/\(x==("__debug__":Str))=Zm/\(x==("__classdict__":Str))=Zm:=λ ho e h=>by
  split at h
  ·cases h
  ·rename_i hd
   have hd':=Zcx.mpr hd
   rw[Zd5] at hd'
   refine⟨by rw[G.n];exact Jfw h,?_,hd'.1,hd'.2⟩
   unfold Vis
   rw[G.sc,e]
   rcases ho with rfl|rfl|rfl
   ·exact .inl rfl
   ·exact .inr (.inl rfl)
   ·exact .inr (.inr rfl)
 cases e:S.names.lookup x with
 | none=>rw[e] at h;cases h
 | some o =>
  rw[e] at h
  cases o with
  | «local» =>exact fin (.inl rfl) e h
  | cell=>exact fin (.inr (.inl rfl)) e h
  | free=>exact fin (.inr (.inr rfl)) e h
  | _=>cases h
theorem Good.gl (G:Good ce k P S X)(h:S.gl x=Zj):Gl X x/\(x==("__debug__":Str))=Zm/\x≠"__name__":=by
 unfold Sc.gl at h
 simp only[Zp,beq_iff_eq,ZaV] at h
 refine⟨?_,h.1.2,λ e=>?_⟩
 ·show X.env.kindOf x=_
  rw[G.kind]
  exact h.1.1
 ·have:=h.2
  rw[e] at this
  exact absurd this (by decide)
theorem Good.sto (G:Good ce k P S X)(h:S.sto x=Za i):X.N[i]?=Za x/\Loc X.env.scope x/\(X.fn x=Zj∨X.env.scope.names.lookup x=Za .local):=by
 unfold Sc.sto at h
 unfold L2.Loc
 rw[G.sc]
 cases e:S.names.lookup x with
 | none=>rw[e] at h;cases h
 | some o =>
  rw[e] at h
  cases o with
  | «local» =>exact⟨by rw[G.n];exact Jfw h,.inl rfl,.inr rfl⟩
  | cell =>
   dsimp only at h
   split at h
   ·rename_i ho
    exact⟨by rw[G.n];exact Jfw h,.inr rfl,.inl (G.st ho x)⟩
   ·cases h
  | _=>cases h
theorem Good.nodup (G:Good ce k P S X):X.N.Nodup:=by rw[G.n];exact G.nd
theorem Jy (h:Jw a=Zj):ZE (a::es) env=(Zm,Zbr a env)::ZE es env:=by
 cases a<;>first|rfl|cases h
theorem Xb {pos:Pos}{env:Env}:∀{es:List Expr},es.all Jw=Zj->(Zb6 pos (ZE es env)).any (·.1)=Zm
 | [],_=>rfl
 | a::es,h=>by
  simp only[Zau,Zp] at h
  rw[Jy h.1]
  show(Zm||(Zb6 pos (ZE es env)).any (·.1))=Zm
  rw[Xb h.2]<;>rfl
theorem Jg3:∀{es:List Expr},es.all Jw=Zj->(Zb6 pos (ZE es env)).all (λ x=>!x.1)=Zj
 | [],_=>rfl
 | a::es,h=>by
  simp only[Zau,Zp] at h
  rw[Jy h.1]
  show(Zj&&(Zb6 pos (ZE es env)).all (λ x=>!x.1))=Zj
  rw[Jg3 h.2]<;>rfl
theorem Jxl {es:List Expr}(ha:es.all Jw=Zj)(hn:es.length<30):((Zb6 pos (ZE es env)).all (λ x=>!x.1)&&(Zex pos (ZcY [] env)).all (λ x=>x.1.isSome)
   && decide (es.length+([]:List Zfl).length+(if ([]:List Zfl).isEmpty then 0 else 1)<30))=Zj:=by
 show((Zb6 pos (ZE es env)).all (λ x=>!x.1)&&Zj&&decide (es.length+0+0<30))=Zj
 rw[Jg3 ha]
 simpa using hn
theorem XR:∀(l:List E1),ALen l.length (aAll l)
 | []=>Jsz
 | _::r=>Jpm (XR r)
theorem Vl:∀{es:List Expr},es.all Jw=Zj->(∀e,PEi ce X e (f e))->PAi ce X es (aAll (es.map f))
 | [],_,_=>Q2
 | a::es,h,hf=>by
  simp only[Zau,Zp] at h
  exact Qu (hf a) (Vl h.2 hf) (Jy h.1)
theorem Jvz (hf:∀e,PEi ce X e (f e)):∀(vs:List Expr),PEi ce X (.BoolOp .And vs pos) (Jw8 (vs.map f))
 | []=>Ji
 | [a]=>Jz5 (hf a)
 | a::b::r=>J2p Yu (hf a) (Jvz hf (b::r))
theorem Jzn (hf:∀e,PEi ce X e (f e)):∀(vs:List Expr),PEi ce X (.BoolOp .Or vs pos) (eOrs (vs.map f))
 | []=>Ji
 | [a]=>Jz5 (hf a)
 | a::b::r=>i_or Yu (hf a) (Jzn hf (b::r))
theorem Jwk (hf:∀e,PTi ce X e (f e)):∀(vs:List Expr),PWi ce X (.BoolOp .And vs pos) (Jyv (vs.map f))
 | []=>λ _=>Ji
 | [a]=>Jy1 (hf a)
 | a::b::r=>J1w (hf a) (Jwk hf (b::r))
theorem J1s (hf:∀e,PTi ce X e (f e)):∀(vs:List Expr),PWi ce X (.BoolOp .Or vs pos) (tOrs (vs.map f))
 | []=>λ _=>Ji
 | [a]=>J1x (hf a)
 | a::b::r=>J32 (hf a) (J1s hf (b::r))
theorem Jv1:∀{es:List Expr},es.all Jw=Zj->(∀e,PGi ce X e (f e))->PGsi ce X es (gAll (es.map f))
 | [],_,_=>Jzu
 | a::es,h,hf=>by
  simp only[Zau,Zp] at h
  refine Jxk (hf a) (Jv1 h.2 hf) ?_
  cases a<;>first|rfl|exact absurd h.1 Zs
theorem Jvs:∀{es:List Expr},es.all Jw=Zj->(ZaR es env).length=es.length
 | [],_=>rfl
 | a::es,h=>by
  simp only[Zau,Zp] at h
  have:ZaR (a::es) env=(Zm,ZeA a env)::ZaR es env:=by cases a<;>first|rfl|exact absurd h.1 Zs
  rw[this,ZN,ZN,Jvs h.2]
theorem Jpr {env:Env}:∀{es:List Expr},es.all Jw=Zj->(ZaR es env).findIdx? (·.1)=Zd
 | [],_=>rfl
 | a::es,h=>by
  simp only[Zau,Zp] at h
  have:ZaR (a::es) env=(Zm,ZeA a env)::ZaR es env:=by cases a<;>first|rfl|exact absurd h.1 Zs
  rw[this,List.findIdx?_cons,Jpr h.2]
  rfl
theorem J27 (op:ZcJ):OpI ce X (Zbc op) (binI op):=by
 cases op with
 | Add=>exact J26
 | Sub=>exact J3c
 | Mult=>exact J0r
 | FloorDiv=>exact J0q
 | Mod=>exact J29
 | Pow=>exact J3b
 | _=>exact λ _ _ _ _ _ _ _ _ _ _ _ _ _ _ _ _ K=>(show False from K).elim
theorem Ym (hu:X.A.units+64<cLine)(op:CmpOp):OpI ce X (Za5 op) (cmpI op):=by
 cases op with
 | Lt=>exact o_lt
 | LtE=>exact o_le
 | Gt=>exact o_gt
 | GtE=>exact o_ge
 | Eq=>exact o_eq hu
 | NotEq=>exact o_ne hu
 | Is=>exact o_is
 | IsNot=>exact Jx5
 | _=>exact λ _ _ _ _ _ _ _ _ _ _ _ _ _ _ _ _ K=>(show False from K).elim
theorem Jwd (hu:X.A.units+64<cLine)(hn:∀c,ne c=Zj->∃C,ce c=Za C/\neIn X.K C=Zj)(op:CmpOp)(b:Expr):OpI ce X (Za5 op) (cmpD ne op b):=by
 unfold cmpD
 split
 ·split
  ·exact J28
  ·exact λ _ _ _ _ _ _ _ _ _ _ _ _ _ _ _ _ K=>(show False from K).elim
 ·exact Ym hu op
theorem J38 (a:Expr):IxI ce X (ixD a):=by
 unfold ixD
 split
 ·exact J37
 ·exact x_ix
theorem o_un (op:UnaryOp):UnI ce X (unaryOp op) (unI op):=by
 cases op with
 | Not=>exact Jy2 Yu
 | USub=>exact J33
 | _=>exact λ _ _ _ _ _ _ _ _ _ _ _ _ _ K=>(show False from K).elim
theorem Jcq (h:Vs o=Zj):Zd1 o m env w=w:=by
 cases o with
 | Call f as ks p =>
  cases f with
  | Name x q =>
   cases as with
   | nil =>
    cases ks with
    | nil=>cases h
    | cons _ _=>rfl
   | cons _ _=>rfl
  | _=>rfl
 | _=>rfl
theorem Yc (h:Xy e=Zj)(x:Zh):Zcv e env x=pure x:=by
 cases e<;>first|rfl|cases h
theorem Jcv (h:Vt e=Zj):ZdM e t l env=pure Zm:=by
 cases e<;>first|rfl|cases h
theorem Jt0 (h:VW i=Zj):Jpl i:=λ _ _=>by
 cases i<;>first|rfl|cases h
theorem Jgw {o:Expr}{m:Str}{ap pos:Pos}{es:List Expr}{env:Env}(hb:Vs o=Zj)(hs:es.all Jw=Zj)(hl:(ap.endLine==pos.line)=Zj)(hn:es.length<30) :
  Zbr (.Call (.Attribute o m ap) es [] pos) env=(do
   let ov<-Zbr o env
   Zf2 ap.atName
   let (f,first)<-Zci [ov] (Zes ov m (do return(<- importBound o env).getD Zj))
   callWith pos f first (Zb6 pos (ZE es env)) (Zex pos (ZcY [] env))):=by
 have hform:methodCallForm (es.length+([]:List Zfl).length) (Zb6 pos (ZE es env)) (Zex pos (ZcY [] env))=Zj:=by
  show((Zb6 pos (ZE es env)).all (λ x=>!x.1)&&Zj&&decide (es.length+0+0<30))=Zj
  rw[Jg3 hs]
  simpa using hn
 have hpos:methodCallPos Zj o env ap pos=pure pos:=by unfold methodCallPos;simp[hl]
 rw[arm_eval_Call,Jcq hb]
 unfold methodCall
 rw[hform,hpos]
 rfl
end
section
variable {ce:CeT}{k:Nat}{P:Pg}{S:Sc}{X:Cx}
theorem Jj8 (G:Good ce k P S X)(N0 l c:List Str)(js:List Nat)(sc:Zb1):Q3 N0 l c js X.env.scope sc=Q3 N0 l c js S.fake sc:=by
 unfold Q3
 rw[G.fk,G.sc]
 rfl
theorem Good.comp (G:Good ce k P S X){sc:Zb1}(h:Q3 S.N (Vr sc) (Qv sc) (jsOf S sc) S.fake sc=Zj)(C:Zq)(s:Zl)(H:Hp)(fp:List Zq):Good ce k P (S.comp sc) (cxC X (Vr sc++Qv sc) sc C s H fp):=by
 simp only[Q3,Zp,decide_eq_true_eq] at h
 obtain⟨⟨⟨⟨⟨⟨⟨⟨⟨kF,kF0⟩,kNC⟩,kL⟩,kFr⟩,kFx⟩,kJ⟩,kLen⟩,kNd⟩,kLo⟩:=h
 refine⟨rfl,?_,kNd,kF,G.calm,G.room,λ z=>absurd z Zs,G.pg,λ z=>absurd z Zs,λ z=>absurd z Zs,λ z=>absurd z Zs⟩
 show(relabel sc X.env).names=_
 unfold relabel Sc.comp
 dsimp only
 refine ZaH λ x _=>?_
 obtain⟨n,kd⟩:=x
 dsimp only
 rw[G.fk,G.kind]
 simp
end
structure Snd (ce:CeT)(k:Nat)(P:Pg)(n:Nat):Prop where
 e:∀S X e,Good ce k P S X->PEi ce X e (ev P n S e)
 t:∀S X e,Good ce k P S X->PTi ce X e (evT P n S e)
 o:∀S X e,Good ce k P S X->PPi ce X e (evO P n S e)
 c:∀S X x args p pos,Good ce k P S X->S.gl x=Zj->args.all Jw=Zj->PEi ce X (.Call (.Name x p) args [] pos) (Jqm P n S x args)
 i:∀S X tg e,Good ce k P S X->PIi ce X tg e (evI P n S tg e)
 g:∀S X e,Good ce k P S X->PGi ce X e (tgt P n S e)
section
variable {ce:CeT}{k:Nat}{P:Pg}{n:Nat}{S:Sc}{X:Cx}
theorem Juz:Snd ce k P 0:=⟨λ _ _ _ _=>Ji,λ _ _ _ _=>Ji,λ _ _ _ _=>Ji,λ _ _ _ _ _ _ _ _ _=>Ji,λ _ _ _ _ _=>Yp,λ _ _ _ _=>X2⟩
theorem Jif {prog:ZC}{w:ZU}{K:W.Frag}{mg:Str->Option Zh}{base:Zar}{f:Fn}{fa:Zq}{fd:ZaP}{ps:List Str}{m:Nat}{d:List IV}(D:FnD ce prog w K mg base k f fa fd ps)(h:f.fill m=Za d) :
  ∃ds,Qc K fd ps ds/\m+ds.length=ps.length/\∃vs,Vals vs ds/\∀ι H,RVs K ι H d vs:=by
 unfold Fn.fill at h
 split at h
 ·rename_i hz
  cases h
  obtain⟨ds,hb,hl,q⟩:=D.dv (f.dvs.length-(f.np-m)) (by omega)
  exact⟨ds,hb,by rw[hl,D.len];omega,q⟩
 ·cases h
theorem Juu (G:Good ce k P S X)(hx:P.fn x=Za f)(hg:S.gl x=Zj){args:List Expr}(ha:args.all Jw=Zj)(hf:∀e,PEi ce X e (g e)){p pos:Pos} :
  PEi ce X (.Call (.Name x p) args [] pos) (VQ f args.length (aAll (args.map g))):=by
 obtain⟨fa,fd,ps,hm,hk,D⟩:=G.pg.fn x f hx
 obtain⟨gl,hdb,_⟩:=G.gl hg
 unfold VQ
 cases hd:f.fill args.length with
 | none=>exact Ji
 | some d =>
  obtain⟨ds,hb,hl,q⟩:=Jif D hd
  have hr:Room k X.A:=G.room.mono (ZaG k)
  cases args with
  | nil=>exact Jxm D.ok hr gl hm hk hb q (by simpa using hl) hdb
  | cons a es =>
   have ha':=ha
   simp only[Zau,Zp] at ha'
   refine Jzx D.ok hr gl hm hk hb q (Vl ha hf) (λ σ h xs h' e=>?_) hdb (Jy ha'.1) (Xb ha'.2)
   have:=XR _ σ h xs h' e
   rw[Zn] at this
   rw[this]
   exact hl
theorem Juv (G:Good ce k P S X)(hx:P.cls x=Za f)(hg:S.gl x=Zj){args:List Expr}(ha:args.all Jw=Zj)(hf:∀e,PEi ce X e (g e)){p pos:Pos} :
  PEi ce X (.Call (.Name x p) args [] pos) (Jmq x f args.length (aAll (args.map g))):=by
 obtain⟨C,fa,fd,ps,hm,hC,M,D⟩:=G.pg.cls x f hx
 obtain⟨gl,hdb,_⟩:=G.gl hg
 unfold Jmq
 cases hd:f.fill (args.length+1) with
 | none=>exact Ji
 | some d =>
  obtain⟨ds,hb,hl,q⟩:=Jif D hd
  cases args with
  | nil=>exact Jxp M D.ok hC G.room gl hm hb q (by simp at hl;omega) hdb
  | cons a es =>
   have ha':=ha
   simp only[Zau,Zp] at ha'
   refine Jz1 M D.ok hC G.room gl hm hb q (Vl ha hf) (λ σ h xs h' e=>?_) hdb (Jy ha'.1) (Xb ha'.2)
   have:=XR _ σ h xs h' e
   rw[Zn] at this
   omega
theorem Jqc (G:Good ce k P S X)(m:Str)(n:Nat):Jpi ce X m n (JR P m n):=by
 intro c f dvs h
 unfold JR at h
 cases hm:P.meth c m with
 | none=>rw[hm] at h;cases h
 | some fn =>
  rw[hm] at h
  dsimp only at h
  cases hd:fn.fill (n+1) with
  | none=>rw[hd] at h;cases h
  | some d =>
   rw[hd] at h
   cases h
   obtain⟨C,fa,fd,ps,hC,hcl,hM,D⟩:=G.pg.meth c m fn hm
   obtain⟨ds,hb,hl,q⟩:=Jif D hd
   exact⟨C,fa,fd,k,ps,ds,hC,hcl,hM,D.ok,G.room.mono (ZaG k),hb,q,by omega⟩
theorem J2d (h:bmOf T m n=Za g):∃id,PlainAttrs T/\Slot T m id/\typeOf (.builtin id)=pure (.type "method_descriptor")/\MtI ce X T id g:=by
 unfold bmOf at h
 split at h
 ·rename_i hm
  simp only[Zp,beq_iff_eq] at hm
  obtain⟨⟨rfl,rfl⟩,_⟩:=hm
  cases h
  exact⟨_,Zdb,PySem.F.slot_list_append,PySem.F.type_list_append,Jt6⟩
 ·split at h
  ·rename_i hm
   simp only[Zp,beq_iff_eq] at hm
   obtain⟨⟨rfl,rfl⟩,_⟩:=hm
   cases h
   exact⟨_,Zdb,PySem.F.slot_list_pop,PySem.F.type_list_pop,J0k⟩
  ·split at h
   ·rename_i hm
    simp only[Zp,beq_iff_eq] at hm
    obtain⟨⟨rfl,rfl⟩,_⟩:=hm
    cases h
    exact⟨_,Zdb,PySem.F.slot_list_remove,PySem.F.type_list_remove,Jt7⟩
   ·split at h
    ·rename_i hm
     simp only[Zp,beq_iff_eq] at hm
     obtain⟨⟨rfl,rfl⟩,_⟩:=hm
     cases h
     exact⟨_,PySem.F.plainAttrs_dict,ZdC,PySem.F.type_dict_setdefault,Jt8⟩
    ·cases h
theorem J1p {o:Expr}{m:Str}{mo:E1}{args:List Expr}{f:Expr->E1}{ap pos:Pos}{T:String}{g:IV->List IV->IH->Res IV}{n:Nat}(hg:bmOf T m n=Za g)(ho:PEi ce X o mo)(hf:∀e,PEi ce X e (f e))(ha:args.all Jw=Zj)(hb:Vs o=Zj)(hl:(ap.endLine==pos.line)=Zj)(hn:args.length<30) :
  PEi ce X (.Call (.Attribute o m ap) args [] pos) (eBm T g mo (aAll (args.map f))):=by
 obtain⟨id,pa,sl,ty,mt⟩:=J2d (ce:=ce) (X:=X) hg
 cases args with
 | nil=>exact J2r pa sl ty mt ho (Jcq hb) hl
 | cons a es =>
  have ha':=ha
  simp only[Zau,Zp] at ha'
  exact i_bm pa sl ty mt ho (Vl ha hf) (Jcq hb) (Jxl ha hn) hl (Jy ha'.1) (Xb ha'.2)
theorem Jyr (G:Good ce k P S X){o:Expr}{m:Str}{mo:E1}{args:List Expr}{f:Expr->E1}{ap pos:Pos}(ho:PEi ce X o mo)(hf:∀e,PEi ce X e (f e))(ha:args.all Jw=Zj)(hb:Vs o=Zj)(hl:(ap.endLine==pos.line)=Zj)(hn:args.length<30) :
  PEi ce X (.Call (.Attribute o m ap) args [] pos) (Jp P m args.length mo (aAll (args.map f))):=by
 refine J3n λ σi h=>?_
 unfold Jp
 cases e:mo σi h with
 | exc n h1=>exact⟨λ _ _=>.stuck,rfl,Ji⟩
 | stuck=>exact⟨λ _ _=>.stuck,rfl,Ji⟩
 | ok v h1 =>
  dsimp only
  split
  ·refine⟨_,rfl,?_⟩
   cases args with
   | nil=>exact Jxq ho (Jqc G m 0) (Jgw hb ha hl hn)
   | cons a es =>
    have ha':=ha
    simp only[Zau,Zp] at ha'
    refine Jz3 ho (Jqc G m (a::es).length) (Vl ha hf) (λ σ h xs h' e=>?_) (Jy ha'.1) (Xb ha'.2) (Jgw hb ha hl hn)
    have:=XR _ σ h xs h' e
    rwa [Zn] at this
  ·cases hg:bmOf (tyS v h1) m args.length with
   | none=>exact⟨λ _ _=>.stuck,rfl,Ji⟩
   | some g=>exact⟨_,rfl,J1p hg ho hf ha hb hl hn⟩
theorem Jur (G:Good ce k P S X){o:Expr}{m:Str}{mo:E1}{args:List Expr}{f:Expr->E1}{ap pos:Pos}(ho:PEi ce X o mo)(hf:∀e,PEi ce X e (f e))(ha:args.all Jw=Zj)(hb:Vs o=Zj)(hl:(ap.endLine==pos.line)=Zj)(hn:args.length<30) :
  PEi ce X (.Call (.Attribute o m ap) args [] pos) (Jw9 P m args.length (Jmk P S m o) mo (aAll (args.map f))):=by
 cases eb:Jmk P S m o with
 | none=>exact Jyr G ho hf ha hb hl hn
 | some g =>
  cases o with
  | Name x q =>
   have eb2:(if m=="__init__"&&S.gl x&&P.bas x then P.cls x else Zd)=Za g:=eb
   clear eb
   split at eb2
   ·rename_i hq
    simp only[Zp,beq_iff_eq] at hq
    obtain⟨⟨rfl,hg⟩,hx⟩:=hq
    obtain⟨C,fa,fd,ps,hm,hC,M,D⟩:=G.pg.cls x g eb2
    obtain⟨C',hm',B⟩:=G.pg.bas x hx
    rw[hm] at hm'
    cases hm'
    obtain⟨gl,hdb,_⟩:=G.gl hg
    show PEi ce X _ (if args.length=0 then stE else VQ g args.length (aAll (args.map f)))
    split
    ·exact Ji
    rename_i hz
    unfold VQ
    cases hd:g.fill args.length with
    | none=>exact Ji
    | some d =>
     obtain⟨ds,hb',hl',q⟩:=Jif D hd
     have hr:Room k X.A:=G.room.mono (ZaG k)
     cases args with
     | nil=>exact absurd rfl hz
     | cons a es =>
      have ha':=ha
      simp only[Zau,Zp] at ha'
      refine Jzw D.ok hr gl hm B M hb' q (Vl ha hf) (λ σ h xs h' e=>?_) hdb (Jy ha'.1) (Xb ha'.2) (Jgw hb ha hl hn)
      have:=XR _ σ h xs h' e
      rw[Zn] at this
      rw[this]
      exact hl'
   ·cases eb2
  | _=>cases eb
theorem Jys (G:Good ce k P S X){a:Expr}{ma:E1}{y:Str}{p p2 pos:Pos}(ha:PEi ce X a ma)(hs:Jw a=Zj)(hg:S.gl "isinstance"=Zj)(hfr:P.free "isinstance"=Zj)(hy:S.gl y=Zj) :
  PEi ce X (.Call (.Name "isinstance" p) [a,.Name y p2] [] pos) (Jxa (Js0 P y) ma):=by
 unfold Jxa
 cases e:Js0 P y with
 | none=>exact Ji
 | some ans =>
  obtain⟨gy,ydb,yn⟩:=G.gl hy
  have fin:∀{c:Zh},ClsE X (.Name y p2) c->IsOk ce X.K c ans->PEi ce X (.Call (.Name "isinstance" p) [a,.Name y p2] [] pos) (eIsi ans ma):=λ hc O =>
   J2v hc O ha (G.gl hg).1 (G.pg.free _ hfr) rfl (Jy hs) rfl rfl
  unfold Js0 at e
  cases hi:P.isa y with
  | some g =>
   rw[hi] at e
   cases e
   obtain⟨c,hm,O⟩:=G.pg.isa y g hi
   exact fin (Jw2 gy hm ydb) O
  | none =>
   rw[hi] at e
   dsimp only at e
   split at e
   ·rename_i hf
    have hm:=G.pg.free y hf
    split at e
    ·rename_i q;cases (beq_iff_eq.mp q);cases e;exact fin (XV gy hm rfl yn ydb) Jts
    ·split at e
     ·rename_i q;cases (beq_iff_eq.mp q);cases e;exact fin (XV gy hm rfl yn ydb) Jq3
     ·split at e
      ·rename_i q;cases (beq_iff_eq.mp q);cases e;exact fin (XV gy hm rfl yn ydb) Jtt
      ·split at e
       ·rename_i q
        cases (beq_iff_eq.mp q)
        cases e
        refine fin (XV gy hm rfl yn ydb) ?_
        split
        ·rename_i q
         refine Jos λ C hC=>?_
         obtain⟨C',h1,_,h2⟩:=G.pg.ne _ q
         cases hC.symm.trans h1
         exact h2
        ·exact Jkq
       ·split at e
        ·rename_i q;cases (beq_iff_eq.mp q);cases e;exact fin (XV gy hm rfl yn ydb) Jtu
        ·cases e
   ·cases e
theorem Jus (G:Good ce k P S X){a:Expr}{ma:E1}{x:Str}{p pos:Pos}(ha:PEi ce X a ma)(hs:Jw a=Zj)(hg:S.gl x=Zj)(hfr:P.free x=Zj)(hx:Jq1 x=Zj) :
  PEi ce X (.Call (.Name x p) [a] [] pos) (eCB (bltF x) (Jb ma Jd)):=by
 obtain⟨gx,xdb,xn⟩:=G.gl hg
 have hm:=G.pg.free x hfr
 have hh:=G.room.hd
 have pa:PAi ce X [a] (Jb ma Jd):=Qu ha Q2 (Jy hs)
 unfold Jq1 at hx
 simp only[ZaE,beq_iff_eq] at hx
 rcases hx with(((rfl|rfl)|rfl)|rfl)|rfl
 ·exact V5 J2f gx hm rfl pa xn xdb (Jy hs) rfl
 ·exact V5 (J2e hh) gx hm rfl pa xn xdb (Jy hs) rfl
 ·exact V5 (J2i hh) gx hm rfl pa xn xdb (Jy hs) rfl
 ·exact V5 (Jzj hh) gx hm rfl pa xn xdb (Jy hs) rfl
 ·exact V5 (Jzi hh) gx hm rfl pa xn xdb (Jy hs) rfl
theorem Jut (G:Good ce k P S X){a:Expr}{ma:E1}{x:Str}{p pos:Pos}(ha:PEi ce X a ma)(hs:Jw a=Zj)(hg:S.gl x=Zj)(hfr:P.free x=Zj)(hx:Jq2 x=Zj) :
  PEi ce X (.Call (.Name x p) [a] [] pos) (eCB (bltT x) (Jb ma Jd)):=by
 obtain⟨gx,xdb,xn⟩:=G.gl hg
 have hm:=G.pg.free x hfr
 have pa:PAi ce X [a] (Jb ma Jd):=Qu ha Q2 (Jy hs)
 unfold Jq2 at hx
 simp only[ZaE,beq_iff_eq] at hx
 rcases hx with rfl|rfl
 ·exact Jqu Jzh gx hm rfl pa xn xdb (Jy hs) rfl
 ·exact Jqu Jw1 gx hm rfl pa xn xdb (Jy hs) rfl
theorem Jsa (G:Good ce k P S X)(hf:∀e,PEi ce X e (f e)){args:List Expr}{p pos:Pos}(hg:S.gl x=Zj)(ha:args.all Jw=Zj)(hfr:P.free x=Zj) :
  PEi ce X (.Call (.Name x p) args [] pos) (Jlk P S x f args):=by
 unfold Jlk
 split
 ·rename_i a b
  simp only[Zau,Zp] at ha
  obtain⟨gx,xdb,xn⟩:=G.gl hg
  have hm:=G.pg.free x hfr
  have pa:PAi ce X [a,b] (Jb (f a) (Jb (f b) Jd)):=Qu (hf a) (Qu (hf b) Q2 (Jy ha.2.1)) (Jy ha.1)
  have h1:∀pos,(Zb6 pos (ZE [b] X.env)).any (·.1)=Zm:=λ pos=>Xb (by simp[ha.2.1])
  split
  ·rename_i hs
   cases (beq_iff_eq.mp hs)
   exact V5 (J2g G.calm) gx hm rfl pa xn xdb (Jy ha.1) (h1 _)
  ·split
   ·rename_i hs
    cases (beq_iff_eq.mp hs)
    exact V5 (J2h G.calm) gx hm rfl pa xn xdb (Jy ha.1) (h1 _)
   ·split
    ·rename_i y p2 _
     split
     ·rename_i hs
      simp only[Zp,beq_iff_eq] at hs
      obtain⟨rfl,hy⟩:=hs
      exact Jys G (hf a) ha.1 hg hfr hy
     ·exact Ji
    ·exact Ji
 ·rename_i a
  simp only[Zau,Zp] at ha
  split
  ·rename_i e he
   split at he
   ·rename_i hc
    simp only[Zp,beq_iff_eq] at hc
    obtain⟨⟨rfl,g2⟩,f2⟩:=hc
    unfold Jm5 at he
    split at he
    ·split at he
     ·rename_i hq
      simp only[Zp,beq_iff_eq] at hq
      obtain⟨rfl,ns⟩:=hq
      cases he
      exact Jto G.room.hd (G.gl hg).1 (G.pg.free _ hfr) (G.gl g2).1 (G.pg.free _ f2) (Qu (hf e) Q2 (Jy ns)) (Jy ns)
     ·cases he
    ·cases he
   ·cases he
  ·split
   ·rename_i e he
    split at he
    ·rename_i hc
     simp only[Zp,beq_iff_eq] at hc
     obtain⟨⟨rfl,g2⟩,f2⟩:=hc
     unfold Jm2 at he
     split at he
     ·split at he
      ·rename_i hq
       simp only[Zp,beq_iff_eq] at hq
       obtain⟨rfl,ns⟩:=hq
       cases he
       exact Ji
      ·cases he
     ·cases he
    ·cases he
   ·split
    ·rename_i hq
     simp only[Zp,beq_iff_eq] at hq
     obtain⟨rfl,_⟩:=hq
     exact V5 Jzg (G.gl hg).1 (G.pg.free _ hfr) rfl (Qu (hf a) Q2 (Jy ha.1)) (by decide) rfl (Jy ha.1) rfl
    split
    ·rename_i hb
     exact Jus G (hf a) ha.1 hg hfr hb
    ·split
     ·rename_i hb
      exact Jut G (hf a) ha.1 hg hfr hb
     ·exact Ji
 ·exact Ji
theorem Jpa (G:Good ce k P S X)(hf:∀e,PEi ce X e (f e)){args:List Expr}{p pos:Pos}(hg:S.gl x=Zj)(ha:args.all Jw=Zj)(hfr:P.free x=Zj) :
  PEi ce X (.Call (.Name x p) args [] pos) (Jfq P S x f args):=by
 unfold Jfq
 split
 ·rename_i e he
  split at he
  ·rename_i hc
   simp only[Zp,beq_iff_eq] at hc
   obtain⟨⟨rfl,g2⟩,f2⟩:=hc
   unfold Jr6 at he
   split at he
   ·unfold Jm5 at he
    split at he
    ·split at he
     ·rename_i hq
      simp only[Zp,beq_iff_eq] at hq
      obtain⟨rfl,ns⟩:=hq
      cases he
      exact Jqw G.room.hd (G.gl hg).1 (G.pg.free _ hfr) (G.gl g2).1 (G.pg.free _ f2) (Qu (hf e) Q2 (Jy ns)) (Jy ns)
     ·cases he
    ·cases he
   ·cases he
  ·cases he
 ·exact Jsa G hf hg ha hfr
theorem Qg.of (G:Good ce k P S X)(h:Qg S y sc=Zj):LamSc X.N X.env.scope.names y (Qv sc) (jsOf S sc) sc:=by
 rw[G.n,G.sc]
 simp only[Qg,Zp,beq_iff_eq,ZaV,decide_eq_true_eq,ZbZ,ZaE,beq_eq_false_iff_ne] at h
 obtain⟨⟨⟨⟨⟨⟨⟨h1,h2⟩,h3⟩,h4⟩,h5⟩,h6⟩,h7⟩,h8⟩:=h
 refine⟨h1,h2,h3,h4,h5,λ z hz e=>(h6 z hz).resolve_left λ q=>q e,λ z e=>Zaj e,λ i j z ej ez=>?_,by simp[jsOf],h8⟩
 unfold jsOf at ej
 rw[Zy,ez] at ej
 cases ej
 exact h7 z (ZbK ez)
theorem Good.lam (G:Good ce k P S X)(ho:S.own=Zj){y:Str}{sc:Zb1}(h:Qg S y sc=Zj)(f:Zq)(cd:Zh)(s:Zl)(H:Hp):Good ce k P (S.lam y sc) (cxL X X.A.in1 (y::Qv sc) S.q sc f cd s H):=by
 have L:=Qg.of G h
 exact⟨rfl,rfl,L.nd,L.kind,rfl,(G.room3 ho).in1.deeper _,λ z=>absurd z Zs,G.pg,λ z=>absurd z Zs,λ z=>absurd z Zs,λ z=>absurd z Zs⟩
theorem Good.lam2 (G:Good ce k P S X)(ho:S.own=Zj){y:Str}{sc:Zb1}(h:Qg S y sc=Zj)(f:Zq)(cd:Zh)(s:Zl)(H:Hp):Good ce k P (S.lam y sc) (cxL X X.A.in1.in1 (y::Qv sc) S.q sc f cd s H):=by
 have L:=Qg.of G h
 have R:=G.room3 ho
 refine⟨rfl,rfl,L.nd,L.kind,rfl,⟨R.hd,?_,?_⟩,λ z=>absurd z Zs,G.pg,λ z=>absurd z Zs,λ z=>absurd z Zs,λ z=>absurd z Zs⟩
 ·have:=R.dp
  show X.A.depth+1+3*(k+1)+5<_
  omega
 ·have:=R.un
  show X.A.units+1+1+3+16*(k+1)+200<_
  omega
theorem Jsb (G:Good ce k P S X)(hf:∀S X e,Good ce k P S X->PEi ce X e (f S e)):PEi ce X (.Call (.Name x p) [a] [⟨Za y,d,kp⟩] pos) (J1r P S f x a y d):=by
 cases d with
 | Lambda ps body sc lp =>
  show PEi ce X _ (match Qo ps,P.tabs S.q with|some z,Za j=>if x=="sorted"&&y=="key"&&S.gl x&&P.free x&&Jw a&&S.own&&Qg S z sc then Xr S.q j (jsOf S sc) (Jb (f S a) Jd) (f (S.lam z sc) body) else stE|_,_=>stE)
  cases hy:Qo ps with
  | none=>exact Ji
  | some z =>
   cases hj:P.tabs S.q with
   | none=>exact Ji
   | some j =>
    dsimp only
    split
    ·rename_i hq
     simp only[Zp,beq_iff_eq] at hq
     obtain⟨⟨⟨⟨⟨⟨rfl,rfl⟩,g1⟩,f1⟩,ns⟩,ho⟩,ok⟩:=hq
     exact Jxs (k:=k) (G.gl g1).1 (G.pg.free _ f1) (Qu (hf _ _ _ G) Q2 (Jy ns)) (Jy ns) (G.room3 ho) (G.code ho).1 (G.code ho).2 (G.pg.blt _ _ hj) hy (Qg.of G ok) λ f cd s' H'=>hf _ _ _ (G.lam2 ho ok f cd s' H')
    ·exact Ji
 | _=>exact Ji
theorem Jpb (G:Good ce k P S X)(hf:∀S X e,Good ce k P S X->PEi ce X e (f S e)):PEi ce X (.Call (.Name x p) [a] [⟨Za y,.Lambda ps body sc lp,kp⟩,⟨Za y2,d,kp2⟩] pos) (Jsc P S f x a y ps body sc y2 d):=by
 unfold Jsc
 split
 ·rename_i e z j he hy hj
  split
  ·rename_i hq
   simp only[Zp,beq_iff_eq] at hq
   obtain⟨⟨⟨⟨⟨⟨⟨⟨⟨rfl,rfl⟩,rfl⟩,ht⟩,g1⟩,f1⟩,g2⟩,f2⟩,ho⟩,ok⟩:=hq
   unfold Jm2 at he
   unfold Jz6 at ht
   split at he
   ·split at he
    ·rename_i hc
     simp only[Zp,beq_iff_eq] at hc
     obtain⟨rfl,ns⟩:=hc
     cases he
     split at ht
     ·exact Jtq (k:=k) G.room.hd (G.gl g1).1 (G.pg.free _ f1) (G.gl g2).1 (G.pg.free _ f2) (Qu (hf _ _ _ G) Q2 (Jy ns)) (Jy ns) (G.room3 ho) (G.code ho).1 (G.code ho).2 (G.pg.blt _ _ hj) hy (Qg.of G ok) λ f cd s' H'=>hf _ _ _ (G.lam2 ho ok f cd s' H')
     ·cases ht
    ·cases he
   ·cases he
  ·exact Ji
 ·exact Ji
theorem Juw (G:Good ce k P S X)(hf:∀S X e,Good ce k P S X->PEi ce X e (f S e)):PEi ce X (.Call (.Name x p) [a] [⟨Za y,d,kp⟩] pos) (minK P S f x a y d):=by
 cases d with
 | Lambda ps body sc lp =>
  show PEi ce X _ (match Qo ps,P.tabs S.q with|some z,Za j=>if x=="min"&&y=="key"&&S.gl x&&P.free x&&Jw a&&S.own&&Qg S z sc then Xq ltT S.q j (jsOf S sc) (Jb (f S a) Jd) (f (S.lam z sc) body) else stE|_,_=>stE)
  cases hy:Qo ps with
  | none=>exact Ji
  | some z =>
   cases hj:P.tabs S.q with
   | none=>exact Ji
   | some j =>
    dsimp only
    split
    ·rename_i hq
     simp only[Zp,beq_iff_eq] at hq
     obtain⟨⟨⟨⟨⟨⟨rfl,rfl⟩,g1⟩,f1⟩,ns⟩,ho⟩,ok⟩:=hq
     exact Jz4 (k:=k+1) (G.gl g1).1 (G.pg.free _ f1) (Qu (hf _ _ _ G) Q2 (Jy ns)) (λ A h=>Jw3 (by omega)) (Jy ns) (G.room3 ho) (G.code ho).1 (G.code ho).2 (G.pg.blt _ _ hj) hy (Qg.of G ok) λ f cd s' H'=>hf _ _ _ (G.lam ho ok f cd s' H')
    ·exact Ji
 | _=>exact Ji
theorem J1q (G:Good ce k P S X)(hf:∀S X e,Good ce k P S X->PEi ce X e (f S e)):PEi ce X (.Call (.Name x p) args kws pos) (Jra P S f x args kws):=by
 unfold Jra
 split
 ·split
  ·rename_i hq
   simp only[Zp,beq_iff_eq] at hq
   obtain⟨⟨⟨⟨rfl,rfl⟩,g1⟩,f1⟩,ns⟩:=hq
   exact Jz2 G.room.hd (G.gl g1).1 (G.pg.free _ f1) (Qu (hf _ _ _ G) Q2 (Jy ns)) (hf _ _ _ G) (Jy ns)
  ·split
   ·exact Jsb G hf
   ·exact Juw G hf
 ·exact Jpb G hf
 ·exact Ji
theorem Juy (ih:Snd ce k P n):Snd ce k P (n+1):=by
 refine⟨λ S X e G=>?_,λ S X e G=>?_,λ S X e G=>?_,λ S X x args p pos G hg ha=>?_,λ S X tg e G=>?_,λ S X e G=>?_⟩
 ·have ihe:=λ e=>ih.e S X e G
  have hu:=G.room.units
  cases e with
  | Constant c j p =>
   cases c with
   | int i=>exact J2u
   | bool b=>exact i_bl
   | none=>exact J2x
   | str x=>exact J2y
   | _=>exact Ji
  | Name x p =>
   show PEi ce X (.Name x p) (match S.vis x with|some i=>Ja i|none=>if S.gl x then(match P.con x with|some v=>eC v|none=>stE) else stE)
   cases hv:S.vis x with
   | some i =>
    obtain⟨h1,h2,h3,h4⟩:=G.vis hv
    exact J20 i h1 h2 h3 h4
   | none =>
    dsimp only
    split
    ·rename_i hg
     obtain⟨gx,xdb,_⟩:=G.gl hg
     cases hc:P.con x with
     | none=>exact Ji
     | some v =>
      obtain⟨u,y,hm,r,q⟩:=G.pg.con x v hc
      exact Jz0 gx hm r q xdb
    ·exact Ji
  | BinOp a op b p=>exact J2q (J27 op) (ihe a) (ihe b)
  | UnaryOp op a p=>exact i_un (o_un op) (ihe a)
  | BoolOp op vs p =>
   cases op with
   | And=>exact Jvz ihe vs
   | Or=>exact Jzn ihe vs
  | IfExp t a b p=>exact Jxo (ih.t S X t G) (ihe a) (ihe b)
  | Compare a ops cs p =>
   match ops,cs with
   | [o],[b] =>
    show PEi ce X _ (if ZcH o b then stE else Jc (cmpD P.ne o b) (ev P n S a) (ev P n S b))
    split
    ·exact Ji
    ·rename_i hb
     exact J2s (Jwd hu (λ c z=>let ⟨C,p,q,_⟩:=G.pg.ne c z;⟨C,p,q⟩) o b) (ihe a) (ihe b) (Zcx.mpr hb)
   | [o,o'],[b,c] =>
    show PEi ce X _ (if Zev [o,o'] [b,c] then stE else JS (cmpI o) (cmpI o') (ev P n S a) (ev P n S b) (ev P n S c))
    split
    ·exact Ji
    ·rename_i hb
     exact Jxn (Ym hu o) (Ym hu o') (ihe a) (ihe b) (ihe c) (Zcx.mpr hb)
   | [],_=>exact Ji
   | [_],[]=>exact Ji
   | [_],_::_::_=>exact Ji
   | [_,_],[]=>exact Ji
   | [_,_],[_]=>exact Ji
   | [_,_],_::_::_::_=>exact Ji
   | _::_::_::_,_=>exact Ji
  | Tuple es j p =>
   show PEi ce X _ (if es.all Jw then eTup (aAll (es.map (ev P n S))) else stE)
   split
   ·rename_i hs
    exact J2z (Vl hs ihe)
   ·exact Ji
  | List es p =>
   show PEi ce X _ (if es.all Jw then eLst (aAll (es.map (ev P n S))) else stE)
   split
   ·rename_i hs
    exact J2w (Vl hs ihe)
   ·exact Ji
  | Dict ks vs p =>
   match ks,vs with
   | [Za k],[v]=>exact Ji
   | [],[]=>exact Jzy
   | [],_::_=>exact Ji
   | [Zd],_=>exact Ji
   | [Za _],[]=>exact Ji
   | [Za _],_::_::_=>exact Ji
   | some _::_::_,_=>exact Ji
   | none::_::_,_=>exact Ji
  | Subscript a i p =>
   cases i with
   | Slice lo hi st q =>
    cases st with
    | none=>exact Jxr x_sl (ihe a) (ih.o S X lo G) (ih.o S X hi G)
    | some st=>exact Ji
   | _=>exact i_ix (J38 a) (ihe a) (ihe _) (Jt0 rfl)
  | Attribute o f p =>
   show PEi ce X _ (if Vs o&&P.fld f then Jm f (ev P n S o) else stE)
   split
   ·rename_i hs
    simp only[Zp] at hs
    exact J2t (ihe o) (G.pg.fld f hs.2) (Jcq hs.1)
   ·exact Ji
  | Call f args kws p =>
   cases kws with
   | cons kw kws =>
    cases f with
    | Name x q=>exact J1q G λ S X e G=>ih.e S X e G
    | _=>exact Ji
   | nil =>
    cases f with
    | Name x q =>
     show PEi ce X _ (if S.gl x&&args.all Jw then Jqm P n S x args else stE)
     split
     ·rename_i hs
      simp only[Zp] at hs
      exact ih.c S X x args q p G hs.1 hs.2
     ·exact Ji
    | Attribute o m ap =>
     show PEi ce X _ (if args.all Jw&&Vs o&&(ap.endLine==p.line)&&decide (args.length<30) then Jw9 P m args.length (Jmk P S m o) (ev P n S o) (aAll (args.map (ev P n S))) else stE)
     split
     ·rename_i hs
      simp only[Zp,decide_eq_true_eq] at hs
      exact Jur G (ihe o) ihe hs.1.1.1 hs.1.1.2 hs.1.2 hs.2
     ·exact Ji
    | _=>exact Ji
  | ListComp elt gens sc p =>
   match gens with
   | [⟨tg,iter,ifs,as⟩] =>
    show PEi ce X _ (if as=0/\Xy iter=Zj/\Q3 S.N (Vr sc) (Qv sc) (jsOf S sc) S.fake sc=Zj then
     Jp3 ifs (evT P n (S.comp sc)) (λ mt=>Jx (evI P n S tg iter) (Vr sc).length (jsOf S sc) (tgt P n (S.comp sc) tg) mt (ev P n (S.comp sc) elt)) else stE)
    split
    ·rename_i hs
     obtain⟨rfl,hi,ok⟩:=hs
     have Gc:=G.comp ok
     have ok':=ok
     rw[<- Jj8 G] at ok'
     match ifs with
     | []=>exact Jv2 G.calm (ih.i S X tg iter G) (λ C s H fp=>ih.g _ _ tg (Gc C s H fp)) (λ C s H fp=>Jwm) (λ C s H fp=>ih.e _ _ elt (Gc C s H fp)) ok' G.n rfl (Yc hi)
     | [c]=>exact Jv2 G.calm (ih.i S X tg iter G) (λ C s H fp=>ih.g _ _ tg (Gc C s H fp)) (λ C s H fp=>Jwn (ih.t _ _ c (Gc C s H fp))) (λ C s H fp=>ih.e _ _ elt (Gc C s H fp)) ok' G.n rfl (Yc hi)
     | _::_::_=>exact Ji
    ·exact Ji
   | []=>exact Ji
   | ⟨_,_,_,_⟩::_::_=>exact Ji
  | _=>exact Ji
 ·have ihe:=λ e=>ih.e S X e G
  have hu:=G.room.units
  cases e with
  | UnaryOp op a p =>
   cases op with
   | Not=>exact J3z (ih.t S X a G)
   | _=>exact J1t Yu (ihe _)
  | BoolOp op vs p =>
   cases op with
   | And=>exact(Jwk (λ e=>ih.t S X e G) vs).t
   | Or=>exact(J1s (λ e=>ih.t S X e G) vs).t
  | IfExp t a b p=>exact Ji
  | Compare a ops cs p =>
   match ops,cs with
   | [o],[b] =>
    show PTi ce X _ (if ZcH o b then stT else Jh asB (Jc (cmpD P.ne o b) (ev P n S a) (ev P n S b)))
    split
    ·exact Ji
    ·rename_i hb
     exact J3y (Jwd hu (λ c z=>let ⟨C,p,q,_⟩:=G.pg.ne c z;⟨C,p,q⟩) o b) (ihe a) (ihe b) (Zcx.mpr hb)
   | [o,o'],[b,c] =>
    show PTi ce X _ (if Zev [o,o'] [b,c] then stT else Jh asB (JS (cmpI o) (cmpI o') (ev P n S a) (ev P n S b) (ev P n S c)))
    split
    ·exact Ji
    ·rename_i hb
     exact Jyw (Ym hu o) (Ym hu o') (ihe a) (ihe b) (ihe c) (Zcx.mpr hb)
   | [],_=>exact Ji
   | [_],[]=>exact Ji
   | [_],_::_::_=>exact Ji
   | [_,_],[]=>exact Ji
   | [_,_],[_]=>exact Ji
   | [_,_],_::_::_::_=>exact Ji
   | _::_::_::_,_=>exact Ji
  | _=>exact J1t Yu (ihe _)
 ·cases e with
  | none=>exact J0z
  | some e=>exact J00 (ih.e S X e G)
 ·have ihe:=λ e=>ih.e S X e G
  show PEi ce X _ (match P.fn x with
  | some f=>VQ f args.length (aAll (args.map (ev P n S)))
  | none=>match P.cls x with
   | some f=>Jmq x f args.length (aAll (args.map (ev P n S)))
   | none=>if P.free x then Jfq P S x (ev P n S) args else stE)
  cases hx:P.fn x with
  | some f=>exact Juu G hx hg ha ihe
  | none =>
   dsimp only
   cases hc:P.cls x with
   | some f=>exact Juv G hc hg ha ihe
   | none =>
    dsimp only
    split
    ·rename_i hfr
     exact Jpa G ihe hg ha hfr
    ·exact Ji
 ·have ihe:=λ e=>ih.e S X e G
  cases e with
  | Call f args kws p =>
   cases kws with
   | cons _ _=>cases f<;>exact Jtn (ihe _)
   | nil =>
    cases f with
    | Name x q =>
     show PIi ce X tg _ (if S.gl x&&P.free x&&args.all Jw&&(x=="range") then Jzv args.length (aAll (args.map (ev P n S)))
      else if S.gl x&&P.free x&&args.all Jw&&(x=="enumerate") then(match tg,args with
       | .Tuple ..,[a]=>iRg Q7 (Jb (ev P n S a) Jd)
       | _,_=>stI)
      else Ju (ev P n S (.Call (.Name x q) args [] p)))
     split
     ·rename_i hs
      simp only[Zp,beq_iff_eq] at hs
      obtain⟨⟨⟨hg,hf⟩,ha⟩,rfl⟩:=hs
      obtain⟨gx,_,_⟩:=G.gl hg
      have hm:=G.pg.free _ hf
      have pa:=Vl ha ihe
      match args,ha,pa with
      | [],_,_=>exact Yp
      | [a],ha,pa =>
       simp only[Zau,Zp] at ha
       exact Jtp gx hm pa (Jy ha.1)
      | [a,b],ha,pa =>
       simp only[Zau,Zp] at ha
       exact Yp
      | _::_::_::_,_,_=>exact Yp
     ·split
      ·rename_i hs
       simp only[Zp,beq_iff_eq] at hs
       obtain⟨⟨⟨hg,hf⟩,ha⟩,rfl⟩:=hs
       obtain⟨gx,_,_⟩:=G.gl hg
       have hm:=G.pg.free _ hf
       split
       ·simp only[Zau,Zp] at ha
        exact Jzz gx hm (Qu (ihe _) Q2 (Jy ha.1)) (Jy ha.1)
       ·exact Yp
      ·exact Jtn (ihe _)
    | _=>exact Jtn (ihe _)
  | _=>exact Jtn (ihe _)
 ·cases e with
  | Name x p =>
   show PGi ce X _ (match S.sto x with|some i=>gNm i|none=>stG)
   cases hv:S.sto x with
   | none=>exact X2
   | some i =>
    obtain⟨h1,h2,h3⟩:=G.sto hv
    exact g_nm G.nodup h1 h2 h3
  | Tuple es j p =>
   show PGi ce X _ (if es.all Jw then gTp es.length (gAll (es.map (tgt P n S))) else stG)
   split
   ·rename_i hs
    exact J2n G.calm (Jv1 hs λ e=>ih.g S X e G) (Jvs hs) (Jpr hs)
   ·exact X2
  | Subscript o i p =>
   show PGi ce X _ (if VW i then gSbF o (ev P n S o) (ev P n S i) else stG)
   split
   ·rename_i hs
    unfold gSbF
    split
    ·refine Jzq (ih.e S X o G) (ih.e S X i G) λ v=>?_
     cases i<;>first|rfl|cases hs
    ·exact X2
   ·exact X2
  | _=>exact X2
theorem Jja (ce:CeT)(k:Nat)(P:Pg):∀n,Snd ce k P n
 | 0=>Juz
 | n+1=>Juy (Jja ce k P n)
end
section
variable {ce:CeT}{X:Cx}{pos:Pos}
theorem Jyk {c:Expr}{body:List ZdP}{mt:T1}{mb:S1}(hc:PTi ce X c mt)(hb:PS2 ce X body mb):PS1 ce X (.While c body [] pos) (VY mt mb):=by
 intro pj s σ H ι σi h Q E N K
 unfold VY at K
 generalize turns=m0 at K
 refine wpAny_While (codeAny_whileLoop (λ n s'=>∃ιk σk hk σ' H',Now ce X pj ιk σk hk σ' H' s'/\Nxt ι H ιk H'/\JB ce X pj ιk H' (Vx mt mb n σk hk) Q E) ?_ m0 ⟨ι,σi,h,σ,H,N,.refl,K⟩)
 rintro n s1 ⟨ι1,σ1i,h1,σ1,H1,N1,n1,K1⟩
 cases n with
 | zero=>exact Zf K1
 | succ n =>
  unfold Vx at K1
  refine nof (hc pj s1 σ1 H1 ι1 σ1i h1 _ (λ _ _=>False) N1 ?_)
  cases et:mt σ1i h1 with
  | exc m h2=>rw[et] at K1;exact Zf K1
  | stuck=>rw[et] at K1;exact Zf K1
  | ok b h2 =>
   rw[et] at K1
   intro b' s2 H2 ι2 N2 n2 r2
   have r':b'=b:=r2
   subst r'
   dsimp only at K1
   cases b' with
   | false=>exact ZdA (K1 s2 σ1 H2 ι2 N2 n2)
   | true =>
    rw[if_pos rfl]
    rw[if_pos rfl] at K1
    refine nof (hb pj s2 σ1 H2 ι2 σ1i h2 _ (λ _ _=>False) N2 ?_)
    cases eb:mb σ1i h2 with
    | next σ3 h3 =>
     rw[eb] at K1
     exact λ s3 σ3' H3 ι3 N3 n3=>⟨n,Zax n,ι3,σ3,h3,σ3',H3,N3,(n1.trans n2).trans n3,JB.mono (r:=Vx mt mb n σ3 h3) K1 (n2.trans n3)⟩
    | cont σ3 h3 =>
     rw[eb] at K1
     exact λ s3 σ3' H3 ι3 N3 n3=>⟨n,Zax n,ι3,σ3,h3,σ3',H3,N3,(n1.trans n2).trans n3,JB.mono (r:=Vx mt mb n σ3 h3) K1 (n2.trans n3)⟩
    | brk σ3 h3 =>
     rw[eb] at K1
     exact λ s3 σ3' H3 ι3 N3 n3=>K1 s3 σ3' H3 ι3 N3 (n2.trans n3)
    | ret v h3 =>
     rw[eb] at K1
     exact λ u s3 σ3i σ3' H3 ι3 N3 n3 r=>K1 u s3 σ3i σ3' H3 ι3 N3 (n2.trans n3) r
    | exc m σ3 h3=>rw[eb] at K1;exact Zf K1
    | stuck=>rw[eb] at K1;exact Zf K1
theorem Jtr (no:¬ ∃i j,op=.Add/\x=.int i/\y=.int j):ipI op x y h=.stuck:=by
 unfold ipI
 split
 ·exact absurd ⟨_,_,rfl,rfl,rfl⟩ no
 ·rfl
theorem o_ip (op:ZcJ):OpI ce X (inplaceOp op) (ipI op):=by
 intro pj s σ H ι σi h x y v u Q E N rx ry K
 by_cases c:∃i j,op=.Add/\x=.int i/\y=.int j
 ·obtain⟨i,j,rfl,rfl,rfl⟩:=c
  obtain⟨xv,rx,qx⟩:=rx
  obtain⟨yv,ry,qy⟩:=ry
  cases (show xv=.int i from qx)
  cases (show yv=.int j from qy)
  obtain⟨t,rfl⟩:=rx
  obtain⟨t',rfl⟩:=ry
  exact iadd_int (K _ _ H ι ⟨N.inv.tok _,N.rel,N.st⟩ .refl ⟨.int (i+j),⟨_,rfl⟩,rfl⟩)
 ·rw[Jtr c] at K
  exact Zf K
theorem J3t {i:Nat}{x:Str}{e:Expr}{me:E1}{op:ZcJ}{pos':Pos}(hN:X.N.Nodup)(he:PEi ce X e me)(hi:X.N[i]?=Za x)(hx:Loc X.env.scope x)(hf:X.fn x=Zj∨X.env.scope.names.lookup x=Za .local) :
  PS1 ce X (.AugAssign (.Name x pos') op e pos) (sAug op i me):=by
 intro pj s σ H ι σi h Q E N K
 refine wpAny_AugAssign_Name ?_
 unfold sAug at K
 cases ev:Ja i σi h with
 | exc n h1=>exfalso;unfold Ja at ev;split at ev<;>cases ev
 | stuck=>rw[ev] at K;exact Zf K
 | ok v h1 =>
  rw[ev] at K
  obtain⟨e1,rfl⟩:σi[i]?=Za (Za v)/\h1=h:=by
   unfold Ja at ev
   split at ev
   ·rename_i q;cases ev;exact⟨q,rfl⟩
   ·cases ev
  obtain⟨w,hw,qw⟩:=N.st.at_ i v e1
  obtain⟨m,hn,hl⟩:=N.inv.loc
  have vis:Vis X.env.scope x:=by rcases hx with k|k;exact .inl k;exact .inr (.inl k)
  obtain⟨u,r,l⟩:=hl i x w hi hw vis
  have go:Zu (Z6 X.prog X.w) X.A (Zbr e X.env) (λ w s₂=>Zu (Z6 X.prog X.w) X.A (inplaceOp op u w) (λ r s₃=>Zu (Z6 X.prog X.w) X.A (storeName X.env x r) (λ _=>Q .next) E s₃) E s₂) E s:=by
   refine krun he N K λ y h2 uy s2 H2 ι2 N2 n2 r2 K2=>?_
   refine o_ip op pj s2 σ H2 ι2 σi h2 v y u uy _ E N2 ⟨w,r,RV.mono n2 _ _ qw⟩ r2 ?_
   cases ez:ipI op v y h2 with
   | exc n h3 =>
    rw[ez] at K2
    exact λ pl a s' H' ι' N' n' q=>K2 pl a s' σ H' ι' N' n' q s' (.inl rfl)
   | stuck=>rw[ez] at K2;exact K2
   | ok z h3 =>
    rw[ez] at K2
    intro uz s3 H3 ι3 N3 n3 r3
    obtain⟨zv,rz,qz⟩:=r3
    exact Jf2 N3.inv hN hi hx rz (λ s4 I4=>K2 s4 _ H3 ι3 ⟨I4,N3.rel,N3.st.set i qz⟩ n3) hf
  rcases l with⟨hk,hm⟩|⟨hk,c,hc,hcell⟩
  ·exact wpAny_loadName_local N.inv.ok.kind hk hn hm go
  ·rcases hk with hk|hk
   ·exact wpAny_loadName_cell N.inv.ok.kind hk hc hcell go
   ·rcases hx with k|k
    ·have:X.env.scope.names.lookup x=Za .free:=hk
     rw[k] at this;cases this
    ·have:X.env.scope.names.lookup x=Za .free:=hk
     rw[k] at this;cases this
theorem J1d {fl:Str}{o e:Expr}{mo me:E1}{op:ZcJ}{tpos:Pos}(ho:PEi ce X o mo)(he:PEi ce X e me)(hf:XO ce X.K fl):PS1 ce X (.AugAssign (.Attribute o fl tpos) op e pos) (X9 op fl mo me):=by
 intro pj s σ H ι σi h Q E N K
 refine wpAny_AugAssign_AttributeAny (krun ho N K λ ov h1 w s1 H1 ι1 N1 n1 r1 K1=>?_)
 cases ov with
 | ref i =>
  obtain⟨w,rw',a,e1,hi⟩:=r1
  subst e1
  cases rw'
  dsimp only at K1
  cases hh:h1[i]? with
  | none=>rw[hh] at K1;exact Zf K1
  | some ob =>
   cases ob with
   | ins c fs =>
    rw[hh] at K1
    dsimp only at K1
    cases hl:fs.lookup fl with
    | none=>rw[hl] at K1;exact Zf K1
    | some x =>
     rw[hl] at K1
     obtain⟨C,dx,vs,hC,hH,rp⟩:=N1.at hh hi
     obtain⟨cl,na⟩:=hf c C hC
     obtain⟨y,hy,q⟩:=(RPs.lookup rp).1 x hl
     refine Jhs N1.inv hH cl na hy λ u' s2 I2 ru=>?_
     refine krun he (⟨I2,N1.rel,N1.st⟩:Now ce X pj ι1 σi h1 σ H1 s2) K1 λ z h3 uz s3 H3 ι3 N3 n3 r3 K3=>?_
     refine o_ip op pj s3 σ H3 ι3 σi h3 x z u' uz _ E N3 ⟨y,ru,RV.mono n3 _ _ q⟩ r3 ?_
     cases ez:ipI op x z h3 with
     | exc n h4 =>
      rw[ez] at K3
      exact λ pl a s' H' ι' N' n' q=>K3 pl a s' σ H' ι' N' n' q s' (.inl rfl)
     | stuck=>rw[ez] at K3;exact K3
     | ok v h4 =>
      rw[ez] at K3
      intro uv s4 H4 ι4 N4 n4 r4
      dsimp only[rS] at K3
      have hi4:ι4[i]?=Za a:=n4.at (n3.at hi)
      cases h4i:h4[i]? with
      | none=>rw[h4i] at K3;exact Zf K3
      | some ob =>
       cases ob with
       | ins c' gs =>
        rw[h4i] at K3
        dsimp only at K3
        split at K3
        ·rename_i hz
         obtain⟨C',dx',vs',hC',hH',rp'⟩:=N4.at h4i hi4
         obtain⟨cl',na'⟩:=hf c' C' hC'
         obtain⟨yv,ryv,qv⟩:=r4
         refine Jhx N4.inv hH' cl' na' (by rw[rp'.length];exact hz) ryv λ s5 I5=>?_
         have n5:Nxt ι4 H4 ι4 (upd H4 a (.ins C' dx' (putF fl yv vs'))):=⟨⟨[],by simp⟩,Ext.upd_mut hH' (by rw[hH'];exact Zaz)⟩
         obtain⟨R5,_⟩:=N4.rel.write (o:=.ins C' dx' (putF fl yv vs')) (io:=.ins c' (putI fl v gs)) hi4 hH' (by rw[hH'];exact Zaz) ⟨C',dx',_,hC',J0,RPs.put (RV.mono n5 _ _ qv) (RPs.mono n5 _ _ rp')⟩
         exact K3 s5 σ _ ι4 ⟨I5,R5,N4.st.mono n5⟩ (n4.trans n5)
        ·exact Zf K3
       | _=>rw[h4i] at K3;exact Zf K3
   | _=>rw[hh] at K1;exact Zf K1
 | _=>exact Zf K1
theorem Jzr:OpI ce X Ze9 ixL:=by
 intro pj s σ H ι σi h x y v u Q E N rx ry K
 obtain⟨xv,rx,qx⟩:=rx
 obtain⟨yv,ry,qy⟩:=ry
 cases x with
 | ref i =>
  cases y with
  | int k =>
   obtain⟨a,rfl,ha⟩:=qx
   cases (show yv=.int k from qy)
   cases rx
   obtain⟨t,rfl⟩:=ry
   dsimp only[ixL] at K
   cases hi:h[i]? with
   | none=>rw[hi] at K;exact Zf K
   | some ob =>
    rw[hi] at K
    cases ob with
    | lst xs =>
     dsimp only at K
     cases hk:atI xs k with
     | none=>rw[hk] at K;exact Zf K
     | some z =>
      rw[hk] at K
      dsimp only at K
      split at K
      ·rename_i h0
       obtain⟨vs,e1,r1⟩:=N.at hi ha
       obtain⟨w,hw,qw⟩:=Jh3 r1 hk
       obtain⟨its,r,pl,hz⟩:=N.inv.list (SqL.of e1)
       obtain⟨j,g1,g2,g3,g4,g5⟩:=Jh2 hw
       obtain⟨w',ew,rw'⟩:=r.get g2
       have hn:=VU
       have hj:k.toNat=j:=by
        rw[Zfc h0 g5] at g1
        exact Zao g1
       exact wpAny_getItem_list pl.isList h0 (by omega) (by rw[hj];simpa using ew) (K _ _ H ι N .refl ⟨w,rw',qw⟩)
      ·exact Zf K
    | _=>exact Zf K
  | _=>exact Zf K
 | _=>cases y<;>exact Zf K
theorem J0h (p:OpI ce X f g)(N:Now ce X pj ι σi h σ H s)(rx:RU X.K ι H x v)(ry:RU X.K ι H y u) 
  {k:IV->IH->SRes}{Q:Flow->Zl->Prop}{E:QvT}{Q1:QvT}(K:JB ce X pj ι H (rS σi (g x y h) k) Q E)
  (step:∀z h1 w s1 H1 ι1,Now ce X pj ι1 σi h1 σ H1 s1->Nxt ι H ι1 H1->RU X.K ι1 H1 z w->JB ce X pj ι1 H1 (k z h1) Q E->Q1 w s1):Zu (Z6 X.prog X.w) X.A (f v u) Q1 E s:=by
 refine p pj s σ H ι σi h x y v u Q1 E N rx ry ?_
 cases e:g x y h with
 | ok z h' =>
  rw[e] at K
  exact λ w s' H' ι' N' n' r=>step z h' w s' H' ι' N' n' r (JB.mono (r:=k z h') K n')
 | exc n h' =>
  rw[e] at K
  exact λ pl a s' H' ι' N' n' q=>K pl a s' σ H' ι' N' n' q s' (.inl rfl)
 | stuck =>
  rw[e] at K
  exact K
theorem J1n {pj:PnT}{s:Zl}{σ:L2.St}{H:Hp}{ι:List Zq}{σi:ISt}{h:IH}{o i v:IV}{ou iu u:Zh}{Q:Flow->Zl->Prop}{E:QvT}(N:Now ce X pj ι σi h σ H s)(ro:RU X.K ι H o ou)(ri:RU X.K ι H i iu)(rv:RU X.K ι H v u)
  (K:JB ce X pj ι H (setI o i v σi h) Q E):Zu (Z6 X.prog X.w) X.A (setItem ou iu u) (λ _=>Q .next) E s:=by
 obtain⟨ox,ro,qo⟩:=ro
 obtain⟨ix,ri,qi⟩:=ri
 obtain⟨vx,rvx,qv⟩:=rv
 cases o with
 | ref i =>
  rename_i iv
  cases iv with
  | int k =>
   obtain⟨a,rfl,haa⟩:=qo
   cases (show ix=.int k from qi)
   dsimp only[setI] at K
   cases hh:h[i]? with
   | none=>rw[hh] at K;exact Zf K
   | some ob =>
    rw[hh] at K
    cases ob with
    | lst xs =>
     dsimp only at K
     cases hj:ixN xs.length k with
     | none=>rw[hj] at K;exact Zf K
     | some j =>
      rw[hj] at K
      obtain⟨ws,e1,r1'⟩:=N.at hh haa
      refine Zas (Juo (X:=X.wish E) pj s σ H (.ref a) (.int k) vx ou iu u (λ H'=>H'=upd H a (.lst (ws.set j vx))) (N.inv.wish E) ro ri rvx ⟨a,ws,k,j,rfl,rfl,e1,by rw[r1'.length];exact hj,rfl⟩) (λ _ s3 hq=>?_) λ _ _ z=>z
      obtain⟨H',I',rfl⟩:=hq
      have n:Nxt ι H ι (upd H a (.lst (ws.set j vx))):=⟨⟨[],by simp⟩,Ext.upd_mut e1 (by rw[e1];exact Zaz)⟩
      obtain⟨R3,_⟩:=N.rel.write (o:=.lst (ws.set j vx)) (io:=.lst (xs.set j v)) haa e1 (by rw[e1];exact Zaz) ⟨_,J0,(RVs.mono n _ _ r1').set (RV.mono n _ _ qv) j⟩
      exact K s3 σ _ ι ⟨I'.unwish,R3,N.st.mono n⟩ n
    | _=>exact Zf K
  | _=>exact Zf K
 | _=>cases i<;>exact Zf K
theorem J1e {o i e:Expr}{mo mi me:E1}{op:ZcJ}{tpos:Pos}(ho:PEi ce X o mo)(hi:PEi ce X i mi)(he:PEi ce X e me)(hs:VW i=Zj):PS1 ce X (.AugAssign (.Subscript o i tpos) op e pos) (XA op mo mi me):=by
 intro pj s σ H ι σi h Q E N K
 refine wpAny_AugAssign_SubscriptAny (krun ho N K λ ov h1 ou s1 H1 ι1 N1 n1 r1 K1=>krun hi N1 K1 λ kv h2 ku s2 H2 ι2 N2 n2 r2 K2=>?_) (λ _ _ _=>by cases i<;>first|rfl|cases hs)
 refine J0h Jzr N2 (r1.mono n2) r2 K2 λ x h3 xu s3 H3 ι3 N3 n3 r3 K3=>?_
 refine krun he N3 K3 λ y h4 yu s4 H4 ι4 N4 n4 r4 K4=>?_
 refine J0h (o_ip op) N4 (r3.mono n4) r4 K4 λ z h5 zu s5 H5 ι5 N5 n5 r5 K5=>?_
 exact J1n N5 ((((r1.mono n2).mono n3).mono n4).mono n5) (((r2.mono n3).mono n4).mono n5) r5 K5
end
section
variable {ce:CeT}{k:Nat}{P:Pg}{n:Nat}{S:Sc}{X:Cx}
theorem X8 (hf:∀s,PS1 ce X s (f s)):∀(l:List ZdP),PS2 ce X l (sAll (l.map f))
 | []=>J1a
 | [a]=>J1b (hf a)
 | a::b::r=>Jyf (hf a) (X8 hf (b::r))
end
section
variable {ce:CeT}{k:Nat}{P:Pg}{S:Sc}{X:Cx}{xi:Xi}{xf:Str->Str->Bool}{fr:Str->Bool}
end
section
variable {ce:CeT}{k:Nat}{P:Pg}{n:Nat}{S:Sc}{X:Cx}
theorem Jww {tg:Expr}{env:Env}(h:Jw tg=Zj):(ZaR [tg] env).map (·.2)=[ZeA tg env]:=by
 cases tg<;>first|rfl|cases h
theorem Jux (G:Good ce k P S X)(i:Nat){p q:Pos}(h:isLC e=Zj)(h1:X.N[i]?=Za x)(h2:L2.Loc X.env.scope x)(h3:X.fn x=Zj∨X.env.scope.names.lookup x=Za .local) :
  PS1 ce X (.Assign [.Name x q] e p) (Jj i (ev P n S e)):=by
 cases e with
 | ListComp elt gens sc cp =>
  cases hb:(X.env.blockKind==.function&&X.env.kindOf x==Za .local&&q.line==cp.line&&!(sc.names.any λ (n,k)=>n==x&&(k==.local||k==.cell))) with
  | false =>
   refine J1j G.nodup ((Jja ce k P n).e S X _ G) h1 h2 ?_ h3
   show(pure (X.env.blockKind==.function&&X.env.kindOf x==Za .local&&q.line==cp.line&&!(sc.names.any λ (n,k)=>n==x&&(k==.local||k==.cell))):Sem Bool)=pure Zm
   rw[hb]
  | true =>
   have hsw:ZdM (.ListComp elt gens sc cp) (Za (.Name x q)) p.line X.env=pure Zj:=by
    show(pure (X.env.blockKind==.function&&X.env.kindOf x==Za .local&&q.line==cp.line&&!(sc.names.any λ (n,k)=>n==x&&(k==.local||k==.cell))):Sem Bool)=pure Zj
    rw[hb]
   have dead:∀m:E1,(∀σ h,m σ h=.stuck)->PS1 ce X (.Assign [.Name x q] (.ListComp elt gens sc cp) p) (Jj i m):=λ m hm=>by
    intro pj s σ H ι σi h Q E N K
    unfold Jj at K
    rw[hm] at K
    exact Zf K
   cases n with
   | zero=>exact dead _ λ _ _=>rfl
   | succ n =>
    have ih:=Jja ce k P n
    match gens,hsw with
    | [⟨tg,iter,ifs,as⟩],hsw =>
     show PS1 ce X _ (Jj i (if as=0/\Xy iter=Zj/\Q3 S.N (Vr sc) (Qv sc) (jsOf S sc) S.fake sc=Zj then
      Jp3 ifs (evT P n (S.comp sc)) (λ mt=>Jx (evI P n S tg iter) (Vr sc).length (jsOf S sc) (tgt P n (S.comp sc) tg) mt (ev P n (S.comp sc) elt)) else stE))
     split
     ·rename_i hs
      obtain⟨rfl,hi,ok⟩:=hs
      have Gc:=G.comp ok
      have ok':=ok
      rw[<- Jj8 G] at ok'
      match ifs,hsw with
      | [],hsw=>exact Jwh G.calm (ih.i S X tg iter G) (λ C s H fp=>ih.g _ _ tg (Gc C s H fp)) (λ C s H fp=>Jwm) (λ C s H fp=>ih.e _ _ elt (Gc C s H fp)) ok' G.n rfl (Yc hi) G.nodup h1 h2 h3 hsw
      | [c],hsw=>exact Jwh G.calm (ih.i S X tg iter G) (λ C s H fp=>ih.g _ _ tg (Gc C s H fp)) (λ C s H fp=>Jwn (ih.t _ _ c (Gc C s H fp))) (λ C s H fp=>ih.e _ _ elt (Gc C s H fp)) ok' G.n rfl (Yc hi) G.nodup h1 h2 h3 hsw
      | _::_::_,_=>exact dead _ λ _ _=>rfl
     ·exact dead _ λ _ _=>rfl
    | [],_=>exact dead _ λ _ _=>rfl
    | ⟨_,_,_,_⟩::_::_,_=>exact dead _ λ _ _=>rfl
 | _=>cases h
theorem Jna (ce:CeT)(k:Nat)(P:Pg):∀(n:Nat)(S:Sc)(X:Cx)(st:ZdP),Good ce k P S X->PS1 ce X st (ex P n S st)
 | 0,_,_,_,_=>JO
 | n+1,S,X,st,G=>by
  have ih:=λ st=>Jna ce k P n S X st G
  have E:=Jja ce k P n
  have ihe:=λ e=>E.e S X e G
  cases st with
  | Pass p=>exact J1h
  | Break p=>exact Jyj
  | Continue p=>exact J1f
  | Expr e p =>
   show PS1 ce X _ (if Vt e then JI (ev P n S e) else stS)
   split
   ·rename_i h
    exact J1g (ihe e) (Jcv h)
   ·exact JO
  | Return v p =>
   cases v with
   | none=>exact J1i
   | some e=>exact J3w (ihe e)
  | If c a b p=>exact s_if (E.t S X c G) (X8 ih a) (X8 ih b)
  | Raise exc cause p=>exact JO
  | Try body hs o f p=>exact JO
  | While c a o p =>
   cases o with
   | nil=>exact Jyk (E.t S X c G) (X8 ih a)
   | cons _ _=>exact JO
  | For tg it a o p =>
   cases o with
   | nil =>
    show PS1 ce X _ (if Xy it&&S.own then sFor (evI P n S tg it) (tgt P n S tg) (sAll (a.map (ex P n S))) else stS)
    split
    ·rename_i h
     rw[Zp] at h
     obtain⟨hk,hf⟩:=G.top h.2
     exact J3v G.calm hk hf (E.i S X tg it G) (E.g S X tg G) (X8 ih a) (Yc h.1)
    ·exact JO
   | cons _ _=>exact JO
  | AugAssign tg op e p =>
   cases tg with
   | Name x q =>
    show PS1 ce X _ (match S.sto x with|some i=>sAug op i (ev P n S e)|none=>stS)
    cases hv:S.sto x with
    | none=>exact JO
    | some i =>
     obtain⟨h1,h2,h3⟩:=G.sto hv
     exact J3t G.nodup (ihe e) h1 h2 h3
   | Attribute o f q =>
    show PS1 ce X _ (if P.fld f then X9 op f (ev P n S o) (ev P n S e) else stS)
    split
    ·rename_i h
     exact J1d (ihe o) (ihe e) (G.pg.fld f h)
    ·exact JO
   | Subscript o i q =>
    show PS1 ce X _ (if VW i then XA op (ev P n S o) (ev P n S i) (ev P n S e) else stS)
    split
    ·rename_i h
     exact J1e (ihe o) (ihe i) (ihe e) h
    ·exact JO
   | _=>exact JO
  | Assign tgs e p =>
   match tgs with
   | []=>exact JO
   | a::_::_=>cases a<;>exact JO
   | [tg] =>
    have gen:PS1 ce X (.Assign [tg] e p) (if Vt e&&((Jtw tg&&Jx4 e)||Jtv tg) then sAsg (ev P n S e) (tgt P n S tg) else stS):=by
     split
     ·rename_i h
      simp only[Zp,ZaE] at h
      have hst:Jw tg=Zj:=by
       rcases h.2 with q|q
       ·cases tg<;>first|rfl|(simp[Jtw] at q)
       ·cases tg<;>first|rfl|(simp[Jtv] at q)
      refine J3s (ihe e) (E.g S X tg G) (Jcv h.1) ?_ (Jww hst)
      rcases h.2 with q|q
      ·cases tg with
       | Tuple es j pp =>
        have q2:=q.2
        cases e<;>first|rfl|(simp[Jx4] at q2)
       | _=>simp[Jtw] at q
      ·cases tg with
       | Subscript=>cases e<;>rfl
       | _=>simp[Jtv] at q
     ·exact JO
    cases tg with
    | Name x q =>
     show PS1 ce X _ (if Vt e||isLC e then(match S.sto x with|some i=>Jj i (ev P n S e)|none=>stS) else stS)
     split
     ·rename_i h
      cases hv:S.sto x with
      | none=>exact JO
      | some i =>
       obtain⟨h1,h2,h3⟩:=G.sto hv
       rcases ZaE _ _▸h with h|h
       ·exact J1j G.nodup (ihe e) h1 h2 (Jcv h) h3
       ·exact Jux G i h h1 h2 h3
     ·exact JO
    | Attribute o f q =>
     show PS1 ce X _ (if Vt e||isLC e then Jyg P f (ev P n S o) (ev P n S e) else stS)
     split
     ·rename_i h
      have hw:ZdM e (Za (.Attribute o f q)) p.line X.env=pure Zm:=by
       rcases ZaE _ _▸h with h|h
       ·exact Jcv h
       ·cases e<;>first|rfl|cases h
      unfold Jyg
      split
      ·rename_i hf
       exact J3u (ihe o) (ihe e) (G.pg.fld f hf) hw
      ·exact JO
     ·exact JO
    | _=>exact gen
  | _=>exact JO
end
structure D4 where
 st:ZdP
 qual:Str
 ps:List Str
 N:List Str
 dvs:List IV
def D4.sc (d:D4):Sc:=⟨d.N,(JK d.st).names,Zj,d.qual⟩
structure Tab where
 fns:List (Str×D4)
 clss:List (Str×D4)
 meths:List (Str×List (Str×D4))
 cons:List (Str×IV)
 isas:List (Str×List Str)
 flds:List Str
 frees:List Str
 tabs:List Str:=[]
 razs:List Str:=[]
 xis:List (Str×List (Str×Bool)):=[]
 bass:List Str:=[]
 wrs:List (Str×D4):=[]
 nes:List Str:=[]
 xms:List (Str×D4):=[]
 xfs:List (Str×List Str):=[]
 xbs:List Str:=[]
def memS (x:Str):List Str->Bool
 | []=>Zm
 | y::r=>y==x||memS x r
def Ql {α:Type}(x:Str):List (Str×α)->Option α
 | []=>Zd
 | (y,a)::r=>if y==x then Za a else Ql x r
def xfOf (T:Tab)(f c:Str):Bool:=match Ql f T.xfs with|some l=>memS c l|none=>Zm
def mkPg (T:Tab)(r:D4->List IV->IH->Res IV):Pg where
 fn:=λ x=>(Ql x T.fns).map λ d=>⟨d.ps.length,d.dvs,r d⟩
 cls:=λ x=>(Ql x T.clss).map λ d=>⟨d.ps.length,d.dvs,r d⟩
 meth:=λ c m=>((Ql c T.meths).bind (Ql m)).map λ d=>⟨d.ps.length,d.dvs,r d⟩
 con:=λ x=>Ql x T.cons
 isa:=λ x=>(Ql x T.isas).map λ l c=>memS c l
 fld:=λ x=>memS x T.flds
 free:=λ x=>memS x T.frees
 tabs:=λ q=>ixOf q T.tabs
 rz:=λ x=>memS x T.razs
 xi:=λ D=>(Ql D T.xis).map λ l c=>Ql c l
 bas:=λ x=>memS x T.bass
 wr:=λ _=>Zd
 ne:=λ x=>memS x T.nes
 xo:=λ x=>(Ql x T.xms).map λ d=>⟨d.ps.length,d.dvs,r d⟩
 xf:=xfOf T
 xb:=λ x=>memS x T.xbs
def run (T:Tab):Nat->D4->List IV->IH->Res IV
 | 0,_=>λ _ _=>.stuck
 | k+1,d=>fnI d.N.length (sAll ((Qk d.st).map (ex (mkPg T (run T k)) 40 d.sc)))
theorem Q6:∀{l:List (Str×α)},Ql x l=Za a->(x,a)∈l
 | [],h=>by cases h
 | (y,b)::r,h=>by
  unfold Ql at h
  split at h
  ·rename_i e
   cases h
   rw[beq_iff_eq.mp e]
   exact Z0
  ·exact Zi _ (Q6 h)
theorem Yh:∀{l:List Str},memS x l=Zj->x∈l
 | [],h=>by cases h
 | y::r,h=>by
  unfold memS at h
  rcases ZaE _ _▸h with e|e
  ·rw[beq_iff_eq.mp e]
   exact Z0
  ·exact Zi _ (Yh e)
structure DefOk (K:W.Frag)(x:Str)(d:D4)(fa:Zq)(fd:ZaP):Prop where
 fun_:∃dV,FunD K x d.qual d.st fa fd dV
 sc:FnScope d.N d.ps (JK d.st)
 dv:∀j,j<=d.dvs.length->∃ds,Qc K fd d.ps ds/\ds.length=d.dvs.length-j/\∃vs,Vals vs ds/\∀ι H,RVs K ι H (d.dvs.drop j) vs
structure TabOk (ce:CeT)(T:Tab)(K:W.Frag)(mg:Str->Option Zh):Prop where
 fn:∀x d,(x,d)∈T.fns->∃fa fd,mg x=Za (.ref fa)/\DefOk K x d fa fd
 cls:∀x d,(x,d)∈T.clss->∃C fa fd,mg x=Za (.ref C)/\ce x=Za C/\Mk K C fa/\DefOk K "__init__" d fa fd
 meth:∀c l m d,(c,l)∈T.meths->(m,d)∈l->∃C fa fd,ce c=Za C/\Cls K C/\Meth K C m fa/\DefOk K m d fa fd
 con:∀x v,(x,v)∈T.cons->∃u y,mg x=Za u/\RelV y u/\∀ι H,RV K ι H v y
 isa:∀D l,(D,l)∈T.isas->∃c,mg D=Za c/\IsOk ce K c λ t=>match t with|.ins c=>Za (memS c l)|.exc _=>Zd|_=>Za Zm
 fld:∀f,f∈T.flds->XO ce K f
 free:∀x,x∈T.frees->mg x=Zd
 bas:∀x,x∈T.bass->∃C,mg x=Za (.ref C)/\BasK K C
 ne:∀c,c∈T.nes->∃C,ce c=Za C/\neIn K C=Zj/\ClsI K C/\W.kitOne K (.ref C) (.type "list")=Za Zm
section
variable {ce:CeT}{T:Tab}{prog:ZC}{w:ZU}{K:W.Frag}{mg:Str->Option Zh}{base:Zar}
theorem Jok {k:Nat}{fa:Zq}{fd:ZaP}{ps:List Str}:FnOk prog w K mg base (CXI prog w) k fa fd ps (spI ce K ps λ _ _=>.stuck) :=
 ⟨λ _ _ _ _ h=>h.1,λ _ _ _ _ _ _ _ _ _ _ _ _ _ h=>by obtain⟨_,_,_,_,_,_,z⟩:=h;exact z.elim⟩
theorem J3k (O:TabOk ce T K mg)(B:T.tabs≠[]->Qs mg base)(k:Nat)(hD:∀x d fa fd,DefOk K x d fa fd->FnD ce prog w K mg base (4*k) ⟨d.ps.length,d.dvs,run T k d⟩ fa fd d.ps):PgOk ce (4*k) (mkPg T (run T k)) prog w K mg base:=by
 refine⟨λ x f h=>?_,λ x f h=>?_,λ c m f h=>?_,λ x v h=>?_,λ D g h=>?_,λ f h=>?_,λ x h=>?_,λ q j h=>B λ e=>?_,λ x h=>O.bas x (Yh h),λ c h=>O.ne c (Yh h)⟩
 ·obtain⟨d,hd,rfl⟩:=Z8.mp h
  obtain⟨fa,fd,hm,ok⟩:=O.fn x d (Q6 hd)
  obtain⟨dV,F⟩:=ok.fun_
  exact⟨fa,fd,d.ps,hm,F.kp,hD x d fa fd ok⟩
 ·obtain⟨d,hd,rfl⟩:=Z8.mp h
  obtain⟨C,fa,fd,hm,hC,M,ok⟩:=O.cls x d (Q6 hd)
  exact⟨C,fa,fd,d.ps,hm,hC,M,hD _ d fa fd ok⟩
 ·obtain⟨d,hd,rfl⟩:=Z8.mp h
  obtain⟨l,hl,hd⟩:=Option.bind_eq_some_iff.mp hd
  obtain⟨C,fa,fd,hC,cl,me,ok⟩:=O.meth c l m d (Q6 hl) (Q6 hd)
  exact⟨C,fa,fd,d.ps,hC,cl,me,hD m d fa fd ok⟩
 ·exact O.con x v (Q6 h)
 ·obtain⟨l,hl,rfl⟩:=Z8.mp h
  exact O.isa D l (Q6 hl)
 ·exact O.fld f (Yh h)
 ·exact O.free x (Yh h)
 ·have h':ixOf q T.tabs=Za j:=h
  rw[e] at h'
  cases h'
theorem Jvw (O:TabOk ce T K mg)(B:T.tabs≠[]->Qs mg base):∀k x d fa fd,DefOk K x d fa fd->FnD ce prog w K mg base (4*k) ⟨d.ps.length,d.dvs,run T k d⟩ fa fd d.ps
 | 0,x,d,fa,fd,ok=>⟨rfl,Jok,ok.dv⟩
 | k+1,x,d,fa,fd,ok=>by
  refine⟨rfl,?_,ok.dv⟩
  obtain⟨dV,F⟩:=ok.fun_
  show FnOk prog w K mg base (CXI prog w) (4*k+3+1) fa fd d.ps (spI ce K d.ps (run T (k+1) d))
  refine F.fn (m:=sAll ((Qk d.st).map (ex (mkPg T (run T k)) 40 d.sc))) ok.sc λ cdv A outer s H E hcd hr=>?_
  refine X8 (λ st=>Jna ce (4*k) (mkPg T (run T k)) 40 d.sc _ st ?_) _
  exact⟨rfl,rfl,ok.sc.nd,ok.sc.kind,rfl,hr.mono (by omega),λ _ _=>rfl,J3k O B k (Jvw O B k),λ _=>⟨hcd,rfl⟩,λ _=>hr,λ _=>⟨rfl,rfl⟩⟩
end
inductive All {α:Type}(p:α->Prop):List α->Prop
 | nil:All p []
 | cons {a:α}{l:List α}:p a->All p l->All p (a::l)
theorem All.mem:∀{l:List α}{a:α},All p l->a∈l->p a
 | _,_,.nil,h=>by cases h
 | _,_,.cons h r,m=>by
  rcases Z2.mp m with rfl|m
  ·exact h
  ·exact r.mem m
def Jvr (l:List Str):Ty->Option Bool:=λ t=>match t with|.ins c=>Za (memS c l)|.exc _=>Zd|_=>Za Zm
section
variable {T:Tab}{K:W.Frag}{mg:Str->Option Zh}
def ceOf (ces:List (Str×Zq)):CeT:=λ c=>Ql c ces
theorem J1u (ces:List (Str×Zq))(fn:All (λ p:Str×D4=>∃fa fd,mg p.1=Za (.ref fa)/\DefOk K p.1 p.2 fa fd) T.fns) 
  (cls:All (λ p:Str×D4=>∃C fa fd,mg p.1=Za (.ref C)/\ceOf ces p.1=Za C/\Mk K C fa/\DefOk K "__init__" p.2 fa fd) T.clss)
  (meth:All (λ q:Str×List (Str×D4)=>∃C,ceOf ces q.1=Za C/\All (λ p:Str×D4=>∃fa fd,Meth K C p.1 fa/\DefOk K p.1 p.2 fa fd) q.2) T.meths)
  (con:All (λ p:Str×IV=>∃u y,mg p.1=Za u/\RelV y u/\∀ι H,RV K ι H p.2 y) T.cons)
  (cl:All (λ p:Str×Zq=>ClsI K p.2/\All (λ f=>Q0 K p.2 f) T.flds) ces)
  (isa:All (λ q:Str×List Str=>∃D,mg q.1=Za (.ref D)/\W.kitOne K (.type "NoneType") (.ref D)=Za Zm/\W.kitOne K (.type "bool") (.ref D)=Za Zm/\W.kitOne K (.type "int") (.ref D)=Za Zm/\W.kitOne K (.type "str") (.ref D)=Za Zm /\
   W.kitOne K (.type "list") (.ref D)=Za Zm/\W.kitOne K (.type "tuple") (.ref D)=Za Zm/\W.kitOne K (.type "dict") (.ref D)=Za Zm/\All (λ p:Str×Zq=>W.kitOne K (.ref p.2) (.ref D)=Za (memS p.1 q.2)) ces) T.isas)
  (free:All (λ x=>mg x=Zd) T.frees)
  (bas:All (λ x=>∃C,mg x=Za (.ref C)/\BasK K C) T.bass:=by exact .nil)
  (nes:All (λ c=>∃C,ceOf ces c=Za C/\neIn K C=Zj/\W.kitOne K (.ref C) (.type "list")=Za Zm) T.nes:=by exact .nil):TabOk (ceOf ces) T K mg:=by
 refine⟨λ x d h=>fn.mem h,λ x d h=>cls.mem h,λ c l m d hc hm=>?_,λ x v h=>con.mem h,λ D l h=>?_,λ f hf=>?_,λ x h=>free.mem h,λ x h=>bas.mem h,λ c h=>let ⟨C,p,q,r⟩:=nes.mem h;⟨C,p,q,(cl.mem (Q6 p)).1,r⟩⟩
 ·obtain⟨C,hC,hl⟩:=meth.mem hc
  obtain⟨fa,fd,me,ok⟩:=hl.mem hm
  exact⟨C,fa,fd,hC,(cl.mem (Q6 hC)).1.cl,me,ok⟩
 ·obtain⟨C,hC,h1,h2,h3,h4,h5,h6,h7,h8⟩:=isa.mem h
  refine⟨_,hC,⟨λ b e=>?_,λ b e=>?_,λ b e=>?_,λ b e=>?_,λ b e=>?_,λ b e=>?_,λ b e=>?_,λ k C' b e hk=>?_,(λ k C' b e=>by cases e)⟩⟩
  ·cases e;exact h1
  ·cases e;exact h2
  ·cases e;exact h3
  ·cases e;exact h4
  ·cases e;exact h5
  ·cases e;exact h6
  ·cases e;exact h7
  ·cases e
   exact⟨(cl.mem (Q6 hk)).1,h8.mem (Q6 hk)⟩
 ·intro c C e
  obtain⟨h1,h2⟩:=cl.mem (Q6 e)
  exact⟨h1.cl,h2.mem hf⟩
theorem len1 {α:Type}{P:List α->Prop}(F0:∀a,P [a]):∀us:List α,us.length=1->P us
 | [a],_=>F0 a
theorem len2 {α:Type}{P:List α->Prop}(F0:∀a b,P [a,b]):∀us:List α,us.length=2->P us
 | [a,b],_=>F0 a b
theorem len3 {α:Type}{P:List α->Prop}(F0:∀a b c,P [a,b,c]):∀us:List α,us.length=3->P us
 | [a,b,c],_=>F0 a b c
theorem len4 {α:Type}{P:List α->Prop}(F0:∀a b c d,P [a,b,c,d]):∀us:List α,us.length=4->P us
 | [a,b,c,d],_=>F0 a b c d
theorem len5 {α:Type}{P:List α->Prop}(F0:∀a b c d e,P [a,b,c,d,e]):∀us:List α,us.length=5->P us
 | [a,b,c,d,e],_=>F0 a b c d e
theorem len6 {α:Type}{P:List α->Prop}(F0:∀a b c d e f,P [a,b,c,d,e,f]):∀us:List α,us.length=6->P us
 | [a,b,c,d,e,f],_=>F0 a b c d e f
theorem len7 {α:Type}{P:List α->Prop}(F0:∀a b c d e f g,P [a,b,c,d,e,f,g]):∀us:List α,us.length=7->P us
 | [a,b,c,d,e,f,g],_=>F0 a b c d e f g
theorem J34:∀j:Nat,j<=3->j=0∨j=1∨j=2∨j=3:=by omega
theorem Jvv {x:Str}{d:D4}{fa:Zq}{oc kV doc pm cdv ct:Zh}{od an:Option Zq}{osl:Array (Option Zh)}(lk:K.lookup fa=Za ⟨oc,od,.func (W.fnOf x d.qual (QJ d.st) (Qk d.st) (JK d.st) .none kV doc pm an cdv ct),osl⟩)
  (hc:W.codeIn K cdv d.qual=Zj)(hk:W.keepIn K (.ref fa)=Zj)(sc:FnScope d.N d.ps (JK d.st))(hd:d.dvs=[])
  (hb:∀us:List Zh,us.length=d.ps.length->Zfa (W.fnOf x d.qual (QJ d.st) (Qk d.st) (JK d.st) .none kV doc pm an cdv ct) ⟨us,[]⟩=pure (d.ps.zip us)) :
  DefOk K x d fa (W.fnOf x d.qual (QJ d.st) (Qk d.st) (JK d.st) .none kV doc pm an cdv ct) :=
 ⟨⟨_,⟨oc,od,kV,doc,pm,an,cdv,ct,osl,rfl,lk,hc⟩,hk⟩,sc,λ j hj=>⟨[],.all hb,by rw[hd];simp,[],.nil,by rw[hd];intro _ _;cases j<;>exact rfl⟩⟩
def scOk (N P:List Str)(sc:Zb1):Bool :=
 sc.kind==.function&&!sc.isCoroutine&&!sc.isGenerator&&decide N.Nodup&&decide (N.take P.length=P)&&P.all (λ x=>sc.names.lookup x==Za .local||sc.names.lookup x==Za .cell)&&sc.names.all (λ y=>!(y.2==.free))
theorem scOk.of (h:scOk N P sc=Zj):FnScope N P sc:=by
 simp only[scOk,Zp,beq_iff_eq,ZaV,decide_eq_true_eq,ZbZ,ZaE,beq_eq_false_iff_ne] at h
 obtain⟨⟨⟨⟨⟨⟨h1,h2⟩,h3⟩,h4⟩,h5⟩,h6⟩,h7⟩:=h
 exact⟨h1,h2,h3,h4,h5,h6,h7⟩
def FnB (x q:Str)(d:D4):Prop:=FnScope d.N d.ps (JK d.st)/\d.dvs=[]/\d.qual=q/\∀(kV doc pm:Zh)(an:Option Zq)(cdv ct:Zh)(us:List Zh),us.length=d.ps.length->Zfa (W.fnOf x d.qual (QJ d.st) (Qk d.st) (JK d.st) .none kV doc pm an cdv ct) ⟨us,[]⟩=pure (d.ps.zip us)
section
variable {x q:Str}{d:D4}{h:Zar}{a C:Zq}{oc kV dc pm cd ct:Zh}{od an:Option Zq}{sl:Array (Option Zh)}
theorem Jrk (B:FnB x q d)(hl:K.lookup a=Za ⟨oc,od,.func (W.fnOf x q (QJ d.st) (Qk d.st) (JK d.st) .none kV dc pm an cd ct),sl⟩)(hc:W.codeIn K cd q=Zj)(hk:W.keepIn K (.ref a)=Zj):∃fd,DefOk K x d a fd:=by
 obtain⟨s,v,rfl,b⟩:=B
 exact⟨_,Jvv hl hc hk s v (b _ _ _ _ _ _)⟩
theorem J1 (X:K.In h)(G:h.Ns Z4 mg)(B:FnB x q d)(ha:W.nsIn K Z4 x=Za (Za (.ref a)):=by k_is)(hl:K.lookup a=Za ⟨oc,od,.func (W.fnOf x q (QJ d.st) (Qk d.st) (JK d.st) .none kV dc pm an cd ct),sl⟩:=by k_is)(hc:W.codeIn K cd q=Zj:=by k_is)(hk:W.keepIn K (.ref a)=Zj:=by k_is):∃fa fd,mg x=Za (.ref fa)/\DefOk K x d fa fd :=
 let ⟨fd,D⟩:=Jrk B hl hc hk
 ⟨a,fd,W.mg_of X G ha,D⟩
theorem JX (B:FnB x q d)(ha:W.findIn K (.ref C) x=Za (Za (.ref a)):=by k_is)(hi:W.isFn K (.ref a)=Zj:=by k_is)(hl:K.lookup a=Za ⟨oc,od,.func (W.fnOf x q (QJ d.st) (Qk d.st) (JK d.st) .none kV dc pm an cd ct),sl⟩:=by k_is)(hc:W.codeIn K cd q=Zj:=by k_is)(hk:W.keepIn K (.ref a)=Zj:=by k_is):∃fa fd,Meth K C x fa/\DefOk K x d fa fd :=
 let ⟨fd,D⟩:=Jrk B hl hc hk
 ⟨a,fd,⟨ha,hi,hk⟩,D⟩
theorem Jua (B:FnB "__init__" q d)(ha:W.findIn K (.ref C) "__init__"=Za (Za (.ref a)):=by k_is)(hi:W.isFn K (.ref a)=Zj:=by k_is)(hl:K.lookup a=Za ⟨oc,od,.func (W.fnOf "__init__" q (QJ d.st) (Qk d.st) (JK d.st) .none kV dc pm an cd ct),sl⟩:=by k_is)(hc:W.codeIn K cd q=Zj:=by k_is)(hk:W.keepIn K (.ref a)=Zj:=by k_is)(hm:W.makesIn K C=Zj:=by k_is)(hq:W.keepIn K (.ref C)=Zj:=by k_is):∃fa fd,Mk K C fa/\DefOk K "__init__" d fa fd :=
 let ⟨fd,D⟩:=Jrk B hl hc hk
 ⟨a,fd,⟨hm,ha,hi,hq⟩,D⟩
end
theorem Jxv {prog:ZC}{w:ZU}(O:TabOk ce T K mg)(B:T.tabs≠[]->Qs mg base)(k:Nat){d:D4}(hp:d.ps=[x])(ok:DefOk K "law" d fa fd) :
  FnOk prog w K mg base (CXI prog w) (4*k) fa fd [x] (XD K x (run T k d)):=by
 have:=(Jvw (prog:=prog) (w:=w) (base:=base) O B k "law" d fa fd ok).ok
 rw[hp] at this
 exact Jti this
end
def WR {α:Type}(r:Res α)(Q:α->IH->Prop):Prop:=match r with
 | .ok a h=>Q a h
 | _=>False
def WS (r:SRes)(N:ISt->IH->Prop)(R:IV->IH->Prop):Prop:=match r with
 | .next σ h=>N σ h
 | .ret v h=>R v h
 | _=>False
section
variable {α β:Type}{σ:ISt}{h:IH}{Q:α->IH->Prop}{N:ISt->IH->Prop}{R:IV->IH->Prop}
theorem WR.mono (x:WR r P)(f:∀a h,P a h->Q a h):WR r Q:=by
 cases r with
 | ok a h=>exact f a h x
 | exc n h=>exact x
 | stuck=>exact x
theorem Je (e:r=.ok a h)(q:Q a h):WR r Q:=by rw[e];exact q
theorem WR.eq (x:WR r Q):∃a h,r=.ok a h/\Q a h:=by
 cases r with
 | ok a h=>exact⟨a,h,rfl,x⟩
 | exc n h=>exact x.elim
 | stuck=>exact x.elim
theorem WS.mono (x:WS r N R)(f:∀σ h,N σ h->N' σ h)(g:∀v h,R v h->R' v h):WS r N' R':=by
 cases r with
 | next σ h=>exact f σ h x
 | ret v h=>exact g v h x
 | _=>exact x
theorem Xe (a:α):WR (.ok a h) Q=Q a h:=rfl
theorem Js (r:Res α)(f:α->IH->Res β)(Q:β->IH->Prop):WR (r.bind f) Q=WR r λ a h=>WR (f a h) Q:=by cases r<;>rfl
theorem Jvn (r:Res α):WR r.nx Q=WR r Q:=by cases r<;>rfl
theorem QF (c:Prop)[Decidable c](x y:Res α):WR (if c then x else y) Q=((c->WR x Q)/\(¬c->WR y Q)):=by
 by_cases hc:c<;>simp[hc]
theorem JY (r:Res α)(k:α->IH->SRes):WS (rS σ r k) N R=WR r λ a h=>WS (k a h) N R:=by cases r<;>rfl
theorem Yy (r:SRes)(Q:IV->IH->Prop):WR r.fin Q=WS r (λ _ h=>Q .non h) Q:=by
 cases r with
 | exc n σ h=>show WR (match h[n]? with|some (.exc _ _)=>Res.exc n h|_=>Res.stuck) Q=False;split<;>rfl
 | _=>rfl
theorem Y8 (σ:ISt):WS (.next σ h) N R=N σ h:=rfl
theorem Job (v:IV):WS (.ret v h) N R=R v h:=rfl
theorem YA (a b:S1):WS (Jf a b σ h) N R=WS (a σ h) (λ σ1 h1=>WS (b σ1 h1) N R) R:=by
 unfold Jf;cases a σ h<;>rfl
theorem Y9:WS (Jr σ h) N R=N σ h:=rfl
theorem Jjt:WS (Jyh σ h) N R=N σ h:=rfl
theorem YB (i:Nat)(e:E1):WS (Jj i e σ h) N R=WR (e σ h) λ v h1=>N (σ.set i (Za v)) h1:=by unfold Jj;rw[JY];rfl
theorem Y7 (t:T1)(a b:S1):WS (sIf t a b σ h) N R=WR (t σ h) λ c h1=>(c=Zj->WS (a σ h1) N R)/\(c=Zm->WS (b σ h1) N R):=by
 unfold sIf;rw[JY];congr 1;funext c h1;cases c<;>simp
theorem YC (e:E1):WS (Jk e σ h) N R=WR (e σ h) R:=by unfold Jk;rw[JY];rfl
theorem Jju:WS (Jyi σ h) N R=R .non h:=rfl
theorem Y6 (e:E1):WS (JI e σ h) N R=WR (e σ h) λ _ h1=>N σ h1:=by unfold JI;rw[JY];rfl
theorem VD (e:E1)(g:G1):WS (sAsg e g σ h) N R=WR (e σ h) λ v h1=>WS (g v σ h1) N R:=by unfold sAsg;rw[JY]
theorem Joa (i:Nat)(v:IV):WS (gNm i v σ h) N R=N (σ.set i (Za v)) h:=rfl
theorem J16 (n:Nat)(g:List IV->ISt->IH->SRes)(xs:List IV):WS (gTp n g (.tup xs) σ h) N R=(xs.length=n/\WS (g xs σ h) N R):=by
 unfold gTp
 by_cases hn:xs.length=n
 ·simp[hn]
 ·simp[hn,WS]
theorem J36:WS (gN [] σ h) N R=N σ h:=rfl
theorem J35 (i:Nat)(r:List IV->ISt->IH->SRes)(v:IV)(vs:List IV):WS (gC (gNm i) r (v::vs) σ h) N R=WS (r vs (σ.set i (Za v)) h) N R:=rfl
theorem Xg (f:Str)(o e:E1):WS (JJ f o e σ h) N R=WR (e σ h) λ v h1=>WR (o σ h1) λ ov h2=>∃i c fs,ov=.ref i/\h2[i]?=Za (.ins c fs)/\fs.length<1000/\N σ (h2.set i (.ins c (putI f v fs))):=by
 unfold JJ;rw[JY];congr 1;funext v h1;rw[JY];congr 1;funext ov h2
 cases ov with
 | ref i =>
  cases e:h2[i]? with
  | none=>simp[WS,e]
  | some o =>
   cases o with
   | ins c fs =>
    by_cases hl:fs.length<1000
    ·simp only[e,hl,if_true,WS]
     refine propext ⟨λ q=>⟨i,c,fs,rfl,e,hl,q⟩,λ ⟨i',c',fs',e1,e2,_,q⟩=>?_⟩
     cases e1
     rw[e] at e2
     cases e2
     exact q
    ·simp only[e,hl,if_false,WS]
     refine propext ⟨λ q=>q.elim,λ ⟨i',c',fs',e1,e2,hl',_⟩=>?_⟩
     cases e1
     rw[e] at e2
     cases e2
     exact hl hl'
   | _=>simp[WS,e]
 | _=>simp[WS]
theorem XI (it:I1)(g:G1)(b:S1):WS (sFor it g b σ h) N R=WR (it σ h) λ J h1=>WS (JU J.chk g b J.xs σ h1) N R:=by unfold sFor;rw[JY]
theorem Qa (v:IV)(Q:IV->IH->Prop):WR (eC v σ h) Q=Q v h:=rfl
theorem Vf (f:IV->IV->IH->Res IV)(a b:E1)(Q:IV->IH->Prop):WR (Jc f a b σ h) Q=WR (a σ h) λ x h1=>WR (b σ h1) λ y h2=>WR (f x y h2) Q:=by
 unfold Jc;rw[Js];congr 1;funext x h1;rw[Js]
theorem Jvq (f:IV->IH->Res IV)(a:E1)(Q:IV->IH->Prop):WR (eUn f a σ h) Q=WR (a σ h) λ x h1=>WR (f x h1) Q:=by unfold eUn;rw[Js]
theorem Jnu (a b:E1)(tr:IV->IH->Res Bool)(Q:IV->IH->Prop):WR (eAnd a b tr σ h) Q=WR (a σ h) λ x h1=>WR (tr x h1) λ c h2=>(c=Zj->WR (b σ h2) Q)/\(c=Zm->Q x h2):=by
 unfold eAnd;rw[Js];congr 1;funext x h1;rw[Js];congr 1;funext c h2;cases c<;>simp[WR]
theorem Jvo (a b:E1)(tr:IV->IH->Res Bool)(Q:IV->IH->Prop):WR (eOr a b tr σ h) Q=WR (a σ h) λ x h1=>WR (tr x h1) λ c h2=>(c=Zj->Q x h2)/\(c=Zm->WR (b σ h2) Q):=by
 unfold eOr;rw[Js];congr 1;funext x h1;rw[Js];congr 1;funext c h2;cases c<;>simp[WR]
theorem Jvh (t:T1)(a b:E1)(Q:IV->IH->Prop):WR (eIf t a b σ h) Q=WR (t σ h) λ c h1=>(c=Zj->WR (a σ h1) Q)/\(c=Zm->WR (b σ h1) Q):=by
 unfold eIf;rw[Js];congr 1;funext c h1;cases c<;>simp
theorem Y4 (a b:T1)(Q:Bool->IH->Prop):WR (QD a b σ h) Q=WR (a σ h) λ c h1=>(c=Zj->WR (b σ h1) Q)/\(c=Zm->Q Zm h1):=by
 unfold QD;rw[Js];congr 1;funext c h1;cases c<;>simp[WR]
theorem Jn9 (a b:T1)(Q:Bool->IH->Prop):WR (tOrI a b σ h) Q=WR (a σ h) λ c h1=>(c=Zj->Q Zj h1)/\(c=Zm->WR (b σ h1) Q):=by
 unfold tOrI;rw[Js];congr 1;funext c h1;cases c<;>simp[WR]
theorem Jjq (a:T1)(Q:Bool->IH->Prop):WR (JD a σ h) Q=WR (a σ h) λ c h1=>Q (!c) h1:=by unfold JD;rw[Js];rfl
theorem Jjr (tr:IV->IH->Res Bool)(a:E1)(Q:Bool->IH->Prop):WR (Jh tr a σ h) Q=WR (a σ h) λ x h1=>WR (tr x h1) Q:=by unfold Jh;rw[Js]
theorem Yw (f g:IV->IV->IH->Res IV)(a b c:E1)(Q:IV->IH->Prop):WR (JS f g a b c σ h) Q=WR (a σ h) λ x h1=>WR (b σ h1) λ y h2=>WR (f x y h2) λ k h3=>∃t,k=.bl t/\(t=Zj->WR (c σ h3) λ z h4=>WR (g y z h4) Q)/\(t=Zm->Q (.bl Zm) h3):=by
 unfold JS;rw[Js];congr 1;funext x h1;rw[Js];congr 1;funext y h2;rw[Js];congr 1;funext k h3
 cases k with
 | bl t =>
  cases t with
  | true =>
   show WR ((c σ h3).bind λ z h4=>g y z h4) Q=_
   rw[Js]
   simp
  | false=>simp[WR]
 | _=>simp[WR]
theorem Jji (Q:List IV->IH->Prop):WR (Jd σ h) Q=Q [] h:=rfl
theorem Jf3 (a:E1)(r:A1)(Q:List IV->IH->Prop):WR (Jb a r σ h) Q=WR (a σ h) λ x h1=>WR (r σ h1) λ xs h2=>Q (x::xs) h2:=by
 unfold Jb;rw[Js];congr 1;funext x h1;rw[Js];rfl
theorem Y5 (a:A1)(Q:IV->IH->Prop):WR (eTup a σ h) Q=WR (a σ h) λ xs h1=>xs.length<=sizeLine/\Q (.tup xs) h1:=by
 unfold eTup;rw[Js];congr 1;funext xs h1;rw[QF]
 by_cases hz:xs.length<=sizeLine<;>simp[hz,WR]
theorem Y0 (a:A1)(Q:IV->IH->Prop):WR (eLst a σ h) Q=WR (a σ h) λ xs h1=>xs.length<=sizeLine/\Q (.ref h1.length) (h1++[.lst xs]):=by
 unfold eLst;rw[Js];congr 1;funext xs h1;rw[QF]
 by_cases hz:xs.length<=sizeLine<;>simp[hz,WR]
theorem Jjj (f:List IV->IH->Res IV)(d:List IV)(a:A1)(Q:IV->IH->Prop):WR (Jl f d a σ h) Q=WR (a σ h) λ vs h1=>WR (f (vs++d) h1) Q:=by
 unfold Jl;rw[Js]
theorem VC (c:Str)(f:List IV->IH->Res IV)(d:List IV)(a:A1)(Q:IV->IH->Prop):WR (Q5 c f d a σ h) Q=WR (a σ h) λ vs h1=>WR (f (.ref h1.length::(vs++d)) (h1++[.ins c []])) λ r h2=>r=.non/\Q (.ref h1.length) h2:=by
 unfold Q5;rw[Js];congr 1;funext vs h1;rw[Js];congr 1;funext r h2;cases r<;>simp[WR]
theorem Jvc (f:List IV->IH->Res IV)(a:A1)(Q:IV->IH->Prop):WR (eCB f a σ h) Q=WR (a σ h) λ vs h1=>WR (f vs h1) Q:=by unfold eCB;rw[Js]
theorem Vg (f:IV->IH->Res IV)(x:IV)(Q:IV->IH->Prop):WR (on1 f [x] h) Q=WR (f x h) Q:=rfl
theorem Jnx (ans:Ty->Option Bool)(e:E1)(Q:IV->IH->Prop):WR (eIsi ans e σ h) Q=WR (e σ h) λ v h1=>∃b,(tyI v h1).bind ans=Za b/\Q (.bl b) h1:=by
 unfold eIsi;rw[Js];congr 1;funext v h1
 cases (tyI v h1).bind ans<;>simp[WR]
theorem Jf5 (Q:Option Int->IH->Prop):WR (Yl σ h) Q=Q Zd h:=rfl
theorem Jf6 (e:E1)(Q:Option Int->IH->Prop):WR (V8 e σ h) Q=WR (e σ h) λ v h1=>∃i,v=.int i/\Q (Za i) h1:=by
 unfold V8;rw[Js];congr 1;funext v h1;cases v<;>simp[WR]
theorem Y3 (f:IV->Option Int->Option Int->IH->Res IV)(e:E1)(lo hi:O1)(Q:IV->IH->Prop):WR (eSl f e lo hi σ h) Q=WR (e σ h) λ x h1=>WR (lo σ h1) λ l h2=>WR (hi σ h2) λ u h3=>WR (f x l u h3) Q:=by
 unfold eSl;rw[Js];congr 1;funext x h1;rw[Js];congr 1;funext l h2;rw[Js]
def V4 (f:Str)(v:IV)(h:IH):Option IV:=match v with
 | .ref i=>(match h[i]? with
  | some (.ins _ fs)=>fs.lookup f
  | _=>Zd)
 | _=>Zd
theorem Yz (f:Str)(o:E1)(Q:IV->IH->Prop):WR (Jm f o σ h) Q=WR (o σ h) λ v h1=>∃x,V4 f v h1=Za x/\Q x h1:=by
 unfold Jm;rw[Js];congr 1;funext v h1
 cases v with
 | ref i =>
  unfold V4
  cases e:h1[i]? with
  | none=>simp[WR,e]
  | some ob =>
   cases ob with
   | ins c fs=>cases e2:fs.lookup f<;>simp[WR,e,e2]
   | _=>simp[WR,e]
 | _=>simp[WR,V4]
variable {i j:Int}{x y:Str}{P:IV->IH->Prop}
theorem Yv (i j:Int):WR (Jn (.int i) (.int j) h) P=P (.int (i+j)) h:=rfl
theorem Jn8 (i j:Int):WR (Qp (.int i) (.int j) h) P=P (.int (i-j)) h:=rfl
theorem Jn4 (i:Int):WR (Yn (.int i) h) P=P (.int (-i)) h:=rfl
theorem Y2 (i j:Int):WR (JN (.int i) (.int j) h) P=(QR i j/\P (.int (i*j)) h):=by
 show WR (Xz (.int i) (.int j) h) P=_
 unfold Xz;rw[QF];by_cases hm:QR i j<;>simp[hm,WR]
theorem Yx (i j:Int):WR (JT (.int i) (.int j) h) P=((0<j/\j.natAbs.log2<9000)/\P (.int (i/j)) h):=by
 unfold JT;rw[QF];by_cases hm:0<j/\j.natAbs.log2<9000<;>simp[hm,WR]
theorem Y1 (i j:Int):WR (J2 (.int i) (.int j) h) P=(0<j/\P (.int (i%j)) h):=by
 unfold J2;rw[QF];by_cases hm:0<j<;>simp[hm,WR]
theorem Vz (i j:Int):WR (JF (.int i) (.int j) h) P=((0<=j/\j<=1000000/\i.natAbs<2^64)/\P (.int (i^j.toNat)) h):=by
 unfold JF;rw[QF];by_cases hm:0<=j/\j<=1000000/\i.natAbs<2^64<;>simp[hm,WR]
theorem Jjh (x y:Str):WR (Jn (.str x) (.str y) h) P=(x.length+y.length<=sizeLine/\P (.str (x++y)) h):=by
 unfold Jn;rw[QF];by_cases hm:x.length+y.length<=sizeLine<;>simp[hm,WR]
theorem Jvl (i j:Int):WR (cLt (.int i) (.int j) h) P=P (.bl (decide (i<j))) h:=rfl
theorem Jvj (i j:Int):WR (cLe (.int i) (.int j) h) P=P (.bl (decide (i<=j))) h:=rfl
theorem J14 (x y:Str):WR (cLe (.str x) (.str y) h) P=P (.bl (!decide (y.cps.toList<x.cps.toList))) h:=rfl
theorem Jvg (i j:Int):WR (cGt (.int i) (.int j) h) P=P (.bl (decide (j<i))) h:=rfl
theorem Jvf (i j:Int):WR (cGe (.int i) (.int j) h) P=P (.bl (decide (j<=i))) h:=rfl
theorem Jve (i j:Int):WR (cEq (.int i) (.int j) h) P=P (.bl (decide (i=j))) h:=rfl
theorem Jvm (i j:Int):WR (cNe (.int i) (.int j) h) P=P (.bl (!decide (i=j))) h:=rfl
theorem Jnw (x y:Str):WR (cEq (.str x) (.str y) h) P=P (.bl (decide (x=y))) h:=rfl
theorem Jn5 (x y:Str):WR (cNe (.str x) (.str y) h) P=P (.bl (!decide (x=y))) h:=rfl
theorem Jnv (b:Bool)(P:Bool->IH->Prop):WR (asB (.bl b) h) P=P b h:=rfl
theorem Jjs (b:Bool)(P:Bool->IH->Prop):WR (tru (.bl b) h) P=P b h:=rfl
theorem Jn6 (tr:IV->IH->Res Bool)(v:IV):WR (X1 tr v h) P=WR (tr v h) λ c h1=>P (.bl (!c)) h1:=by unfold X1;rw[Js];rfl
theorem J13 (v w:IV):WR (cIs v w h) P=∃b,isI v w=Za b/\P (.bl b) h:=by unfold cIs;cases isI v w<;>simp[WR]
theorem Jny (v w:IV):WR (VP v w h) P=∃b,isI v w=Za b/\P (.bl (!b)) h:=by unfold VP;cases isI v w<;>simp[WR]
theorem QG {chk:IH->Prop}{g:G1}{b:S1}(I:Nat->ISt->IH->Prop){xs:List IV}(hc:∀i σ h,I i σ h->chk h) 
  (turn:∀i (hi:i<xs.length) σ h,I i σ h->WS (g xs[i] σ h) (λ σ1 h1=>WS (b σ1 h1) (I (i+1)) R) λ _ _=>False)(done:∀σ h,I xs.length σ h->N σ h)(start:I 0 σ h):WS (JU chk g b xs σ h) N R:=by
 have key:∀(n i:Nat)(σ:ISt)(h:IH),xs.length-i=n->i<=xs.length->I i σ h->WS (JU chk g b (xs.drop i) σ h) N R:=by
  intro n
  induction n with
  | zero =>
   intro i σ h hn hi hI
   have:i=xs.length:=by omega
   subst this
   rw[List.drop_length]
   unfold JU
   rw[if_pos (hc _ _ _ hI)]
   exact done _ _ hI
  | succ n ih =>
   intro i σ h hn hi hI
   have hlt:i<xs.length:=by omega
   rw[Za9 hlt]
   unfold JU
   rw[if_pos (hc _ _ _ hI)]
   have t:=turn i hlt σ h hI
   cases eg:g xs[i] σ h with
   | next σ1 h1 =>
    rw[eg] at t
    have t':WS (b σ1 h1) (I (i+1)) R:=t
    dsimp only
    cases eb:b σ1 h1 with
    | next σ2 h2=>rw[eb] at t';exact ih (i+1) σ2 h2 (by omega) hlt t'
    | ret v h2=>rw[eb] at t';exact t'
    | brk σ2 h2=>rw[eb] at t';exact t'.elim
    | cont σ2 h2=>rw[eb] at t';exact t'.elim
    | exc m σ2 h2=>rw[eb] at t';exact t'.elim
    | stuck=>rw[eb] at t';exact t'.elim
   | ret v h1=>rw[eg] at t;exact t.elim
   | brk σ2 h2=>rw[eg] at t;exact t.elim
   | cont σ2 h2=>rw[eg] at t;exact t.elim
   | exc m σ2 h2=>rw[eg] at t;exact t.elim
   | stuck=>rw[eg] at t;exact t.elim
 have:=key xs.length 0 σ h (by omega) (ZK _) start
 simpa using this
end
section
variable {α:Type}{h h1:IH}{a:α}{r:Res α}{P:IV->IH->Prop}
theorem Jq (x:WR r λ v h'=>v=a/\h'=h1):r=.ok a h1:=by
 obtain⟨_,_,e,rfl,rfl⟩:=x.eq
 exact e
theorem XH (xs:List IV)(n:Int):WR (Jg (.tup xs) (.int n) h) P=∃x,atI xs n=Za x/\P x h:=by
 unfold Jg;cases e:atI xs n<;>simp[WR,e]
theorem Jn2 (xs:List IV)(n:Int):WR (Jg (.rol xs) (.int n) h) P=∃x,atI xs n=Za x/\P x h:=by
 unfold Jg;cases e:atI xs n<;>simp[WR,e]
theorem Jsr (i:Nat)(n:Int):WR (Jg (.ref i) (.int n) h) P=∃xs,h[i]?=Za (.lst xs)/\∃x,atI xs n=Za x/\P x h:=by
 unfold Jg
 cases e:h[i]? with
 | none=>simp[WR,e]
 | some o =>
  cases o with
  | lst xs=>cases e2:atI xs n<;>simp[WR,e,e2]
  | _=>simp[WR,e]
theorem Jjo (xs:List IV):WR (lenI (.tup xs) h) P=P (.int xs.length) h:=rfl
theorem Jjm (xs:List IV):WR (lenI (.rol xs) h) P=P (.int xs.length) h:=rfl
theorem Jst (i:Nat):WR (lenI (.ref i) h) P=∃xs,h[i]?=Za (.lst xs)/\P (.int xs.length) h:=by
 unfold lenI
 cases e:h[i]? with
 | none=>simp[WR,e]
 | some o=>cases o<;>simp[WR,e]
theorem Jjn (x:Str):WR (lenI (.str x) h) P=(x.length<=sizeLine/\P (.int x.length) h):=by
 unfold lenI;rw[QF];by_cases hm:x.length<=sizeLine<;>simp[hm,WR]
theorem JQ {xs:List α}{n:Nat}(e:xs[n]?=Za x):atI xs (n:Int)=Za x:=by
 have hn:n<xs.length:=(Zt.mp e).1
 have:(n:Int)<xs.length:=by omega
 simp[atI,ixN,this,e]
theorem Qi:atI (x::xs) 0=Za x:=by simp[atI,ixN]
theorem QT {x y:α}{xs:List α}:atI (x::y::xs) 1=Za y:=JQ (n:=1) rfl
theorem Vn {x y z:α}{xs:List α}:atI (x::y::z::xs) 2=Za z:=JQ (n:=2) rfl
theorem VM {x y z u:α}{xs:List α}:atI (x::y::z::u::xs) 3=Za u:=JQ (n:=3) rfl
theorem Js2 {x y z u v:α}{xs:List α}:atI (x::y::z::u::v::xs) 4=Za v:=JQ (n:=4) rfl
theorem Jps {xs:List α}{n:Int}(h0:0<=n)(e:xs[n.toNat]?=Za x):atI xs n=Za x:=by
 have:=JQ e
 rwa [Int.toNat_of_nonneg h0] at this
theorem Jjd (i:Int):tyI (.int i) h=Za .int:=rfl
theorem Jno (x:Str):tyI (.str x) h=Za .str:=rfl
theorem Jnp (xs:List IV):tyI (.tup xs) h=Za .tup:=rfl
theorem Ju8 (b:Bool):tyI (.bl b) h=Za .bl:=rfl
theorem Jnm:tyI .non h=Za .non:=rfl
theorem Jnn (xs:List IV):tyI (.rol xs) h=Za .lst:=rfl
theorem J1y (e:h[i]?=Za (.lst xs)):tyI (.ref i) h=Za .lst:=by simp[tyI,e]
theorem grow {i:Nat}(e:h[i]?=Za o):(h++g)[i]?=Za o:=by
 rw[ZH (Zt.mp e).1];exact e
theorem grown:(h++[o])[h.length]?=Za o:=by simp
theorem J8 (e:h[i]?=Za o):i<h.length:=(Zt.mp e).1
theorem Jj0 (f:IV->Bool):∀xs:List IV,VO (xs.map λ x=>.bl (f x))=Za (xs.map f)
 | []=>rfl
 | x::xs=>by simp[VO,Jj0 f xs]
theorem all_map {xs:List IV}(e:h[i]?=Za (.lst (xs.map λ x=>.bl (f x)))):allI (.ref i) h=.ok (.bl (xs.all f)) h:=by
 simp[allI,e,Jj0,List.all_map,Function.comp_def]
end
def Ex (h h':IH):Prop:=∃g,h'=h++g
theorem Ex.refl (h:IH):Ex h h:=⟨[],by simp⟩
theorem Ex.trans (a:Ex h h1)(b:Ex h1 h2):Ex h h2:=by
 obtain⟨g,rfl⟩:=a
 obtain⟨g',rfl⟩:=b
 exact⟨g++g',by simp⟩
theorem Ex.get (a:Ex h h'){i:Nat}(e:h[i]?=Za o):h'[i]?=Za o:=by
 obtain⟨g,rfl⟩:=a
 exact grow e
theorem Ex.one (h:IH)(o:IX):Ex h (h++[o]):=⟨[o],rfl⟩
theorem Ex.len (a:Ex h h'):h.length<=h'.length:=by
 obtain⟨g,rfl⟩:=a
 simp
section
variable {α:Type}{h:IH}
theorem Jw5 {chk:IH->Prop}{t:T1}{e:E1}{caps:ISt}{p:IV->Bool}{f:IV->IV}(i0:Nat):∀{xs acc:List IV}{o:Option IV}{h1:IH},h1[i0]?=Za (.lst acc)->(∀h2,(∀j ob,j≠i0->h1[j]?=Za ob->h2[j]?=Za ob)->chk h2)->acc.length+xs.length<sizeLine ->
  (∀x∈xs,∀h2,(∀j ob,j≠i0->h1[j]?=Za ob->h2[j]?=Za ob)->WR (t (Za x::caps) h2) λ b h3=>b=p x/\Ex h2 h3) ->
  (∀x∈xs,p x=Zj->∀h2,(∀j ob,j≠i0->h1[j]?=Za ob->h2[j]?=Za ob)->WR (e (Za x::caps) h2) λ v h3=>v=f x/\Ex h2 h3) ->
  WR (JH chk (gNm 0) t e i0 xs (o::caps) h1) λ v h3=>v=.ref i0/\∃g,h3=h1.set i0 (.lst (acc++(xs.filter p).map f))++g
 | [],acc,o,h1,hi,hc,_,_,_=>by
  unfold JH
  rw[if_pos (hc h1 λ _ _ _ q=>q)]
  refine⟨rfl,[],?_⟩
  simp only[List.filter_nil,Zb5,ZaC]
  refine(Zb9 λ j=>?_)
  by_cases hj:j=i0
  ·subst hj
   rw[hi,ZZ (J8 hi)]
  ·rw[Zad (ZO hj)]
 | x::xs,acc,o,h1,hi,hc,hl,ht,he=>by
  unfold JH
  rw[if_pos (hc h1 λ _ _ _ q=>q)]
  dsimp only[gNm,Zby]
  have hl':acc.length+xs.length+1<sizeLine:=by simpa [Zfr] using hl
  obtain⟨b,h2,e1,rfl,x2⟩:=(ht x Z0 h1 λ _ _ _ q=>q).eq
  rw[e1]
  have k12:∀j ob,j≠i0->h1[j]?=Za ob->h2[j]?=Za ob:=λ j ob _ q=>x2.get q
  cases hp:p x with
  | false =>
   dsimp only
   refine WR.mono (Jw5 i0 (x2.get hi) (λ h3 q=>hc h3 λ j ob n r=>q j ob n (k12 j ob n r)) (by omega) (λ y hy h3 q=>ht y (Zi _ hy) h3 λ j ob n r=>q j ob n (k12 j ob n r))
    λ y hy hpy h3 q=>he y (Zi _ hy) hpy h3 λ j ob n r=>q j ob n (k12 j ob n r)) λ v h3 ⟨ev,g,eg⟩=>⟨ev,?_⟩
   obtain⟨g2,rfl⟩:=x2
   refine⟨g2++g,?_⟩
   rw[eg,Za8 (h:=J8 hi)]
   simp[hp]
  | true =>
   dsimp only
   obtain⟨v,h3,e3,rfl,x3⟩:=(he x Z0 hp h2 k12).eq
   rw[e3]
   dsimp only
   rw[x3.get (x2.get hi)]
   dsimp only
   rw[if_pos (by omega)]
   have k13:∀j ob,j≠i0->h1[j]?=Za ob->(h3.set i0 (.lst (acc++[f x])))[j]?=Za ob:=λ j ob n q=>by
    rw[Zad (ZO n)]
    exact x3.get (x2.get q)
   refine WR.mono (Jw5 i0 (acc:=acc++[f x]) (by rw[ZZ (J8 (x3.get (x2.get hi)))]) (λ h4 q=>hc h4 λ j ob n r=>q j ob n (k13 j ob n r)) (by simp;omega) (λ y hy h4 q=>ht y (Zi _ hy) h4 λ j ob n r=>q j ob n (k13 j ob n r))
    λ y hy hpy h4 q=>he y (Zi _ hy) hpy h4 λ j ob n r=>q j ob n (k13 j ob n r)) λ v h4 ⟨ev,g,eg⟩=>⟨ev,?_⟩
   obtain⟨g3,q3⟩:=x2.trans x3
   refine⟨g3++g,?_⟩
   rw[eg,q3,Za8 (h:=J8 hi),Za8 (h:=by rw[ZbB];exact J8 hi),ZeI]
   simp[hp]
theorem Jjk {t:T1}{e:E1}{js:List Nat}{p:IV->Bool}{f:IV->IV}(hit:WR (it σ h0) λ J h1=>J.xs=xs/\J.chk=chk/\h1=h)(hl:xs.length<sizeLine) 
  (hc:∀h2:IH,(∀(j:Nat)(ob:IX),h[j]?=Za ob->h2[j]?=Za ob)->chk h2)
  (ht:∀x∈xs,∀h2:IH,(∀(j:Nat)(ob:IX),h[j]?=Za ob->h2[j]?=Za ob)->WR (t (Za x::js.map λ j=>(σ[j]?).join) h2) λ b h3=>b=p x/\Ex h2 h3)
  (he:∀x∈xs,p x=Zj->∀h2:IH,(∀(j:Nat)(ob:IX),h[j]?=Za ob->h2[j]?=Za ob)->WR (e (Za x::js.map λ j=>(σ[j]?).join) h2) λ v h3=>v=f x/\Ex h2 h3) :
  WR (Jx it 1 js (gNm 0) t e σ h0) λ v h3=>v=.ref h.length/\∃g,h3=h++.lst ((xs.filter p).map f)::g:=by
 obtain⟨J,h1,e1,q1,q2,rfl⟩:=hit.eq
 unfold Jx
 rw[e1]
 show WR (JH J.chk (gNm 0) t e h1.length J.xs (Zd::js.map λ j=>(σ[j]?).join) (h1++[.lst []])) _
 rw[q1,q2]
 have lift:∀{h2:IH},(∀j ob,j≠h1.length->(h1++[IX.lst []])[j]?=Za ob->h2[j]?=Za ob)->∀j ob,h1[j]?=Za ob->h2[j]?=Za ob:=λ q j ob r=>q j ob (Z3 (J8 r)) (grow r)
 refine WR.mono (Jw5 (p:=p) (f:=f) h1.length (acc:=[]) grown (λ h2 q=>hc h2 (lift q)) (by simpa using hl) (λ x hx h2 q=>ht x hx h2 (lift q)) λ x hx hp h2 q=>he x hx hp h2 (lift q)) λ v h3 ⟨ev,g,eg⟩=>⟨ev,g,?_⟩
 rw[eg]
 simp
theorem filt {α:Type}(xs:List α):xs.filter (λ _=>Zj)=xs:=ZdE.mpr (by simp)
theorem QQ {e:E1}{js:List Nat}{f:IV->IV}(hit:WR (it σ h0) λ J h1=>J.xs=xs/\J.chk=chk/\h1=h)(hl:xs.length<sizeLine) 
  (hc:∀h2:IH,(∀(j:Nat)(ob:IX),h[j]?=Za ob->h2[j]?=Za ob)->chk h2)
  (he:∀x∈xs,∀h2:IH,(∀(j:Nat)(ob:IX),h[j]?=Za ob->h2[j]?=Za ob)->WR (e (Za x::js.map λ j=>(σ[j]?).join) h2) λ v h3=>v=f x/\Ex h2 h3) :
  WR (Jx it 1 js (gNm 0) J7 e σ h0) λ v h3=>v=.ref h.length/\∃g,h3=h++.lst (xs.map f)::g:=by
 have:=Jjk (p:=λ _=>Zj) (f:=f) (t:=J7) (e:=e) (js:=js) (σ:=σ) (h:=h) hit hl hc (λ _ _ h2 _=>⟨rfl,.refl _⟩) λ x hx _ h2 q=>he x hx h2 q
 rwa [filt] at this
theorem Jz {g:IH}:(h++o::g)[h.length]?=Za o:=by simp
theorem Ex.cons (h:IH)(o:IX)(g:IH):Ex h (h++o::g):=⟨_,rfl⟩
end
section
variable {σ:ISt}{h h1:IH}{Q:IV->IH->Prop}{J:ItI->IH->Prop}
theorem Qy (e:E1):WR (Ju e σ h) J=WR (e σ h) λ v h1=>WR (Xt v h1) J:=by unfold Ju;rw[Js]
theorem Vy (f:List IV->IH->Res ItI)(a:A1):WR (iRg f a σ h) J=WR (a σ h) λ vs h1=>WR (f vs h1) J:=by unfold iRg;rw[Js]
theorem Qb (i:Nat):WR (Xt (.ref i) h) J=∃xs,h[i]?=Za (.lst xs)/\J ⟨xs,λ h'=>h'[i]?=Za (.lst xs)⟩ h:=by
 show WR (itOf (.ref i) h) J=_
 unfold itOf
 cases e:h[i]? with
 | none=>simp[WR,e]
 | some o=>cases o<;>simp[WR,e]
theorem Jnz (xs:List IV):WR (Xt (.rol xs) h) J=J ⟨xs,λ _=>True⟩ h:=rfl
theorem Jn1 (xs:List IV):WR (Xt (.tup xs) h) J=J ⟨xs,λ _=>True⟩ h:=rfl
theorem Jn0 (x:Str):WR (Xt (.str x) h) J=J ⟨Vb x,λ _=>True⟩ h:=rfl
theorem Jmg (i:Nat):WR (Q7 [.ref i] h) J=∃xs,h[i]?=Za (.lst xs)/\J ⟨Qe 0 xs,λ h'=>h'[i]?=Za (.lst xs)⟩ h:=by
 show WR (Q7 [.ref i] h) J=_
 unfold Q7
 cases e:h[i]? with
 | none=>simp[WR,e]
 | some o=>cases o<;>simp[WR,e]
theorem Xf (j:Int):WR (JZ [.int j] h) J=((-(2^62)<=j/\j<2^62)/\J ⟨rngI 0 j,λ _=>True⟩ h):=by
 unfold JZ;rw[QF];exact propext ⟨λ ⟨a,b⟩=>(Classical.em _).elim (λ q=>⟨q,a q⟩) λ q=>(b q).elim,λ ⟨a,b⟩=>⟨λ _=>b,λ q=>absurd a q⟩⟩
theorem Jjp (i j:Int):WR (Jv4 [.int i,.int j] h) J=((-(2^62)<=i/\i<2^62/\ -(2^62)<=j/\j<2^62)/\J ⟨rngI i j,λ _=>True⟩ h):=by
 unfold Jv4;rw[QF];exact propext ⟨λ ⟨a,b⟩=>(Classical.em _).elim (λ q=>⟨q,a q⟩) λ q=>(b q).elim,λ ⟨a,b⟩=>⟨λ _=>b,λ q=>absurd a q⟩⟩
theorem Qw (i j:Int):(rngI i j).length=(j-i).toNat:=by simp[rngI]
theorem Vu (i j:Int)(n:Nat)(hn:n<(rngI i j).length):(rngI i j)[n]=.int (i+n):=by simp[rngI]
theorem Jqk (xs:List IV)(n:Nat)(hn:n<(Qe 0 xs).length):(Qe 0 xs)[n]=.tup [.int n,xs[n]'(by rwa [VR] at hn)]:=by
 have:=Jeg xs 0 n
 rw[Zb hn,Zb (by rwa [VR] at hn)] at this
 simpa using this
theorem Jwt (i:Nat)(lo hi:Option Int):WR (slI (.ref i) lo hi h) Q=∃xs,h[i]?=Za (.lst xs)/\Q (.ref h.length) (h++[.lst (cutI xs lo hi)]):=by
 unfold slI
 cases e:h[i]? with
 | none=>simp[WR,e]
 | some o=>cases o<;>simp[WR,e]
theorem Jn7 (xs:List IV)(lo hi:Option Int):WR (slI (.rol xs) lo hi h) Q=Q (.ref h.length) (h++[.lst (cutI xs lo hi)]):=rfl
theorem Jm7 (n d:Nat):HT.sIx n d Zd=d:=HT.sIx_none n d
theorem Js9 (xs:List α)(n:Nat):cutI xs Zd (Za (n:Int))=xs.take n:=by
 unfold cutI
 rw[Jm7,HT.sIx_nat]
 simp
theorem Js8 (xs:List α)(n:Nat):cutI xs (Za (n:Int)) Zd=xs.drop n:=by
 unfold cutI
 rw[Jm7,HT.sIx_nat]
 by_cases hn:n<=xs.length
 ·rw[Nat.min_eq_left hn]
  exact Zdh (by simp)
 ·rw[Nat.min_eq_right (by omega),List.drop_length,Zdj (by omega)]
  simp
theorem Jw6 (xs:List α)(n m:Nat):cutI xs (Za (n:Int)) (Za (m:Int))=(xs.take m).drop n:=by
 unfold cutI
 rw[HT.sIx_nat,HT.sIx_nat]
 refine Zb9 λ i=>?_
 simp only[List.getElem?_take,List.getElem?_drop]
 by_cases h1:n+i<xs.length
 ·rw[Nat.min_eq_left (show n<=xs.length by omega)]
  by_cases h3:n+i<m
  ·rw[if_pos h3,if_pos (by omega)]
  ·rw[if_neg h3,if_neg (by omega)]
 ·rw[show xs[n+i]?=Zd from Zay (by omega),show xs[min n xs.length+i]?=Zd from Zay (by omega)]
  simp
variable {P:Pg}{m:Str}{n i:Nat}{o:E1}{a:A1}{xs:List IV}{c:Str}{fs:List (Str×IV)}
theorem Jy7 (e:o σ h=.ok (.ref i) h1)(hl:h1[i]?=Za (.lst xs))(hg:bmOf "list" m n=Za g):WR (Jp P m n o a σ h) Q=WR (a σ h1) λ vs h2=>WR (g (.ref i) vs h2) Q:=by
 unfold Jp
 rw[e]
 have hi:Ye (.ref i) h1=Zm:=by simp[Ye,hl]
 have ht:tyS (.ref i) h1="list":=by simp[tyS,hl]
 dsimp only
 rw[hi,ht,hg]
 dsimp only
 rw[if_neg Zs]
 unfold eBm
 rw[e,Js,Xe]
 have:tyOk "list" (.ref i) h1=Zj:=by simp[tyOk,hl]
 rw[if_pos this,Js]
theorem Xd (e:o σ h=.ok (.ref i) h1)(hi:h1[i]?=Za (.ins c fs))(hf:fs.lookup m=Zd)(hd:JR P m n c=Za (f,d)):WR (Jp P m n o a σ h) Q=WR (a σ h1) λ vs h2=>WR (f (.ref i::(vs++d)) h2) Q:=by
 unfold Jp
 rw[e]
 have hi':Ye (.ref i) h1=Zj:=by simp[Ye,hi]
 dsimp only
 rw[hi',if_pos rfl]
 unfold Jtf
 rw[e,Js,Xe]
 dsimp only
 rw[hi]
 dsimp only
 rw[hd,hf]
 dsimp only
 rw[Js]
theorem Jsq (y:IV):WR (VL (.ref i) [y] h) Q=∃xs,h[i]?=Za (.lst xs)/\xs.length<sizeLine/\Q .non (h.set i (.lst (xs++[y]))):=by
 unfold VL
 cases e:h[i]? with
 | none=>simp[WR,e]
 | some ob =>
  cases ob with
  | lst xs=>by_cases hz:xs.length<sizeLine<;>simp[WR,e,hz]
  | _=>simp[WR,e]
theorem VN:bmOf "list" "append" 1=Za VL:=by kernel_rfl
theorem JW (e:h[i]?=Za (.ins c fs)):V4 f (.ref i) h=fs.lookup f:=by simp[V4,e]
theorem Jvk:WR (Vq (.ref i) h) Q=∃xs,h[i]?=Za (.lst xs)/\Q (.ref h.length) (h++[.lst xs]):=by
 unfold Vq
 cases e:h[i]? with
 | none=>simp[WR,e]
 | some ob=>cases ob<;>simp[WR,e]
theorem Jf4 (xs:List IV):WR (Vq (.tup xs) h) Q=Q (.ref h.length) (h++[.lst xs]):=rfl
theorem Jzc:WR (Xc (.ref i) h) Q=∃xs,h[i]?=Za (.lst xs)/\Q (.tup xs) h:=by
 unfold Xc
 cases e:h[i]? with
 | none=>simp[WR,e]
 | some ob=>cases ob<;>simp[WR,e]
end
section
variable {σ:ISt}{h:IH}{Q:IV->IH->Prop}
theorem Jsp (i j:Nat):WR (Jn (.ref i) (.ref j) h) Q=∃xs,h[i]?=Za (.lst xs)/\∃ys,h[j]?=Za (.lst ys)/\xs.length+ys.length<=sizeLine/\Q (.ref h.length) (h++[.lst (xs++ys)]):=by
 unfold Jn
 dsimp only
 split
 ·rename_i xs ys e e'
  rw[QF]
  refine propext ⟨λ ⟨a,b⟩=>?_,λ ⟨xs',f,ys',f',l,q⟩=>?_⟩
  ·by_cases l:xs.length+ys.length<=sizeLine
   ·exact⟨xs,e,ys,e',l,a l⟩
   ·exact(b l).elim
  ·rw[e] at f
   rw[e'] at f'
   cases f
   cases f'
   exact⟨λ _=>q,λ n=>absurd l n⟩
 ·rename_i no
  exact propext ⟨ZbA,λ ⟨xs,f,ys,f',_⟩=>(no xs ys f f').elim⟩
end
section
variable {σ:ISt}{h h1:IH}{Q:IV->IH->Prop}{P:Pg}{m:Str}{n i:Nat}{o:E1}{a:A1}{x:Str}
theorem Jne:∀zs:List Str,Vv (zs.map IV.str)=Za zs
 | []=>rfl
 | z::zs=>by
  rw[Z7,Vv,Jne zs];rfl
end
section
variable {σ:ISt}{h:IH}{Q:IV->IH->Prop}{i:Nat}
theorem Jsx:WR (sumI (.ref i) h) Q=∃xs,h[i]?=Za (.lst xs)/\∃ns,JA xs=Za ns/\Q (.int ns.sum) h:=by
 unfold sumI
 cases e:h[i]? with
 | none=>simp[WR,e]
 | some ob =>
  cases ob with
  | lst xs=>cases q:JA xs<;>simp[WR,e,q]
  | _=>simp[WR,e]
theorem QX:∀ns:List Int,JA (ns.map IV.int)=Za ns
 | []=>rfl
 | n::ns=>by
  rw[Z7,JA,QX ns];rfl
theorem Jy9 (aa:A1)(md:E1):WR (XX aa md σ h) Q=WR (aa σ h) λ xs h1=>WR (md σ h1) λ d h2=>∃i,xs=[.ref i]/\∃ys,h2[i]?=Za (.lst ys)/\∃ns,JA ys=Za ns/\Q (maxD ns d) h2:=by
 unfold XX
 rw[Js]
 congr 1;funext xs h1
 rw[Js]
 congr 1;funext d h2
 match xs with
 | [.ref i] =>
  simp only[ZeN,IV.ref.injEq,and_true,exists_eq_left']
  cases e:h2[i]? with
  | none=>simp[WR]
  | some ob =>
   cases ob with
   | lst ys=>cases q:JA ys<;>simp[WR,q]
   | _=>simp[WR]
 | []=>simp[WR]
 | [.non]=>simp[WR]
 | [.bl _]=>simp[WR]
 | [.int _]=>simp[WR]
 | [.str _]=>simp[WR]
 | [.tup _]=>simp[WR]
 | [.rol _]=>simp[WR]
 | x::_::_=>cases x<;>simp[WR]
theorem Jsu (aa:A1):WR (XW aa σ h) Q=WR (aa σ h) λ xs h1=>∃i,xs=[.ref i]/\∃ys,h1[i]?=Za (.lst ys)/\∃zs,Vv ys=Za zs/\zs.length+1<Zb8/\Q (.int (cntD (QB zs) zs.length)) h1:=by
 unfold XW
 rw[Js]
 congr 1;funext xs h1
 match xs with
 | [.ref i] =>
  simp only[ZeN,IV.ref.injEq,and_true,exists_eq_left']
  cases e:h1[i]? with
  | none=>simp[WR]
  | some ob =>
   cases ob with
   | lst ys =>
    cases q:Vv ys with
    | none=>simp[WR,q]
    | some zs=>by_cases hz:zs.length+1<Zb8<;>simp[WR,q,hz]
   | _=>simp[WR]
 | []=>simp[WR]
 | [.non]=>simp[WR]
 | [.bl _]=>simp[WR]
 | [.int _]=>simp[WR]
 | [.str _]=>simp[WR]
 | [.tup _]=>simp[WR]
 | [.rol _]=>simp[WR]
 | x::_::_=>cases x<;>simp[WR]
theorem Jj5 {zs:List Str}(nd:zs.Nodup):∀i,i<=zs.length->cntD (QB zs) i=i
 | 0,_=>rfl
 | i+1,hi=>by
  have ih:=Jj5 nd i (by omega)
  have hm:metB (QB zs) i (QB zs i)=Zm:=by
   unfold metB
   rw[List.any_eq_false]
   intro j hj
   have hj:=ZR.mp hj
   simp only[decide_eq_true_eq]
   intro e
   simp only[QB,Zg,Zb (show j<zs.length by omega),Zb (show i<zs.length by omega),Zbz] at e
   have:=(Zeq nd).mp e
   omega
  unfold cntD
  rw[hm,ih]
  rfl
theorem Jnk (f:Nat->Int)(b:Int):∀(n:Nat),0<n->(∀j,j<n->f j<=b)->JG f n<=b
 | 0,h,_=>by omega
 | 1,_,q=>q 0 (by omega)
 | n+2,_,q=>by
  rw[Je1 f (by omega)]
  have:=Jnk f b (n+1) (by omega) λ j hj=>q j (by omega)
  have:=q (n+1) (by omega)
  split<;>omega
end
section
variable {h:IH}{Q:IV->IH->Prop}{i:Nat}
end
def KpB (i0:Nat)(h h':IH):Prop:=∀(j:Nat)(ob:IX),j≠i0->h[j]?=Za ob->h'[j]?=Za ob
def Kp (h h':IH):Prop:=∀(j:Nat)(ob:IX),h[j]?=Za ob->h'[j]?=Za ob
theorem KpB.trans (p:KpB i0 a b)(q:KpB i0 b c):KpB i0 a c:=λ j ob n e=>q j ob n (p j ob n e)
theorem Kp.trans (p:Kp a b)(q:Kp b c):Kp a c:=λ j ob e=>q j ob (p j ob e)
theorem Kp.but (p:Kp a b):KpB i0 a b:=λ j ob _ e=>p j ob e
theorem Ex.kp (x:Ex a b):Kp a b:=λ _ _ e=>x.get e
theorem Jzk {chk:IH->Prop}{e:E1}{caps:ISt}{D:IV->IV->IH->Prop}(i0:Nat)(mono:∀x y h2 h3,KpB i0 h2 h3->D x y h2->D x y h3):∀{xs acc:List IV}{o:Option IV}{h1:IH},h1[i0]?=Za (.lst acc)->(∀h2,KpB i0 h1 h2->chk h2)->acc.length+xs.length<sizeLine ->
  (∀x∈xs,∀h2:IH,KpB i0 h1 h2->i0<h2.length->WR (e (Za x::caps) h2) λ v h3=>Ex h2 h3/\D x v h3) ->
  WR (JH chk (gNm 0) J7 e i0 xs (o::caps) h1) λ v h3=>v=.ref i0/\∃ys,h3[i0]?=Za (.lst (acc++ys))/\ys.length=xs.length/\KpB i0 h1 h3/\∀(i:Nat) x y,xs[i]?=Za x->ys[i]?=Za y->D x y h3
 | [],acc,o,h1,hi,hc,_,_=>by
  unfold JH
  rw[if_pos (hc h1 λ _ _ _ q=>q)]
  exact⟨rfl,[],by simpa using hi,rfl,λ _ _ _ q=>q,λ i x y q=>by simp at q⟩
 | x::xs,acc,o,h1,hi,hc,hl,he=>by
  unfold JH
  rw[if_pos (hc h1 λ _ _ _ q=>q)]
  dsimp only[gNm,Zby,J7]
  have hl':acc.length+xs.length+1<sizeLine:=by simpa [Zfr] using hl
  obtain⟨v,h3,e3,x3,dv⟩:=(he x Z0 h1 (λ _ _ _ q=>q) (J8 hi)).eq
  rw[e3]
  dsimp only
  rw[x3.get hi]
  dsimp only
  rw[if_pos (by omega)]
  have k34:KpB i0 h3 (h3.set i0 (.lst (acc++[v]))):=λ j ob n q=>by
   rw[Zad (ZO n)];exact q
  have k14:KpB i0 h1 (h3.set i0 (.lst (acc++[v]))):=x3.kp.but.trans k34
  refine WR.mono (Jzk i0 mono (acc:=acc++[v]) (by rw[ZZ (J8 (x3.get hi))]) (λ h4 q=>hc h4 (k14.trans q)) (by simp;omega) λ y hy h4 q=>he y (Zi _ hy) h4 (k14.trans q)) ?_
  rintro w h5 ⟨rfl,ys,g5,ln,k5,d5⟩
  refine⟨rfl,v::ys,by simpa using g5,by simp[ln],k14.trans k5,?_⟩
  intro i x' y' q1 q2
  cases i with
  | zero =>
   simp only[Zbe,Za3] at q1 q2
   subst q1;subst q2
   exact mono _ _ _ _ (k34.trans k5) dv
  | succ i=>exact d5 i x' y' (by simpa using q1) (by simpa using q2)
theorem Jvd {h h0:IH}{it:I1}{e:E1}{js:List Nat}{xs:List IV}{chk:IH->Prop}(D:IV->IV->IH->Prop)(hit:WR (it σ h0) λ J h1=>J.xs=xs/\J.chk=chk/\h1=h)(hl:xs.length<sizeLine) 
  (mono:∀x y h2 h3,KpB h.length h2 h3->D x y h2->D x y h3)(hc:∀h2:IH,Kp h h2->chk h2)
  (he:∀x∈xs,∀h2:IH,Kp h h2->h.length<h2.length->WR (e (Za x::js.map λ j=>(σ[j]?).join) h2) λ v h3=>Ex h2 h3/\D x v h3) :
  WR (Jx it 1 js (gNm 0) J7 e σ h0) λ v h3=>v=.ref h.length/\∃ys,h3[h.length]?=Za (.lst ys)/\ys.length=xs.length/\Kp h h3/\∀(i:Nat) x y,xs[i]?=Za x->ys[i]?=Za y->D x y h3:=by
 obtain⟨J,h1,e1,q1,q2,rfl⟩:=hit.eq
 unfold Jx
 rw[e1]
 show WR (JH J.chk (gNm 0) J7 e h1.length J.xs (Zd::js.map λ j=>(σ[j]?).join) (h1++[.lst []])) _
 rw[q1,q2]
 have lift:∀{h2:IH},KpB h1.length (h1++[IX.lst []]) h2->Kp h1 h2:=λ q j ob r=>q j ob (Z3 (J8 r)) (grow r)
 refine WR.mono (Jzk h1.length mono (acc:=[]) grown (λ h2 q=>hc h2 (lift q)) (by simpa using hl) λ x hx h2 q ln=>he x hx h2 (lift q) ln) ?_
 rintro v h3 ⟨rfl,ys,g3,ln,k3,d3⟩
 exact⟨rfl,ys,by simpa using g3,ln,lift k3,d3⟩
section
variable {h:IH}
theorem Jw4 {g:G1}{t:T1}{e:E1}{caps:ISt}{p:IV->Bool}{f:IV->IV}{st:IV->ISt}(i0:Nat):∀{xs acc:List IV}{ls:ISt}{h1:IH},ls.length=n->h1[i0]?=Za (.lst acc)->(∀h2,(∀j ob,j≠i0->h1[j]?=Za ob->h2[j]?=Za ob)->chk h2)->acc.length+xs.length<sizeLine ->
  (∀x∈xs,∀(ls:ISt)(h2:IH),ls.length=n->(st x).length=n/\g x (ls++caps) h2=.next (st x++caps) h2) ->
  (∀x∈xs,∀h2,(∀j ob,j≠i0->h1[j]?=Za ob->h2[j]?=Za ob)->WR (t (st x++caps) h2) λ b h3=>b=p x/\Ex h2 h3) ->
  (∀x∈xs,p x=Zj->∀h2,(∀j ob,j≠i0->h1[j]?=Za ob->h2[j]?=Za ob)->WR (e (st x++caps) h2) λ v h3=>v=f x/\Ex h2 h3) ->
  WR (JH chk g t e i0 xs (ls++caps) h1) λ v h3=>v=.ref i0/\∃g,h3=h1.set i0 (.lst (acc++(xs.filter p).map f))++g
 | [],acc,ls,h1,_,hi,hc,_,_,_,_=>by
  unfold JH
  rw[if_pos (hc h1 λ _ _ _ q=>q)]
  refine⟨rfl,[],?_⟩
  simp only[List.filter_nil,Zb5,ZaC]
  refine(Zb9 λ j=>?_)
  by_cases hj:j=i0
  ·subst hj
   rw[hi,ZZ (J8 hi)]
  ·rw[Zad (ZO hj)]
 | x::xs,acc,ls,h1,hls,hi,hc,hl,hg,ht,he=>by
  unfold JH
  rw[if_pos (hc h1 λ _ _ _ q=>q)]
  obtain⟨sl,eg1⟩:=hg x Z0 ls h1 hls
  rw[eg1]
  dsimp only
  have hl':acc.length+xs.length+1<sizeLine:=by simpa [Zfr] using hl
  obtain⟨b,h2,e1,rfl,x2⟩:=(ht x Z0 h1 λ _ _ _ q=>q).eq
  rw[e1]
  have k12:∀j ob,j≠i0->h1[j]?=Za ob->h2[j]?=Za ob:=λ j ob _ q=>x2.get q
  cases hp:p x with
  | false =>
   dsimp only
   refine WR.mono (Jw4 i0 sl (x2.get hi) (λ h3 q=>hc h3 λ j ob n r=>q j ob n (k12 j ob n r)) (by omega) (λ y hy=>hg y (Zi _ hy)) (λ y hy h3 q=>ht y (Zi _ hy) h3 λ j ob n r=>q j ob n (k12 j ob n r))
    λ y hy hpy h3 q=>he y (Zi _ hy) hpy h3 λ j ob n r=>q j ob n (k12 j ob n r)) λ v h3 ⟨ev,g,eg⟩=>⟨ev,?_⟩
   obtain⟨g2,rfl⟩:=x2
   refine⟨g2++g,?_⟩
   rw[eg,Za8 (h:=J8 hi)]
   simp[hp]
  | true =>
   dsimp only
   obtain⟨v,h3,e3,rfl,x3⟩:=(he x Z0 hp h2 k12).eq
   rw[e3]
   dsimp only
   rw[x3.get (x2.get hi)]
   dsimp only
   rw[if_pos (by omega)]
   have k13:∀j ob,j≠i0->h1[j]?=Za ob->(h3.set i0 (.lst (acc++[f x])))[j]?=Za ob:=λ j ob n q=>by
    rw[Zad (ZO n)]
    exact x3.get (x2.get q)
   refine WR.mono (Jw4 i0 (acc:=acc++[f x]) sl (by rw[ZZ (J8 (x3.get (x2.get hi)))]) (λ h4 q=>hc h4 λ j ob n r=>q j ob n (k13 j ob n r)) (by simp;omega) (λ y hy=>hg y (Zi _ hy)) (λ y hy h4 q=>ht y (Zi _ hy) h4 λ j ob n r=>q j ob n (k13 j ob n r))
    λ y hy hpy h4 q=>he y (Zi _ hy) hpy h4 λ j ob n r=>q j ob n (k13 j ob n r)) λ v h4 ⟨ev,g,eg⟩=>⟨ev,?_⟩
   obtain⟨g3,q3⟩:=x2.trans x3
   refine⟨g3++g,?_⟩
   rw[eg,q3,Za8 (h:=J8 hi),Za8 (h:=by rw[ZbB];exact J8 hi),ZeI]
   simp[hp]
theorem Jjl {g:G1}{t:T1}{e:E1}{js:List Nat}{p:IV->Bool}{f:IV->IV}{st:IV->ISt}{n:Nat}(hit:WR (it σ h0) λ J h1=>J.xs=xs/\J.chk=chk/\h1=h)(hl:xs.length<sizeLine) 
  (hc:∀h2:IH,(∀(j:Nat)(ob:IX),h[j]?=Za ob->h2[j]?=Za ob)->chk h2)
  (hg:∀x∈xs,∀(ls:ISt)(h2:IH),ls.length=n->(st x).length=n/\g x (ls++js.map λ j=>(σ[j]?).join) h2=.next (st x++js.map λ j=>(σ[j]?).join) h2)
  (ht:∀x∈xs,∀h2:IH,(∀(j:Nat)(ob:IX),h[j]?=Za ob->h2[j]?=Za ob)->WR (t (st x++js.map λ j=>(σ[j]?).join) h2) λ b h3=>b=p x/\Ex h2 h3)
  (he:∀x∈xs,p x=Zj->∀h2:IH,(∀(j:Nat)(ob:IX),h[j]?=Za ob->h2[j]?=Za ob)->WR (e (st x++js.map λ j=>(σ[j]?).join) h2) λ v h3=>v=f x/\Ex h2 h3) :
  WR (Jx it n js g t e σ h0) λ v h3=>v=.ref h.length/\∃g,h3=h++.lst ((xs.filter p).map f)::g:=by
 obtain⟨J,h1,e1,q1,q2,rfl⟩:=hit.eq
 unfold Jx
 rw[e1]
 show WR (JH J.chk g t e h1.length J.xs (ZS n Zd++js.map λ j=>(σ[j]?).join) (h1++[.lst []])) _
 rw[q1,q2]
 have lift:∀{h2:IH},(∀j ob,j≠h1.length->(h1++[IX.lst []])[j]?=Za ob->h2[j]?=Za ob)->∀j ob,h1[j]?=Za ob->h2[j]?=Za ob:=λ q j ob r=>q j ob (Z3 (J8 r)) (grow r)
 refine WR.mono (Jw4 (p:=p) (f:=f) (st:=st) h1.length (acc:=[]) (ZbH ..) grown (λ h2 q=>hc h2 (lift q)) (by simpa using hl) hg (λ x hx h2 q=>ht x hx h2 (lift q)) λ x hx hp h2 q=>he x hx hp h2 (lift q)) λ v h3 ⟨ev,g,eg⟩=>⟨ev,g,?_⟩
 rw[eg]
 simp
end
def Jwv (ts:List Zq)(H:Hp):Prop:=∀b,H b=Zd∨(∃o xs,H b=Za (.frz o (.lst xs)))∨(b∈ts/\H b=Za (.tbl #[]))
theorem Jrb {P:ZC}{w:ZU}{K:W.Frag}{mg mb:Str->Option Zh}{k:Nat}{fa a:Zq}{fd:ZaP}{x:Str}{sp:Sp}{s₁:Zl}{vs:List Zh}{ns:List Int}{ts:List Zq} 
  (KX:K.In s₁.heap)(hns:s₁.heap.Ns Z4 mg)(hb:s₁.heap.Ns ZcQ mb)(hbb:∀x:Str,x≠"__name__"->mb x=Zc1 x)(hlim:s₁.heap.NoLimit)(hg:s₁.gens=#[])
  (ha:s₁.heap.get? a=Za { cls:=.type "list",data:=.seq vs.toArray })(hi:Zbh vs ns)(hl:ns.length<=sizeLine)(hr:Room k Zfm)
  (hT:∀p∈ts,s₁.heap.get? p=Za (W.tabObj #[])/\isCodeTable s₁.heap p/\K.lookup p=Zd)
  (hbm:∃bm ob,mg "__builtins__"=Za (.ref bm)/\bm≠ZcQ/\s₁.heap.get? bm=Za ob/\ob.cls=.type "module"/\ob.dict=Za ZcQ/\ob.data=.plain)
  (F:∀base:Zar,K.In base->base.Ns Z4 mg->Qs mg base->FnOk P w K mg base (CXI P w) k fa fd [x] sp)(hbind:∀(s:Zl)(u:Zh),Zdf s fd ⟨[u],[]⟩ [(x,u)])
  (hsp:∀H:Hp,Jwv ts H->SqL K H a (ns.map V.int)->(∀p∈ts,H p=Za (.tbl #[]))->sp [.ref a] H (λ v _=>v=.bl Zj) λ _ _ _=>False) :
  Zc2 (Z6 P w) Zfm (.call (.ref fa) ⟨[.ref a],[]⟩) (λ r s'=>r=.ok (.ret (.bool Zj))/\OldK s₁.heap s'.heap/\s'.os=s₁.os/\ZdG s'.gens) s₁:=by
 have rv:=L2.XG hi
 have lenV:=hi.length
 have nta:a∉ts:=λ z=>by
  have e:=(hT a z).1
  rw[ha] at e
  have e':=Zao e
  injection e' with h1
  cases h1
 have core:∀H:Hp,Jwv ts H->SqL K H a (ns.map V.int)->HOk P w H s₁.heap->(∀b,H b≠Zd->b=a∨b∈ts)->(H a≠Zd->K.lookup a=Zd)->(∀p∈ts,H p=Za (.tbl #[])) ->
   Zc2 (Z6 P w) Zfm (.call (.ref fa) ⟨[.ref a],[]⟩) (λ r s'=>r=.ok (.ret (.bool Zj))/\OldK s₁.heap s'.heap/\s'.os=s₁.os/\ZdG s'.gens) s₁:=by
  intro H hO hS hok hA hK hTt
  have base_of:∀{b:Zq}{o:Obj},s₁.heap.get? b=Za o->H b=Zd->(hidT s₁.heap H).get? b=Za o:=λ e n=>Jtm e n
  have noA:∀{b:Zq}{o:Obj},s₁.heap.get? b=Za o->(∀vs n,o.data≠.seq vs n)->(∀vs,o.data≠.fields vs)->H b=Zd:=λ {b o} e d1 d2=>by
   cases q:H b with
   | none=>rfl
   | some u =>
    rcases hA b (by rw[q];simp) with e'|e'
    ·subst e'
     rw[ha] at e;cases e
     exact absurd rfl (d1 _ _)
    ·rw[(hT b e').1] at e;cases e
     exact absurd rfl (d2 _)
  have nsK:∀{b:Zq}{m:Str->Option Zh},s₁.heap.Ns b m->(hidT s₁.heap H).Ns b m:=λ {b m} ⟨o,es,ep,e,d,r⟩=>⟨o,es,ep,base_of e (noA e (λ _ _ z=>by rw[d] at z;cases z) λ _ z=>by rw[d] at z;cases z),d,r⟩
  have hKb:K.In (hidT s₁.heap H):=λ b o e=>base_of (KX b o e) (by
   cases q:H b with
   | none=>rfl
   | some u =>
    rcases hA b (by rw[q];simp) with e'|e'
    ·subst e'
     rw[hK (by rw[q];simp)] at e;cases e
    ·rw[(hT b e').2.2] at e;cases e)
  have hM:Mod K mg (hidT s₁.heap H):=⟨hKb,nsK hns,⟨mb,nsK hb,hbb⟩,let ⟨mc,h1,h2⟩:=hlim;⟨mc,nsK h1,h2⟩⟩
  have hB:Qs mg (hidT s₁.heap H):=by
   obtain⟨bm,ob,b1,b2,b3,b4,b5,b6⟩:=hbm
   refine⟨bm,ob,b1,b2,λ z=>?_,base_of b3 (noA b3 (λ _ _ z=>by rw[b6] at z;cases z) λ _ z=>by rw[b6] at z;cases z),b4,b5,b6⟩
   obtain⟨o,es,ep,e,d,_⟩:=hns
   rw[<- z,b3] at e
   cases e
   rw[b6] at d
   cases d
  have e0:Env0 P w K mg (hidT s₁.heap H) Zfm [] s₁ H:=⟨rfl,hM,λ b o e=>Jx6 e,Zde (Jqt _ _),trivial,λ b hb=>absurd (show b∈([]:List Zq) from hb) (by simp),hok,.of_eq hg⟩
  refine Zch ((F _ hKb (nsK hns) hB).run Zfm [] s₁ H ⟨[.ref a],[]⟩ [.ref a] [.ref a] _ _ hr e0 (hbind s₁ (.ref a)) (.cons rfl .nil) (hsp H hO hS hTt)) λ r s' h=>?_
  cases r with
  | error e=>exact h.elim λ _ z=>z.2.2.2.2.elim
  | ok fl =>
   cases fl with
   | next=>exact ZbA h
   | brk=>exact ZbA h
   | cont=>exact ZbA h
   | ret u =>
    obtain⟨v,H',os,bare,un,hok',r',q⟩:=h
    have q':v=.bl Zj:=q
    subst q'
    obtain rfl:u=Zdv Zj:=r'
    have main:∀b o,s₁.heap.get? b=Za o->asItWas s₁.heap s'.heap b o/\∃o',s'.heap.get? b=Za o':=λ b o e=>by
     rcases hO b with z|⟨ob,xs,z⟩|⟨hb,z⟩
     ·have:=un.keep b o e z (by intro z;exact absurd (show b∈([]:List Zq) from z) (by simp)) (by simp)
      exact⟨.inl this,_,this⟩
     ·have z2:=un.frzs b ob _ z
      obtain⟨e1,_⟩:=hok b _ z
      obtain⟨e2,_⟩:=hok' b _ z2
      rw[e] at e1;cases e1
      exact⟨.inl e2,_,e2⟩
     ·obtain⟨more,z2⟩:=un.tbls b _ z
      have e2:=hok' b _ z2
      have e1:=(hT b hb).1
      rw[e] at e1
      cases e1
      exact⟨.inr (.inl ⟨(hT b hb).2.1,rfl,#[],more,rfl,e2⟩),_,e2⟩
    exact⟨rfl,⟨λ b o e=>(main b o e).1,λ b o e=>(main b o e).2⟩,os,bare⟩
 cases hk:K.lookup a with
 | some o =>
  have e:=KX a o hk
  rw[ha] at e
  cases e
  refine core (λ b=>if b∈ts then Za (.tbl #[]) else Zd) (λ b=>?_) (.inr ⟨_,vs.toArray,_,hk,rfl,rfl,rfl,by rw[Zx,lenV];exact hl,by simpa using rv⟩) (λ b u z=>?_) (λ b z=>?_) (λ z=>absurd (if_neg nta) z) λ p hp=>if_pos hp
  ·by_cases hb:b∈ts
   ·exact .inr (.inr ⟨hb,if_pos hb⟩)
   ·exact .inl (if_neg hb)
  ·by_cases hb:b∈ts
   ·have z':=(if_pos hb).symm.trans z
    cases z'
    exact(hT b hb).1
   ·have z':=(if_neg hb).symm.trans z
    cases z'
  ·by_cases hb:b∈ts
   ·exact .inr hb
   ·exact absurd (if_neg hb) z
 | none =>
  refine core (λ b=>if b=a then Za (.frz { cls:=.type "list",data:=.seq vs.toArray } (.lst (ns.map V.int))) else if b∈ts then Za (.tbl #[]) else Zd) (λ b=>?_) (.inl (.inr ⟨{ cls:=.type "list",data:=.seq vs.toArray },if_pos rfl⟩)) (λ b u z=>?_) (λ b z=>?_) (λ _=>hk) λ p hp=>?_
  ·by_cases hb:b=a
   ·exact .inr (.inl ⟨_,_,if_pos hb⟩)
   ·by_cases hc:b∈ts
    ·exact .inr (.inr ⟨hc,(if_neg hb).trans (if_pos hc)⟩)
    ·exact .inl ((if_neg hb).trans (if_neg hc))
  ·by_cases hb:b=a
   ·have z':=(if_pos hb).symm.trans z
    cases z'
    subst hb
    exact⟨ha,by rw[Zn];exact hl,vs,_,rv,ha⟩
   ·by_cases hc:b∈ts
    ·have z':=((if_neg hb).trans (if_pos hc)).symm.trans z
     cases z'
     exact(hT b hc).1
    ·have z':=((if_neg hb).trans (if_neg hc)).symm.trans z
     cases z'
  ·by_cases hb:b=a
   ·exact .inl hb
   ·by_cases hc:b∈ts
    ·exact .inr hc
    ·exact absurd ((if_neg hb).trans (if_neg hc)) z
  ·have hb:p≠a:=λ z=>nta (z▸hp)
   exact(if_neg hb).trans (if_pos hp)
def Js6 (o:Obj)(q:Str):Bool:=match o with
 | ⟨_,_,.fields vs,_⟩=>(match vs.toList with|_::.str n _::_=>n==q|_=>Zm)
 | _=>Zm
def QO (K:W.Frag)(q:Str)(p:Zq):Bool:=(K.lookup p).isNone&&K.all (λ e=>!(Js6 e.2 q)||W.codeHdIn K e.1 p)&&K.any (λ e=>Js6 e.2 q&&W.codeHdIn K e.1 p)
def QS (K:W.Frag):List Str->List Zq->Bool
 | [],[]=>Zj
 | q::qs,p::ps=>QO K q p&&!ps.contains p&&QS K qs ps
 | _,_=>Zm
theorem Jow {K:W.Frag}(h:K.lookup c=Za o):(c,o)∈K:=by
 induction K with
 | nil=>cases h
 | cons p K ih =>
  obtain⟨b,o'⟩:=p
  rw[Zai] at h
  split at h
  ·rename_i e
   cases h
   rw[beq_iff_eq.mp e]
   exact Z0
  ·exact Zi _ (ih h)
theorem QO.code {K:W.Frag}{q:Str}{p:Zq}(h:QO K q p=Zj):∀cdv,W.codeIn K cdv q=Zj->∃c,cdv=.ref c/\W.codeHdIn K c p=Zj:=by
 simp only[QO,Zp,ZbZ,ZaE,ZaV] at h
 intro cdv e
 unfold W.codeIn at e
 split at e
 ·rename_i c
  refine⟨c,rfl,?_⟩
  cases hk:K.lookup c with
  | none=>rw[hk] at e;cases e
  | some o =>
   rw[hk] at e
   rcases h.1.2 _ (Jow hk) with z|z
   ·exfalso
    have e':Js6 o q=Zj:=by
     obtain⟨oc,od,dt,sl⟩:=o
     cases dt<;>first|exact e|cases e
    have z':Js6 o q=Zm:=z
    rw[e'] at z'
    cases z'
   ·exact z
 ·cases e
theorem QO.some {K:W.Frag}{q:Str}{p:Zq}(h:QO K q p=Zj):K.lookup p=Zd/\∃c,W.codeHdIn K c p=Zj:=by
 simp only[QO,Zp,List.any_eq_true,Option.isNone_iff_eq_none] at h
 obtain⟨⟨h1,_⟩,e,_,h2⟩:=h
 exact⟨h1,e.1,h2.2⟩
theorem QS.mem {K:W.Frag}:∀{qs:List Str}{ts:List Zq},QS K qs ts=Zj->ts.Nodup/\qs.length=ts.length/\(∀(i:Nat)(q:Str),qs[i]?=Za q->∃p,ts[i]?=Za p/\QO K q p=Zj)/\∀p∈ts,∃q,QO K q p=Zj
 | [],[],_=>⟨.nil,rfl,λ i q e=>by simp at e,λ p hp=>by cases hp⟩
 | q::qs,p::ps,h=>by
  simp only[QS,Zp,ZaV,List.contains_eq_mem,decide_eq_false_iff_not] at h
  obtain⟨⟨h1,h2⟩,h3⟩:=h
  obtain⟨a,b,c,d⟩:=QS.mem h3
  refine⟨Zco.mpr ⟨h2,a⟩,by simp[b],λ i r e=>?_,λ r hr=>?_⟩
  ·cases i with
   | zero =>
    have e':Za q=Za r:=e
    cases e'
    exact⟨p,rfl,h1⟩
   | succ i=>exact c i r e
  ·rcases Z2.mp hr with rfl|hr
   ·exact⟨q,h1⟩
   ·exact d r hr
 | [],_::_,h=>by cases h
 | _::_,[],h=>by cases h
theorem Jou {K:W.Frag}{x:Str}{f:List IV->IH->Res IV}{H:Hp}{a:Zq}{ns:List Int}{qs:List Str}{ts:List Zq}(hO:Jwv ts H)(hS:SqL K H a (ns.map V.int))(hT:∀p∈ts,H p=Za (.tbl #[]))(hc:QS K qs ts=Zj)
  (hf:∃h',f [.rol (ns.map IV.int)] (qs.map IX.tab)=.ok (.bl Zj) h'):XD K x f [.ref a] H (λ v _=>v=.bl Zj) λ _ _ _=>False:=by
 intro ce
 obtain⟨h',hf⟩:=hf
 have sr:SqR K H a (ns.map V.int):=by
  rcases hS with(h|⟨o,h⟩)|h
  ·rcases hO a with z|⟨ob,xs,z⟩|⟨_,z⟩
   ·rw[z] at h;cases h
   ·rw[z] at h;cases h
   ·rw[z] at h;cases h
  ·exact .inl ⟨o,h⟩
  ·exact .inr h
 obtain⟨nd,le,at_,_⟩:=QS.mem hc
 refine⟨rfl,ts,qs.map IX.tab,[.rol (ns.map IV.int)],⟨by simp[le],nd,λ i o e=>?_⟩,⟨.ref a,[],rfl,⟨a,_,rfl,sr,RVs.ints ns⟩,rfl⟩,?_⟩
 ·rw[Zy] at e
  cases eq:qs[i]? with
  | none=>rw[eq] at e;cases e
  | some q =>
   rw[eq] at e
   cases e
   obtain⟨p,ep,hp⟩:=at_ i q eq
   exact⟨p,ep,QO.code hp,#[],hT p (ZbK ep),trivial,λ pos cv z=>by cases z⟩
 ·rw[hf]
  intro v H' ι' _ _ q
  exact q
theorem Jva {l:W.OpenLaw}{n k:Nat}{q:ZC}{loose:List Str}{XP:(Str->Option Zh)->Zar->Prop}{YP:ZU->Zar->Prop}{d:DefRec}{K:Params->W.Frag}{f:List IV->IH->Res IV}{x:Str}{qs:List Str}{ts:List Zq}
  (hn:l.most=Za n)(hn2:n<=sizeLine)(hdf:d.params.defaults=[])(hr:Room k Zfm)
  (hY:∀(w:ZU)(h:Zar),YP w h->(K w.params).In h/\∀p∈ts,h.get? p=Za (W.tabObj #[]))(hc:∀w:ZU,QS (K w.params) qs ts=Zj)
  (F:∀(w:ZU)(mg:Str->Option Zh)(fa:Zq)(h:Zar),(K w.params).In h->h.Ns Z4 mg->mg d.name=Za (.ref fa) ->
   ∃fd:ZaP,(∀(s:Zl)(u:Zh),Zdf s fd ⟨[u],[]⟩ [(x,u)]) /\
    ∀base:Zar,(K w.params).In base->base.Ns Z4 mg->Qs mg base->FnOk l.prog w (K w.params) mg base (CXI l.prog w) k fa fd [x] (XD (K w.params) x f))
  (hf:∀ns:List Int,ns.length<=n->∃h',f [.rol (ns.map IV.int)] (qs.map IX.tab)=.ok (.bl Zj) h') :
  W.WalkO q loose XP YP l.row.toRowW d [] (λ f vs=>PySem.call f vs):=by
 refine Att.attach_call hn hdf λ w s₀ s₁ mg mb fa o pm cd doc a vs ns G Y ho hd hcd hmg hobj hints hlen hg=>?_
 obtain⟨KX,hT⟩:=hY w _ Y
 obtain⟨fd,hb,hF⟩:=F w mg fa _ KX G.T.g hmg
 refine Jrb KX G.T.g G.T.b G.T.builtins G.T.nolimit hg hobj hints (Zaf hlen hn2) hr (λ p hp=>?_) G.T.bmain hF hb λ H hO hS hTt=>Jou hO hS hTt (hc w) (hf ns hlen)
 obtain⟨q,hq⟩:=(QS.mem (hc w)).2.2.2 p hp
 obtain⟨h1,c,h2⟩:=QO.some hq
 exact⟨hT p hp,((W.codeHd_of_K KX h2).tab (hT p hp)).isCodeTable,h1⟩
section
variable {α β:Type}{σ:ISt}{h:IH}
variable {Q:α->IH->Prop}{Z:Nat->IH->Prop}{N:ISt->IH->Prop}{R:IV->IH->Prop}{Y:Nat->ISt->IH->Prop}
end
theorem Jgv:∀{a b c:List Int},ltL a b=Zj->ltL b c=Zj->ltL a c=Zj
 | a::as,b::bs,c::cs,h1,h2=>by
  unfold ltL at h1 h2 ⊢
  by_cases e1:a=b
  ·rw[if_pos e1] at h1
   subst e1
   by_cases e2:a=c
   ·rw[if_pos e2] at h2 ⊢
    exact Jgv h1 h2
   ·rw[if_neg e2] at h2 ⊢
    exact h2
  ·rw[if_neg e1,decide_eq_true_eq] at h1
   by_cases e2:b=c
   ·subst e2
    rw[if_neg e1,decide_eq_true_eq]
    exact h1
   ·rw[if_neg e2,decide_eq_true_eq] at h2
    rw[if_neg (by omega),decide_eq_true_eq]
    omega
 | [],_,_,h,_=>by simp[ltL] at h
 | _::_,[],_,h,_=>by simp[ltL] at h
 | _::_,_::_,[],_,h=>by simp[ltL] at h
theorem Yg:∀a:List Int,ltL a a=Zm
 | []=>rfl
 | a::as=>by
  unfold ltL
  rw[if_pos rfl]
  exact Yg as
theorem Jt5 {as bs:List Int}(h:as.length=bs.length):ltT (.tup (as.map .int)) (.tup (bs.map .int))=Za (ltL as bs):=by
 unfold ltT
 dsimp only
 rw[QX,QX]
 dsimp only
 rw[if_pos h]
section
variable {mk:IV->IH->Res IV}{kf:IV->List Int}{i n:Nat}{ys:List IV}
theorem Je2 (hi:h0[i]?=Za (.lst ys))(hm:∀y∈ys,∀h,Ex h0 h->WR (mk y h) λ v h'=>v=.tup ((kf y).map .int)/\Ex h h')(hl:∀y∈ys,(kf y).length=n) :
  ∀(r:Nat)(b:IV)(h:IH),Ex h0 h->r<ys.length->b∈ys->(∀y∈ys.take (ys.length-r),ltL (kf y) (kf b)=Zm)->WR (QY ltT mk i ys.length r b (.tup ((kf b).map .int)) h) λ v h'=>v∈ys/\(∀y∈ys,ltL (kf y) (kf v)=Zm)/\Ex h h'
 | 0,b,h,x,_,hb,q=>by
  unfold QY
  rw[x.get hi]
  dsimp only
  rw[if_pos rfl]
  rw[Nat.sub_zero,Ze3] at q
  exact⟨hb,q,.refl _⟩
 | r+1,b,h,x,hr,hb,q=>by
  unfold QY
  rw[x.get hi]
  dsimp only
  rw[if_pos rfl]
  have hlt:ys.length-(r+1)<ys.length:=by omega
  rw[Zb hlt]
  dsimp only
  have hy:=ZB hlt
  have ht:ys.take (ys.length-r)=ys.take (ys.length-(r+1))++[ys[ys.length-(r+1)]]:=by
   rw[<- ZbR hlt,show ys.length-(r+1)+1=ys.length-r by omega]
  generalize ys[ys.length-(r+1)]=y at hy ht
  obtain⟨v,h2,e,rfl,x2⟩:=(hm y hy h x).eq
  rw[e]
  show WR (match ltT (.tup ((kf y).map .int)) (.tup ((kf b).map .int)) with|some Zj=>_|some Zm=>_|none=>_) _
  rw[Jt5 (by rw[hl y hy,hl b hb])]
  cases c:ltL (kf y) (kf b) with
  | true =>
   refine WR.mono (Je2 hi hm hl r y h2 (x.trans x2) (by omega) hy λ z hz=>?_) λ v h' ⟨a,d,g⟩=>⟨a,d,x2.trans g⟩
   rw[ht] at hz
   rcases Zah.mp hz with hz|hz
   ·cases zc:ltL (kf z) (kf y) with
    | false=>rfl
    | true=>exact absurd (Jgv zc c) (by rw[q z hz];exact Zs)
   ·rw[Z5.mp hz]
    exact Yg _
  | false =>
   refine WR.mono (Je2 hi hm hl r b h2 (x.trans x2) (by omega) hb λ z hz=>?_) λ v h' ⟨a,d,g⟩=>⟨a,d,x2.trans g⟩
   rw[ht] at hz
   rcases Zah.mp hz with hz|hz
   ·exact q z hz
   ·rw[Z5.mp hz]
    exact c
theorem Jss (hi:h[i]?=Za (.lst ys))(ne:ys≠[])(hm:∀y∈ys,∀h',Ex h h'->WR (mk y h') λ v h2=>v=.tup ((kf y).map .int)/\Ex h' h2)(hl:∀y∈ys,(kf y).length=n) :
  WR (Xv ltT mk i h) λ v h'=>v∈ys/\(∀y∈ys,ltL (kf y) (kf v)=Zm)/\Ex h h':=by
 unfold Xv
 rw[hi]
 dsimp only
 cases ys with
 | nil=>exact absurd rfl ne
 | cons y r =>
  obtain⟨v,h2,e,rfl,x2⟩:=(hm y Z0 h (.refl _)).eq
  show WR ((mk y h).nx.bind λ k h'=>QY ltT mk i (y::r).length ((y::r).length-1) y k h') _
  rw[e]
  refine WR.mono (Je2 (kf:=kf) (x2.get hi) (λ z hz h' x=>hm z hz h' (x2.trans x)) hl ((y::r).length-1) y h2 (.refl _) (by simp) Z0 λ z hz=>?_) λ v h' ⟨a,d,g⟩=>⟨a,d,x2.trans g⟩
  rw[show(y::r).length-((y::r).length-1)=1 by simp,List.take_succ_cons,List.take_zero,Z5] at hz
  rw[hz]
  exact Yg _
theorem Jza {js:List Nat}{m:E1}{Q:IV->IH->Prop}(hj:h[j]?=Za (.tab q))(hi:σ[i]?=Za (Za (.ref a))) :
  WR (Xq ltT q j js (Jb (Ja i) Jd) m σ h) Q=WR (Xv ltT (λ v h'=>m (Za v::js.map λ j=>(σ[j]?).join) h') a h) Q:=by
 have e:Jb (Ja i) Jd σ h=.ok [.ref a] h:=by
  unfold Jb Ja Jd
  rw[hi]
  rfl
 unfold Xq
 rw[e]
 show WR (match h[j]? with|some (.tab q')=>_|_=>_) Q=_
 rw[hj]
 dsimp only
 rw[if_pos rfl]
end
end L4
namespace LW
theorem Kaz {α:Sort _}{p:α->Prop}{a':α}:(∃a,a'=a/\p a)↔p a':=exists_eq_left'
theorem Kbz {α:Sort _}{p:α->Prop}{a':α}:(∃a,a=a'/\p a)↔p a':=exists_eq_left
theorem Kcz (a b:Bool):(L3.IV.bl a=L3.IV.bl b)=(a=b):=L3.IV.bl.injEq a b
theorem Kdz (a b:Int):(L3.IV.int a=L3.IV.int b)=(a=b):=L3.IV.int.injEq a b
theorem Kez (a b:Nat):(L3.IV.ref a=L3.IV.ref b)=(a=b):=L3.IV.ref.injEq a b
theorem Kfz (a b:PySem.Str):(L3.IV.str a=L3.IV.str b)=(a=b):=L3.IV.str.injEq a b
theorem Kgz (a b:List L3.IV):(L3.IV.tup a=L3.IV.tup b)=(a=b):=L3.IV.tup.injEq a b
theorem Khz (a b:List L3.IV):(L3.IX.lst a=L3.IX.lst b)=(a=b):=L3.IX.lst.injEq a b
theorem Kiz {α:Type _}(a b:α):(Za a=Za b)=(a=b):=Za3 a b
theorem Kjz:(!true)=Zm:=Zcs
theorem Kkz:(!false)=Zj:=Zcz
theorem Klz:(Zj=Zm)=False:=Zcm
theorem Kmz:(Zm=Zj)=False:=ZX
theorem Knz {α β:Type _}(a:α)(f:α->Option β):(Za a).bind f=f a:=Zc6 a f
theorem Koz (p:Prop):(True->p)=p:=true_implies p
theorem Kpz (p:Prop):(False->p)=True:=false_implies p
theorem Kqz (α:Sort _):(α->True)=True:=implies_true α
theorem Krz {α:Type _}{a b:α}{l:List α}{n:Nat}:(a::l).set (n+1) b=a::l.set n b:=Zcn
theorem Ksz {α:Type _}{a b:α}{l:List α}:(a::l).set 0 b=b::l:=Zby
theorem Ktz {α:Type _}{a:α}{l m:List α}:(a::l)++m=a::(l++m):=Za6
theorem Kuz {α:Type _}(l:List α):[]++l=l:=ZaD l
theorem Kvz {α:Type _}(l:List α):l++[]=l:=ZaC l
end LW
namespace LW
open PySem L2 L3 L4
noncomputable def top (i:Nat):ZdP:=PySem.Challenge.pw_dutyproof_k82_whole_nothing_lost.main.body.getD i (.Pass ⟨0,0,0,0⟩)
def Jct:D4:=⟨top 9,"is_whole",["thing"],["thing"],[]⟩
def Jaf:D4:=⟨top 10,"is_whole_from",["thing","least"],["thing","least"],[]⟩
def Jbu:D4:=⟨top 11,"rounds_up",["top","bottom"],["top","bottom"],[]⟩
def Jic:D4:=⟨top 18,"ready",["coming"],["coming"],[]⟩
def Jfs:D4:=⟨top 19,"due_at",["duty","coming"],["duty","coming"],[]⟩
def Jbo:D4:=⟨top 20,"is_coming",["duty","thing"],["duty","thing","work"],[]⟩
def Jaq:D4:=⟨top 21,"first_wrong",["duty","row"],["duty","row","last_come","place","coming","at"],[]⟩
def Jd9:D4:=⟨top 22,"checked",["duty","row"],["duty","row","wrong"],[]⟩
def Jeb:D4:=⟨top 29,"is_name",["thing"],["thing"],[]⟩
def Jea:D4:=⟨top 30,"is_hold",["hold","length"],["hold","length"],[]⟩
def Jbq:D4:=⟨top 31,"lie_apart",["one","other"],["one","other"],[]⟩
def Jed:D4:=⟨top 32,"lies_in",["one","other"],["one","other"],[]⟩
def Jar:D4:=⟨top 33,"go_together",["one","other"],["one","other"],[]⟩
def Jac:D4:=⟨top 34,"all_go_together",["holds"],["holds","place","hold"],[]⟩
def Jbs:D4:=⟨top 35,"own_holds",["holds","length"],["holds","length"],[]⟩
def Jee:D4:=⟨top 36,"own_due",["due","gap"],["due","gap"],[]⟩
def Qj:D4:=⟨JM (top 37) 0,"Work.__init__",["self","name","gap","length","due","late","holds"],["self","name","gap","length","due","late","holds"],[.non,.int 0,.non]⟩
def Jbn:D4:=⟨JM (top 37) 1,"Work.held",["self"],["self"],[]⟩
def Jbr:D4:=⟨top 42,"next_stop",["work","done","length"],["work","done","length"],[]⟩
def Ja1:D4:=⟨JM (top 43) 0,"Bench.__init__",["self","order","row"],["self","order","row"],[]⟩
def Jaa:D4:=⟨JM (top 43) 1,"Bench.next_ready",["self"],["self"],[]⟩
def Jai:D4:=⟨JM (top 43) 2,"Bench.let_in",["self"],["self"],[]⟩
def Jab:D4:=⟨JM (top 43) 3,"Bench.turns_for",["self","place"],["self","place","coming","done","turns"],[]⟩
def Ja2:D4:=⟨JM (top 43) 4,"Bench.tell",["self","place","until"],["self","place","until","begin"],[]⟩
def Jap:D4:=⟨JM (top 43) 5,"Bench.go_on",["self"],["self","place","turns"],[]⟩
def Jta:D4:=⟨top 44,"run",["order","row"],["order","row","bench"],[]⟩
def Jmo:D4:=⟨top 45,"ends",["order","row"],["order","row","last","stretch"],[]⟩
def Jft:D4:=⟨top 46,"missed",["order","row"],["order","row","turns"],[]⟩
def Jbt:D4:=⟨top 50,"own_works",["works"],["works"],[]⟩
def Jcs:D4:=⟨top 51,"crowd_of",["works"],["works","greatest"],[]⟩
def Jbk:D4:=⟨JM (top 52) 0,"Duty.__init__",["self","works"],["self","works"],[]⟩
def Jbl:D4:=⟨JM (top 52) 1,"Duty.size",["self"],["self"],[]⟩
def Jbm:D4:=⟨JM (top 52) 2,"Duty.work",["self","at"],["self","at"],[]⟩
def Jcm:D4:=⟨JM (top 52) 4,"Duty.crowd",["self"],["self"],[]⟩
def Ja5:D4:=⟨top 54,"full_until",["duty","by_due","begin"],["duty","by_due","begin","lengths","coming"],[]⟩
def Jcu:D4:=⟨top 55,"too_full",["duty","row"],["duty","row","by_due","begin","until"],[]⟩
def Jcr:D4:=⟨top 57,"ceilings",["duty"],["duty","found","at","hold"],[]⟩
def Jaj:D4:=⟨top 58,"refuse_holds",["duty"],["duty"],[]⟩
def Ja4:D4:=⟨JM (top 60) 0,"Order.__init__",["self","duty"],["self","duty"],[]⟩
def Jax:D4:=⟨JM (top 60) 1,"Order.rank_of",["self","coming","done"],["self","coming","done"],[]⟩
def Xm:D4:=⟨JM (top 60) 2,"Order.holds",["self","coming","done"],["self","coming","done"],[]⟩
def Xn:D4:=⟨JM (top 60) 3,"Order.pick",["self","row","waiting","dones"],["self","row","waiting","dones"],[]⟩
def Xo:D4:=⟨JM (top 60) 4,"Order.standing",["self","coming","done"],["self","coming","done"],[]⟩
def Ja3:D4:=⟨JM (top 61) 0,"ByDue.__init__",["self","duty"],["self","duty"],[]⟩
def Jae:D4:=⟨JM (top 61) 1,"ByDue.rank_of",["self","coming","done"],["self","coming","done"],[]⟩
def Jas:D4:=⟨top 63,"_law_cell_at",["_law_script","_law_k"],["_law_script","_law_k"],[]⟩
def Ja8:D4:=⟨top 64,"_law_stream",["_law_cell","_law_many"],["_law_cell","_law_many","_law_found","_law_rest","_law_k","_law_number"],[]⟩
def Ja7:D4:=⟨top 65,"_law_pieces",["_law_script","_law_unit","_law_many"],["_law_script","_law_unit","_law_many","_law_pieces_here","_law_turn","_law_cell","_law_turns"],[]⟩
def Ja6:D4:=⟨top 66,"_law_coming",["_law_pieces_here","_law_k","_law_cell","_law_unit"],["_law_pieces_here","_law_k","_law_cell","_law_unit","_law_mine","_law_first","_law_last","_law_turns","_law_xs","_law_late","_law_come","_law_due"],[]⟩
def Jbp:D4:=⟨top 67,"_law_works",["_law_comings","_law_cell"],["_law_comings","_law_cell","_law_greatest","_law_works_here","_law_k","_law_come","_law_late","_law_turns","_law_due","_law_more","_law_gap"],[]⟩
def Jec:D4:=⟨top 68,"_law_row",["_law_comings","_law_works_here","_law_again"],["_law_comings","_law_works_here","_law_again","_law_most","_law_row_here","_law_k","_law_come","_law_late","_law_turns","_law_due","_law_turn"],[]⟩
def QI:D4:=⟨top 69,"law",["_law_script"],["_law_script","_law_first","_law_second","_law_unit","_law_many","_law_pieces_here","_law_comings","_law_works_here","_law_row_here","_law_duty","_law_handed","_law_late"],[]⟩
def T:Tab where
 fns:=[(("is_whole":Str),Jct),(("is_whole_from":Str),Jaf),(("rounds_up":Str),Jbu),(("ready":Str),Jic),(("due_at":Str),Jfs),(("is_coming":Str),Jbo),(("first_wrong":Str),Jaq),(("checked":Str),Jd9),(("is_name":Str),Jeb),(("is_hold":Str),Jea),(("lie_apart":Str),Jbq),(("lies_in":Str),Jed),(("go_together":Str),Jar),(("all_go_together":Str),Jac),(("own_holds":Str),Jbs),(("own_due":Str),Jee),(("next_stop":Str),Jbr),(("run":Str),Jta),(("ends":Str),Jmo),(("missed":Str),Jft),(("own_works":Str),Jbt),(("crowd_of":Str),Jcs),(("full_until":Str),Ja5),(("too_full":Str),Jcu),(("ceilings":Str),Jcr),(("refuse_holds":Str),Jaj),(("_law_cell_at":Str),Jas),(("_law_stream":Str),Ja8),(("_law_pieces":Str),Ja7),(("_law_coming":Str),Ja6),(("_law_works":Str),Jbp),(("_law_row":Str),Jec),(("law":Str),QI)]
 clss:=[("Work",Qj),("Bench",Ja1),("Duty",Jbk),("Order",Ja4),("ByDue",Ja3)]
 meths:=[("Work",([("held",Jbn)]:List (Str×D4))),("Bench",([("next_ready",Jaa),("let_in",Jai),("turns_for",Jab),("tell",Ja2),("go_on",Jap)]:List (Str×D4))),("Duty",([("size",Jbl),("work",Jbm),("crowd",Jcm)]:List (Str×D4))),("Order",([("rank_of",Jax),("holds",Xm),("pick",Xn),("standing",Xo)]:List (Str×D4))),("ByDue",([("rank_of",Jae),("holds",Xm),("pick",Xn),("standing",Xo)]:List (Str×D4)))]
 cons:=[("MOST_COMINGS",.int 200),("AT",.int 0),("COME",.int 1),("LATE",.int 2),("LENGTH",.int 3),("MOST_LETTERS",.int 8),("MOST_HOLDS",.int 6),("THING",.int 0),("START",.int 1),("END",.int 2),("PLACE",.int 0),("FROM",.int 1),("UNTIL",.int 2),("MOST_WORKS",.int 12),("MOST_CROWD",.int 80)]
 isas:=[("Work",["Work"])]
 flds:=["append","dones","due","duty","gap","hold_tuples","late","later","length","name","order","place","pop","remove","row","setdefault","stretches","turn","waiting","works"]
 frees:=["all","bool","enumerate","int","isinstance","len","list","max","min","range","set","sorted","str","sum","tuple"]
 tabs:=["Order.pick","too_full","Bench.__init__"]
 bass:=["Order"]
abbrev pg (k:Nat):Pg:=mkPg T (run T k)
section
variable (k:Nat)(x0 x1 x2 x3 x4 x5 x6:IV)(h:IH)
abbrev Jcp:=run T k Jct
abbrev VE:=run T k Jaf
abbrev Jdk:=run T k Jbu
abbrev Xk:=run T k Jic
abbrev V0:=run T k Jfs
abbrev Jdf:=run T k Jbo
abbrev Jbh:=run T k Jaq
abbrev Jdp:=run T k Jd9
abbrev Jf7:=run T k Jeb
abbrev Jpk:=run T k Jea
abbrev Jdh:=run T k Jbq
abbrev Jdq:=run T k Jed
abbrev Jbi:=run T k Jar
abbrev Jah:=run T k Jac
abbrev XN:=run T k Jbs
abbrev XM:=run T k Jee
abbrev XL:=run T k Qj
abbrev Jde:=run T k Jbn
abbrev Jdi:=run T k Jbr
abbrev Jb6:=run T k Ja1
abbrev Jad:=run T k Jaa
abbrev Ja9:=run T k Jai
abbrev Jag:=run T k Jab
abbrev Jb7:=run T k Ja2
abbrev Jbe:=run T k Jap
abbrev Jwu:=run T k Jta
abbrev Jpj:=run T k Jmo
abbrev Jhz:=run T k Jft
abbrev Jdj:=run T k Jbt
abbrev Jeq:=run T k Jcs
abbrev Jbf:=run T k Jbk
abbrev Jdc:=run T k Jbl
abbrev Jdd:=run T k Jbm
abbrev Jb9:=run T k Ja5
abbrev Jer:=run T k Jcu
abbrev Jep:=run T k Jcr
abbrev Jba:=run T k Jaj
abbrev Jb8:=run T k Ja4
abbrev Jbg:=run T k Xm
abbrev Jaz:=run T k Xn
abbrev Jal:=run T k Xo
abbrev Jay:=run T k Ja3
abbrev Jat:=run T k Jae
abbrev Jan:=run T k Jas
abbrev Jcc:=run T k Ja8
abbrev Jcb:=run T k Ja7
abbrev Jca:=run T k Ja6
abbrev Jdg:=run T k Jbp
abbrev Jf8:=run T k Jec
abbrev Xj:=run T k QI
def Jjv (k:Nat):S1:=(Jk (eAnd (eIsi VG (Ja 0)) (eUn (X1 tru) (eIsi VF (Ja 0))) tru))
theorem Jlv:Jcp (k+1) [x0] h=(Jjv k [Za x0] h).fin:=by kernel_rfl
def Jbc:S1:=(Jk (eAnd (Jl (Jcp k) [] (Jb (Ja 0) Jd)) (Jc cGe (Ja 0) (Ja 1)) tru))
theorem Jfl:VE (k+1) [x0,x1] h=(Jbc k [Za x0,Za x1] h).fin:=by kernel_rfl
def Jd6 (k:Nat):S1:=(Jk (Jc JT (Jc Qp (Jc Jn (Ja 0) (Ja 1)) (eC (.int 1))) (Ja 1)))
theorem Jkp:Jdk (k+1) [x0,x1] h=(Jd6 k [Za x0,Za x1] h).fin:=by kernel_rfl
def Jpv (k:Nat):S1:=(Jk (Jc Jn (Jc Jg (Ja 0) (eC (.int 1))) (Jc Jg (Ja 0) (eC (.int 2)))))
theorem Jtl:Xk (k+1) [x0] h=(Jpv k [Za x0] h).fin:=by kernel_rfl
def Joh:S1:=(Jk (Jc Jn (Jc Jg (Ja 1) (eC (.int 1))) (Jm "due" (Jp (pg k) "work" 1 (Ja 0) (Jb (Jc Jg (Ja 1) (eC (.int 0))) Jd)))))
theorem Jqo:V0 (k+1) [x0,x1] h=(Joh k [Za x0,Za x1] h).fin:=by kernel_rfl
def Jaw:E1:=(Jl (Jcp k) [] (Jb (Ja 0) Jd))
def Jh5:S1:=Jf (sIf (tOrI (JD (Jh tru (eIsi VJ (Ja 1)))) (Jh asB (Jc cNe (eCB (on1 lenI) (Jb (Ja 1) Jd)) (eC (.int 4))))) (Jk (eC (.bl Zm))) Jr) (Jf (sIf (JD (Jh tru (eCB (on1 allI) (Jb (Jx (Ju (Ja 1)) 1 [] (gNm 0) J7 (Jaw k)) Jd)))) (Jk (eC (.bl Zm))) Jr) (Jf (sIf (tOrI (JD (Jh asB (JS cLe cLt (eC (.int 0)) (Jc Jg (Ja 1) (eC (.int 0))) (Jp (pg k) "size" 0 (Ja 0) Jd)))) (Jh asB (Jc cLt (Jc Jg (Ja 1) (eC (.int 1))) (eC (.int 0))))) (Jk (eC (.bl Zm))) Jr) (Jf (Jj 2 (Jp (pg k) "work" 1 (Ja 0) (Jb (Jc Jg (Ja 1) (eC (.int 0))) Jd))) (Jk (eAnd (JS cLe cLe (eC (.int 0)) (Jc Jg (Ja 1) (eC (.int 2))) (Jm "late" (Ja 2))) (JS cLe cLe (eC (.int 1)) (Jc Jg (Ja 1) (eC (.int 3))) (Jm "length" (Ja 2))) tru)))))
theorem Jkj:Jdf (k+1) [x0,x1] h=(Jh5 k [Za x0,Za x1,Zd] h).fin:=by kernel_rfl
def Jgc:S1:=Jf (Jj 2 Xp) (Jf (sFor (iRg Q7 (Jb (Ja 1) Jd)) (gTp 2 (gC (gNm 3) (gC (gNm 4) gN))) (Jf (sIf (JD (Jh tru (Jl (Jdf k) [] (Jb (Ja 0) (Jb (Ja 4) Jd))))) (Jk (Ja 3)) Jr) (Jf (Jj 5 (Jc Jg (Ja 4) (eC (.int 0)))) (Jf (sIf (QD (Jh asB (Jc cInD (Ja 5) (Ja 2))) (Jh asB (Jc cLt (Jc Qp (Jc Jg (Ja 4) (eC (.int 1))) (Jc VX (Ja 2) (Ja 5))) (Jm "gap" (Jp (pg k) "work" 1 (Ja 0) (Jb (Ja 5) Jd)))))) (Jk (Ja 3)) Jr) (sAsg (Jc Jg (Ja 4) (eC (.int 1))) (gSbD (Ja 2) (Ja 5))))))) (Jk (eC .non)))
theorem Jhg:Jbh (k+1) [x0,x1] h=(Jgc k [Za x0,Za x1,Zd,Zd,Zd,Zd] h).fin:=by kernel_rfl
def Jli:S1:=Jf (sIf (Jh asB (Jc cGt (eCB (on1 lenI) (Jb (Ja 1) Jd)) (eC (.int 200)))) stS Jr) (Jf (Jj 2 (Jl (Jbh k) [] (Jb (Ja 0) (Jb (Ja 1) Jd)))) (sIf (Jh asB (Jc VP (Ja 2) (eC .non))) stS Jr))
theorem Jol:Jdp (k+1) [x0,x1] h=(Jli k [Za x0,Za x1,Zd] h).fin:=by kernel_rfl
def Jbj (k:Nat):E1:=(JS cLe cLe (eC (.str "a")) (Ja 0) (eC (.str "z")))
def Jge:S1:=(Jk (eCB (on1 allI) (Jb (Jx (Ju (Ja 0)) 1 [] (gNm 0) J7 (Jbj k)) Jd)))
def Jgd:S1:=Jf (sIf (tOrI (JD (Jh tru (eIsi VI (Ja 0)))) (JD (Jh asB (JS cLe cLe (eC (.int 1)) (eCB (on1 lenI) (Jb (Ja 0) Jd)) (eC (.int 8)))))) (Jk (eC (.bl Zm))) Jr) (Jge k)
theorem Jom:Jf7 (k+1) [x0] h=(Jgd k [Za x0] h).fin:=by kernel_rfl
def Jd0 (k:Nat):S1:=(Jk (eOr (Jc cLe (Jc Jg (Ja 0) (eC (.int 2))) (Jc Jg (Ja 1) (eC (.int 1)))) (Jc cLe (Jc Jg (Ja 1) (eC (.int 2))) (Jc Jg (Ja 0) (eC (.int 1)))) tru))
theorem Jkl:Jdh (k+1) [x0,x1] h=(Jd0 k [Za x0,Za x1] h).fin:=by kernel_rfl
def Jgf (k:Nat):S1:=(Jk (eAnd (Jc cLe (Jc Jg (Ja 1) (eC (.int 1))) (Jc Jg (Ja 0) (eC (.int 1)))) (Jc cLe (Jc Jg (Ja 0) (eC (.int 2))) (Jc Jg (Ja 1) (eC (.int 2)))) tru))
theorem Joo:Jdq (k+1) [x0,x1] h=(Jgf k [Za x0,Za x1] h).fin:=by kernel_rfl
def Jcf:S1:=(Jk (eOr (Jl (Jdq k) [] (Jb (Ja 0) (Jb (Ja 1) Jd))) (Jl (Jdq k) [] (Jb (Ja 1) (Jb (Ja 0) Jd))) tru))
def Jce:S1:=Jf (sIf (Jh asB (Jc cEq (Jc Jg (Ja 0) (eC (.int 0))) (Jc Jg (Ja 1) (eC (.int 0))))) (Jk (eC (.bl Zm))) Jr) (Jcf k)
def Jcd:S1:=Jf (sIf (Jh tru (Jl (Jdh k) [] (Jb (Ja 0) (Jb (Ja 1) Jd)))) (Jk (eC (.bl Zj))) Jr) (Jce k)
theorem Jhh:Jbi (k+1) [x0,x1] h=(Jcd k [Za x0,Za x1] h).fin:=by kernel_rfl
def Jak:E1:=(Jl (Jbi k) [] (Jb (Ja 1) (Jb (Ja 0) Jd)))
def Jam:S1:=(sIf (JD (Jh tru (eCB (on1 allI) (Jb (Jx (Ju (eSl slI (Ja 0) Yl (V8 (Ja 1)))) 1 [2] (gNm 0) J7 (Jak k)) Jd)))) (Jk (eC (.bl Zm))) Jr)
def Jav (k:Nat):S1:=(Jk (eC (.bl Zj)))
def Jau:S1:=Jf (sFor (iRg Q7 (Jb (Ja 0) Jd)) (gTp 2 (gC (gNm 1) (gC (gNm 2) gN))) (Jam k)) (Jav k)
theorem Jei:Jah (k+1) [x0] h=(Jau k [Za x0,Zd,Zd] h).fin:=by kernel_rfl
def Jd1:S1:=Jf (sIf (Jh asB (Jc cIs (Ja 0) (eC .non))) (Jk (eTup Jd)) Jr) (Jf (sIf (JD (Jh tru (eIsi Vm (Ja 0)))) stS Jr) (Jf (sIf (Jh asB (Jc cGt (eCB (on1 lenI) (Jb (Ja 0) Jd)) (eC (.int 6)))) stS Jr) (Jf (sIf (JD (Jh tru (eCB (on1 allI) (Jb (Jx (Ju (Ja 0)) 1 [1] (gNm 0) J7 (Jl (Jpk k) [] (Jb (Ja 0) (Jb (Ja 1) Jd)))) Jd)))) stS Jr) (Jf (sIf (JD (Jh tru (Jl (Jah k) [] (Jb (Ja 0) Jd)))) stS Jr) (Jk (eCB (on1 Xc) (Jb (Jx (Ju (Ja 0)) 1 [] (gNm 0) J7 (eTup (Jb (Jc Jg (Ja 0) (eC (.int 0))) (Jb (Jc Jg (Ja 0) (eC (.int 1))) (Jb (Jc Jg (Ja 0) (eC (.int 2))) Jd))))) Jd)))))))
theorem Jkn:XN (k+1) [x0,x1] h=(Jd1 k [Za x0,Za x1] h).fin:=by kernel_rfl
def Jgi (k:Nat):S1:=(Jk (Ja 0))
def Jgh:S1:=Jf (sIf (tOrI (JD (Jh tru (Jl (VE k) [] (Jb (Ja 0) (Jb (eC (.int 1)) Jd))))) (Jh asB (Jc cGt (Ja 0) (Ja 1)))) stS Jr) (Jgi k)
def Jgg:S1:=Jf (sIf (Jh asB (Jc cIs (Ja 0) (eC .non))) (Jk (Ja 1)) Jr) (Jgh k)
theorem Jop:XM (k+1) [x0,x1] h=(Jgg k [Za x0,Za x1] h).fin:=by kernel_rfl
def Jdz:S1:=(JJ "hold_tuples" (Ja 0) (Jl (XN k) [] (Jb (Ja 6) (Jb (Ja 3) Jd))))
def Jh4:S1:=Jf (sIf (JD (Jh tru (Jl (Jf7 k) [] (Jb (Ja 1) Jd)))) stS Jr) (Jf (sIf (JD (Jh tru (Jl (VE k) [] (Jb (Ja 2) (Jb (eC (.int 1)) Jd))))) stS Jr) (Jf (sIf (JD (Jh tru (Jl (VE k) [] (Jb (Ja 3) (Jb (eC (.int 1)) Jd))))) stS Jr) (Jf (sIf (JD (Jh tru (Jl (VE k) [] (Jb (Ja 5) (Jb (eC (.int 0)) Jd))))) stS Jr) (Jf (JJ "name" (Ja 0) (Ja 1)) (Jf (JJ "gap" (Ja 0) (Ja 2)) (Jf (JJ "length" (Ja 0) (Ja 3)) (Jf (JJ "due" (Ja 0) (Jl (XM k) [] (Jb (Ja 4) (Jb (Ja 2) Jd)))) (Jf (JJ "late" (Ja 0) (Ja 5)) (Jdz k)))))))))
theorem Jki:XL (k+1) [x0,x1,x2,x3,x4,x5,x6] h=(Jh4 k [Za x0,Za x1,Za x2,Za x3,Za x4,Za x5,Za x6] h).fin:=by kernel_rfl
def Jdy (k:Nat):S1:=(Jk (eCB (on1 Vq) (Jb (Jm "hold_tuples" (Ja 0)) Jd)))
theorem Jkh:Jde (k+1) [x0] h=(Jdy k [Za x0] h).fin:=by kernel_rfl
def Jh7:S1:=(Jk (eCB (on1 VV) (Jb (Jc Jn (eLst (Jb (Ja 2) Jd)) (Jx (Ju (Jp (pg k) "held" 0 (Ja 0) Jd)) 1 [1] (gNm 0) (Jh asB (Jc cGt (Jc Jg (Ja 0) (eC (.int 2))) (Ja 1))) (Jc Jg (Ja 0) (eC (.int 2))))) Jd)))
theorem Jkm:Jdi (k+1) [x0,x1,x2] h=(Jh7 k [Za x0,Za x1,Za x2] h).fin:=by kernel_rfl
def Xl:E1:=(Jl (Xk k) [] (Jb (Jc Jg (Ja 1) (Ja 0)) Jd))
def Jcx (k:Nat):S1:=(JJ "stretches" (Ja 0) (eLst Jd))
def Jg6:S1:=Jf (JJ "order" (Ja 0) (Ja 1)) (Jf (JJ "row" (Ja 0) (Ja 2)) (Jf (JJ "dones" (Ja 0) (Jx (Ju (Ja 2)) 1 [] (gNm 0) J7 (eC (.int 0)))) (Jf (JJ "later" (Ja 0) (XY "Bench.__init__" 2 [2] (Jb (eCB (on1 lenI) (Jb (Ja 2) Jd)) Jd) (Xl k))) (Jf (JJ "waiting" (Ja 0) (eLst Jd)) (Jf (JJ "turn" (Ja 0) (eC (.int 0))) (Jcx k))))))
theorem Jih:Jb6 (k+1) [x0,x1,x2] h=(Jg6 k [Za x0,Za x1,Za x2] h).fin:=by kernel_rfl
def Jcw:S1:=(Jk (Jl (Xk k) [] (Jb (Jc Jg (Jm "row" (Ja 0)) (Jc Jg (Jm "later" (Ja 0)) (eUn Yn (eC (.int 1))))) Jd)))
theorem Jdn:Jad (k+1) [x0] h=(Jcw k [Za x0] h).fin:=by kernel_rfl
def Jby:S1:=(VY (QD (Jh asB (Jc cGt (eCB (on1 lenI) (Jb (Jm "later" (Ja 0)) Jd)) (eC (.int 0)))) (Jh asB (Jc cLe (Jp (pg k) "next_ready" 0 (Ja 0) Jd) (Jm "turn" (Ja 0))))) (JI (Jp (pg k) "append" 1 (Jm "waiting" (Ja 0)) (Jb (Jp (pg k) "pop" 0 (Jm "later" (Ja 0)) Jd) Jd))))
def Jfi:S1:=Jf (sIf (Jh asB (Jc cEq (eCB (on1 lenI) (Jb (Jm "waiting" (Ja 0)) Jd)) (eC (.int 0)))) (JJ "turn" (Ja 0) (eCB (on2 maxI) (Jb (Jm "turn" (Ja 0)) (Jb (Jp (pg k) "next_ready" 0 (Ja 0) Jd) Jd)))) Jr) (Jby k)
theorem Jgo:Ja9 (k+1) [x0] h=(Jfi k [Za x0] h).fin:=by kernel_rfl
def Jdl:S1:=Jf (Jj 2 (Jc Jg (Jm "row" (Ja 0)) (Ja 1))) (Jf (Jj 3 (Jc Jg (Jm "dones" (Ja 0)) (Ja 1))) (Jf (Jj 4 (Jc Qp (Jl (Jdi k) [] (Jb (Jp (pg k) "work" 1 (Jm "duty" (Jm "order" (Ja 0))) (Jb (Jc Jg (Ja 2) (eC (.int 0))) Jd)) (Jb (Ja 3) (Jb (Jc Jg (Ja 2) (eC (.int 3))) Jd)))) (Ja 3))) (Jf (sIf (Jh asB (Jc cGt (eCB (on1 lenI) (Jb (Jm "later" (Ja 0)) Jd)) (eC (.int 0)))) (Jj 4 (eCB (on2 minI) (Jb (Ja 4) (Jb (Jc Qp (Jp (pg k) "next_ready" 0 (Ja 0) Jd) (Jm "turn" (Ja 0))) Jd)))) Jr) (Jk (Ja 4)))))
theorem Jeh:Jag (k+1) [x0,x1] h=(Jdl k [Za x0,Za x1,Zd,Zd,Zd] h).fin:=by kernel_rfl
def Jcy:S1:=(JI (Jp (pg k) "append" 1 (Jm "stretches" (Ja 0)) (Jb (eTup (Jb (Ja 1) (Jb (Ja 3) (Jb (Ja 2) Jd)))) Jd)))
def Jg7:S1:=Jf (Jj 3 (Jm "turn" (Ja 0))) (Jf (sIf (QD (Jh asB (Jc cGt (eCB (on1 lenI) (Jb (Jm "stretches" (Ja 0)) Jd)) (eC (.int 0)))) (Jh asB (Jc cEq (Jc Jg (Jc Jg (Jm "stretches" (Ja 0)) (eUn Yn (eC (.int 1)))) (eC (.int 0))) (Ja 1)))) (Jj 3 (Jc Jg (Jp (pg k) "pop" 0 (Jm "stretches" (Ja 0)) Jd) (eC (.int 1)))) Jr) (Jcy k))
theorem Jii:Jb7 (k+1) [x0,x1,x2] h=(Jg7 k [Za x0,Za x1,Za x2,Zd] h).fin:=by kernel_rfl
def Jga:S1:=Jf (JI (Jp (pg k) "let_in" 0 (Ja 0) Jd)) (Jf (Jj 1 (Jp (pg k) "pick" 3 (Jm "order" (Ja 0)) (Jb (Jm "row" (Ja 0)) (Jb (Jm "waiting" (Ja 0)) (Jb (Jm "dones" (Ja 0)) Jd))))) (Jf (Jj 2 (Jp (pg k) "turns_for" 1 (Ja 0) (Jb (Ja 1) Jd))) (Jf (JI (Jp (pg k) "tell" 2 (Ja 0) (Jb (Ja 1) (Jb (Jc Jn (Jm "turn" (Ja 0)) (Ja 2)) Jd)))) (Jf (X9 .Add "turn" (Ja 0) (Ja 2)) (Jf (XA .Add (Jm "dones" (Ja 0)) (Ja 1) (Ja 2)) (sIf (Jh asB (Jc cEq (Jc Jg (Jm "dones" (Ja 0)) (Ja 1)) (Jc Jg (Jc Jg (Jm "row" (Ja 0)) (Ja 1)) (eC (.int 3))))) (JI (Jp (pg k) "remove" 1 (Jm "waiting" (Ja 0)) (Jb (Ja 1) Jd))) Jr))))))
theorem Jhe:Jbe (k+1) [x0] h=(Jga k [Za x0,Zd,Zd] h).fin:=by kernel_rfl
def Jw0:S1:=Jf (JI (Jl (Jdp k) [] (Jb (Jm "duty" (Ja 0)) (Jb (Ja 1) Jd)))) (Jf (Jj 2 (Q5 "Bench" (Jb6 k) [] (Jb (Ja 0) (Jb (Ja 1) Jd)))) (Jf (VY (Jh asB (Jc cGt (Jc Jn (eCB (on1 lenI) (Jb (Jm "later" (Ja 2)) Jd)) (eCB (on1 lenI) (Jb (Jm "waiting" (Ja 2)) Jd))) (eC (.int 0)))) (JI (Jp (pg k) "go_on" 0 (Ja 2) Jd))) (Jk (Jm "stretches" (Ja 2)))))
theorem Jzt:Jwu (k+1) [x0,x1] h=(Jw0 k [Za x0,Za x1,Zd] h).fin:=by kernel_rfl
def Jhr (k:Nat):E1:=(Jc VX (Ja 1) (Ja 0))
def Js3:S1:=Jf (Jj 2 Xp) (Jf (sFor (Ju (Jl (Jwu k) [] (Jb (Ja 0) (Jb (Ja 1) Jd)))) (gNm 3) (sAsg (Jc Jg (Ja 3) (eC (.int 2))) (gSbD (Ja 2) (Jc Jg (Ja 3) (eC (.int 0)))))) (Jk (Jx (iRg JZ (Jb (eCB (on1 lenI) (Jb (Ja 1) Jd)) Jd)) 1 [2] (gNm 0) J7 (Jhr k))))
theorem Jxj:Jpj (k+1) [x0,x1] h=(Js3 k [Za x0,Za x1,Zd,Zd] h).fin:=by kernel_rfl
def Jfc:T1:=(Jh asB (Jc cGt (Jc Jg (Ja 3) (Ja 0)) (Jl (V0 k) [] (Jb (Jm "duty" (Ja 2)) (Jb (Ja 1) Jd)))))
def Joi:S1:=Jf (Jj 2 (Jl (Jpj k) [] (Jb (Ja 0) (Jb (Ja 1) Jd)))) (Jk (Jx (iRg Q7 (Jb (Ja 1) Jd)) 2 [0,2] (gTp 2 (gC (gNm 0) (gC (gNm 1) gN))) (Jfc k) (Ja 0)))
theorem Jqp:Jhz (k+1) [x0,x1] h=(Joi k [Za x0,Za x1,Zd] h).fin:=by kernel_rfl
def Jcj (k:Nat):E1:=(eIsi (Jvr ["Work"]) (Ja 0))
def Jck (k:Nat):E1:=(Jm "name" (Ja 0))
def Jd5 (k:Nat):S1:=(Jk (eCB (on1 Xc) (Jb (Ja 0) Jd)))
def Jd4:S1:=Jf (sIf (Jh asB (Jc cNe (XW (Jb (Jx (Ju (Ja 0)) 1 [] (gNm 0) J7 (Jck k)) Jd)) (eCB (on1 lenI) (Jb (Ja 0) Jd)))) stS Jr) (Jd5 k)
def Jd3:S1:=Jf (sIf (JD (Jh tru (eCB (on1 allI) (Jb (Jx (Ju (Ja 0)) 1 [] (gNm 0) J7 (Jcj k)) Jd)))) stS Jr) (Jd4 k)
def Jd2:S1:=Jf (sIf (JD (Jh tru (eIsi Vm (Ja 0)))) stS Jr) (Jd3 k)
theorem Jko:Jdj (k+1) [x0] h=(Jd2 k [Za x0] h).fin:=by kernel_rfl
def Jc7 (k:Nat):E1:=(Jm "due" (Ja 0))
def Jc8:E1:=(Jl (Jdk k) [] (Jb (Jc Jn (Ja 1) (Jm "late" (Ja 0))) (Jb (Jm "gap" (Ja 0)) Jd)))
def Je7:S1:=(Jk (eCB (on1 sumI) (Jb (Jx (Ju (Ja 0)) 1 [1] (gNm 0) J7 (Jc8 k)) Jd)))
def Je6:S1:=Jf (Jj 1 (XX (Jb (Jx (Ju (Ja 0)) 1 [] (gNm 0) J7 (Jc7 k)) Jd) (eC (.int 0)))) (Je7 k)
theorem Jlu:Jeq (k+1) [x0] h=(Je6 k [Za x0,Zd] h).fin:=by kernel_rfl
def Jdv:S1:=(sIf (Jh asB (Jc cGt (Jl (Jeq k) [] (Jb (Jm "works" (Ja 0)) Jd)) (eC (.int 80)))) stS Jr)
def Jdu:S1:=Jf (sIf (Jh asB (Jc cGt (eCB (on1 lenI) (Jb (Jm "works" (Ja 0)) Jd)) (eC (.int 12)))) stS Jr) (Jdv k)
def Jdt:S1:=Jf (JJ "works" (Ja 0) (Jl (Jdj k) [] (Jb (Ja 1) Jd))) (Jdu k)
theorem Jke:Jbf (k+1) [x0,x1] h=(Jdt k [Za x0,Za x1] h).fin:=by kernel_rfl
def Jdw (k:Nat):S1:=(Jk (eCB (on1 lenI) (Jb (Jm "works" (Ja 0)) Jd)))
theorem Jkf:Jdc (k+1) [x0] h=(Jdw k [Za x0] h).fin:=by kernel_rfl
def Jdx (k:Nat):S1:=(Jk (Jc Jg (Jm "works" (Ja 0)) (Ja 1)))
theorem Jkg:Jdd (k+1) [x0,x1] h=(Jdx k [Za x0,Za x1] h).fin:=by kernel_rfl
def Jco:S1:=(sIf (Jh asB (Jc cGe (Jl (Xk k) [] (Jb (Ja 4) Jd)) (Ja 2))) (Jf (sAug .Add 3 (Jc Jg (Ja 4) (eC (.int 3)))) (sIf (Jh asB (Jc cGt (Ja 3) (Jc Qp (Jl (V0 k) [] (Jb (Ja 0) (Jb (Ja 4) Jd))) (Ja 2)))) (Jk (Jl (V0 k) [] (Jb (Ja 0) (Jb (Ja 4) Jd)))) Jr)) Jr)
def Jc5 (k:Nat):S1:=(Jk (eC .non))
def Jc4:S1:=Jf (sFor (Ju (Ja 1)) (gNm 4) (Jco k)) (Jc5 k)
def Jc3:S1:=Jf (Jj 3 (eC (.int 0))) (Jc4 k)
theorem Jim:Jb9 (k+1) [x0,x1,x2] h=(Jc3 k [Za x0,Za x1,Za x2,Zd,Zd] h).fin:=by kernel_rfl
def Jc9:E1:=(Jl (V0 k) [] (Jb (Ja 1) (Jb (Ja 0) Jd)))
def Jda:E1:=(Jl (Xk k) [] (Jb (Ja 0) Jd))
def Jek:S1:=(Jf (Jj 4 (Jl (Jb9 k) [] (Jb (Ja 0) (Jb (Ja 2) (Jb (Ja 3) Jd))))) (sIf (Jh asB (Jc VP (Ja 4) (eC .non))) (Jk (eTup (Jb (Ja 3) (Jb (Ja 4) Jd)))) Jr))
def Jfb (k:Nat):S1:=(Jk (eC .non))
def Jfa:S1:=Jf (sFor (Ju (XZ (Jb (Jx (Ju (Ja 1)) 1 [] (gNm 0) J7 (Jda k)) Jd))) (gNm 3) (Jek k)) (Jfb k)
def Je9:S1:=Jf (Jj 2 (Xr "too_full" 1 [0] (Jb (Ja 1) Jd) (Jc9 k))) (Jfa k)
def Je8:S1:=Jf (JI (Jl (Jdp k) [] (Jb (Ja 0) (Jb (Ja 1) Jd)))) (Je9 k)
theorem Jlw:Jer (k+1) [x0,x1] h=(Je8 k [Za x0,Za x1,Zd,Zd,Zd] h).fin:=by kernel_rfl
def Jej:S1:=(sFor (Ju (Jp (pg k) "held" 0 (Jp (pg k) "work" 1 (Ja 0) (Jb (Ja 2) Jd)) Jd)) (gNm 3) (JI (Jp (pg k) "setdefault" 2 (Ja 1) (Jb (Jc Jg (Ja 3) (eC (.int 0))) (Jb (Ja 2) Jd)))))
def Je5 (k:Nat):S1:=(Jk (Ja 1))
def Je4:S1:=Jf (sFor (iRg JZ (Jb (Jp (pg k) "size" 0 (Ja 0) Jd) Jd)) (gNm 2) (Jej k)) (Je5 k)
def Je3:S1:=Jf (Jj 1 Xp) (Je4 k)
theorem Jlt:Jep (k+1) [x0] h=(Je3 k [Za x0,Zd,Zd,Zd] h).fin:=by kernel_rfl
def Jbz:S1:=(sIf (Jh asB (Jc cGt (eCB (on1 Xx) (Jb (Jl (Jep k) [] (Jb (Ja 0) Jd)) Jd)) (eC (.int 0)))) stS Jr)
theorem Jgp:Jba (k+1) [x0] h=(Jbz k [Za x0] h).fin:=by kernel_rfl
def Jc1 (k:Nat):S1:=(JJ "duty" (Ja 0) (Ja 1))
theorem Jik:Jb8 (k+1) [x0,x1] h=(Jc1 k [Za x0,Za x1] h).fin:=by kernel_rfl
def Jgb (k:Nat):S1:=(Jk (eC (.bl Zm)))
theorem Jhf:Jbg (k+1) [x0,x1,x2] h=(Jgb k [Za x0,Za x1,Za x2] h).fin:=by kernel_rfl
def Jb0:E1:=(Jc Jn (Jp (pg k) "standing" 2 (Ja 3) (Jb (Jc Jg (Ja 2) (Ja 0)) (Jb (Jc Jg (Ja 1) (Ja 0)) Jd))) (eTup (Jb (Ja 0) Jd)))
def Jc2:S1:=(Jk (Xq ltT "Order.pick" 0 [3,1,0] (Jb (Ja 2) Jd) (Jb0 k)))
theorem Jil:Jaz (k+1) [x0,x1,x2,x3] h=(Jc2 k [Za x0,Za x1,Za x2,Za x3] h).fin:=by kernel_rfl
def Ja0:S1:=(Jk (eTup (Jb (Jp (pg k) "rank_of" 2 (Ja 0) (Jb (Ja 1) (Jb (Ja 2) Jd))) (Jb (eIf (Jh tru (Jp (pg k) "holds" 2 (Ja 0) (Jb (Ja 1) (Jb (Ja 2) Jd)))) (eC (.int 0)) (eC (.int 1))) Jd))))
theorem Jey:Jal (k+1) [x0,x1,x2] h=(Ja0 k [Za x0,Za x1,Za x2] h).fin:=by kernel_rfl
def Jc0:S1:=(JI (Jl (Jb8 k) [] (Jb (Ja 0) (Jb (Ja 1) Jd))))
def Jcz:S1:=Jf (JI (Jl (Jba k) [] (Jb (Ja 1) Jd))) (Jc0 k)
theorem Jij:Jay (k+1) [x0,x1] h=(Jcz k [Za x0,Za x1] h).fin:=by kernel_rfl
def Jeu:S1:=(Jk (Jl (V0 k) [] (Jb (Jm "duty" (Ja 0)) (Jb (Ja 1) Jd))))
theorem Jfk:Jat (k+1) [x0,x1,x2] h=(Jeu k [Za x0,Za x1,Za x2] h).fin:=by kernel_rfl
def Jch (k:Nat):S1:=(Jk (eC (.int 0)))
def Jcg:S1:=Jf (sIf (Jh asB (Jc cLt (Ja 1) (eCB (on1 lenI) (Jb (Ja 0) Jd)))) (Jk (Jc Jg (Ja 0) (Ja 1))) Jr) (Jch k)
theorem Jhi:Jan (k+1) [x0,x1] h=(Jcg k [Za x0,Za x1] h).fin:=by kernel_rfl
def Jha:S1:=Jf (Jj 2 (eLst Jd)) (Jf (sIf (Jh asB (Jc cGe (Ja 0) (Jc JF (eC (.int 10)) (eC (.int 30))))) (Jf (Jj 3 (Jc Qp (Ja 0) (Jc JF (eC (.int 10)) (eC (.int 30))))) (Jf (sFor (iRg JZ (Jb (Ja 1) Jd)) (gNm 4) (Jf (JI (Jp (pg k) "append" 1 (Ja 2) (Jb (Jc J2 (Ja 3) (Jc JF (eC (.int 10)) (eC (.int 45)))) Jd))) (Jj 3 (Jc JT (Ja 3) (Jc JF (eC (.int 10)) (eC (.int 45))))))) (Jk (Ja 2)))) Jr) (Jf (Jj 5 (Jc Jn (Jc J2 (Ja 0) (Jc Jn (Jc JF (eC (.int 10)) (eC (.int 18))) (eC (.int 9)))) (eC (.int 48271)))) (Jf (sFor (iRg JZ (Jb (Jc Jn (Ja 1) (eC (.int 2))) Jd)) (gNm 4) (Jf (Jj 5 (Jc J2 (Jc Jn (Jc Jn (Jc JN (Ja 5) (Ja 5)) (Jc JN (eC (.int 48271)) (Ja 5))) (Ja 4)) (Jc Jn (Jc JF (eC (.int 10)) (eC (.int 18))) (eC (.int 9))))) (JI (Jp (pg k) "append" 1 (Ja 2) (Jb (Ja 5) Jd))))) (Jk (eSl slI (Ja 2) (V8 (eC (.int 2))) Yl)))))
theorem Jip:Jcc (k+1) [x0,x1] h=(Jha k [Za x0,Za x1,Zd,Zd,Zd,Zd] h).fin:=by kernel_rfl
def Jg9:S1:=Jf (Jj 3 (eLst Jd)) (Jf (Jj 4 (Jc JN (eC (.int 4)) (Ja 1))) (Jf (sFor (Ju (eSl slI (Ja 0) (V8 (eC (.int 2))) (V8 (eC (.int 26))))) (gNm 5) (Jf (Jj 6 (Jc Jn (eC (.int 1)) (Jc J2 (Jc JT (Ja 5) (eC (.int 6))) (Ja 1)))) (Jf (sIf (Jh asB (Jc cLt (Jc J2 (Ja 5) (eC (.int 6))) (Ja 2))) (JI (Jp (pg k) "append" 1 (Ja 3) (Jb (eTup (Jb (Jc J2 (Ja 5) (eC (.int 6))) (Jb (Ja 4) (Jb (Jc Jn (Ja 4) (Ja 6)) Jd)))) Jd))) Jr) (sAug .Add 4 (Ja 6))))) (Jk (Ja 3))))
theorem Jio:Jcb (k+1) [x0,x1,x2] h=(Jg9 k [Za x0,Za x1,Za x2,Zd,Zd,Zd,Zd] h).fin:=by kernel_rfl
def Jb1 (k:Nat):E1:=(Ja 0)
def Jb2 (k:Nat):T1:=(Jh asB (Jc cEq (Jc Jg (Ja 0) (eC (.int 0))) (Ja 1)))
def Jb3 (k:Nat):E1:=(Ja 1)
def Jb4 (k:Nat):E1:=(Ja 2)
def Jb5 (k:Nat):E1:=(Jc Qp (Ja 2) (Ja 1))
def Jc6:S1:=Jf (Jj 5 (eCB (on1 VV) (Jb (Jx (Ju (Ja 4)) 3 [] (gTp 3 (gC (gNm 0) (gC (gNm 1) (gC (gNm 2) gN)))) J7 (Jb3 k)) Jd))) (Jf (Jj 6 (eCB (on1 V7) (Jb (Jx (Ju (Ja 4)) 3 [] (gTp 3 (gC (gNm 0) (gC (gNm 1) (gC (gNm 2) gN)))) J7 (Jb4 k)) Jd))) (Jf (Jj 7 (eCB (on1 sumI) (Jb (Jx (Ju (Ja 4)) 3 [] (gTp 3 (gC (gNm 0) (gC (gNm 1) (gC (gNm 2) gN)))) J7 (Jb5 k)) Jd))) (Jf (Jj 8 (Jl (Jcc k) [] (Jb (Ja 2) (Jb (eC (.int 5)) Jd)))) (Jf (Jj 9 (Jc Jg (eLst (Jb (eC (.int 0)) (Jb (Jc J2 (Jc Jg (Ja 8) (eC (.int 0))) (Jc Jn (eC (.int 1)) (Ja 3))) Jd))) (Jc J2 (Jc Jg (Ja 8) (eC (.int 1))) (eC (.int 2))))) (Jf (Jj 10 (Jc Qp (Jc Qp (Ja 5) (Ja 9)) (Jc Jg (eLst (Jb (eC (.int 0)) (Jb (Jc J2 (Jc Jg (Ja 8) (eC (.int 2))) (Jc Jn (eC (.int 1)) (Ja 3))) Jd))) (Jc J2 (Jc JT (Jc Jg (Ja 8) (eC (.int 1))) (eC (.int 2))) (eC (.int 2)))))) (Jf (Jj 11 (Jc Jn (Jc Qp (Ja 6) (Ja 10)) (Jc Jg (eLst (Jb (eC (.int 0)) (Jb (Jc J2 (Jc Jg (Ja 8) (eC (.int 3))) (Jc Jn (eC (.int 1)) (Jc JN (eC (.int 2)) (Ja 3)))) Jd))) (Jc J2 (Jc Jg (Ja 8) (eC (.int 4))) (eC (.int 2)))))) (Jk (eTup (Jb (Ja 10) (Jb (Ja 9) (Jb (Ja 7) (Jb (eCB (on2 maxI) (Jb (eC (.int 1)) (Jb (Ja 11) Jd))) Jd))))))))))))
def Jg8:S1:=Jf (Jj 4 (Jx (Ju (Ja 0)) 1 [1] (gNm 0) (Jb2 k) (Jb1 k))) (Jf (sIf (Jh asB (Jc cEq (Ja 4) (eLst Jd))) (Jj 4 (eLst (Jb (eTup (Jb (Ja 1) (Jb (Jc JN (eC (.int 4)) (Ja 3)) (Jb (Jc JN (eC (.int 4)) (Ja 3)) Jd)))) Jd))) Jr) (Jc6 k))
theorem Jin:Jca (k+1) [x0,x1,x2,x3] h=(Jg8 k [Za x0,Za x1,Za x2,Za x3,Zd,Zd,Zd,Zd,Zd,Zd,Zd,Zd] h).fin:=by kernel_rfl
def Jci (k:Nat):E1:=(Jc Jn (Ja 0) (Ja 3))
def Jh6:S1:=Jf (Jj 2 (eCB (on1 V7) (Jb (Jx (Ju (Ja 0)) 4 [] (gTp 4 (gC (gNm 0) (gC (gNm 1) (gC (gNm 2) (gC (gNm 3) gN))))) J7 (Jci k)) Jd))) (Jf (Jj 3 (eLst Jd)) (Jf (sFor (iRg JZ (Jb (eCB (on1 lenI) (Jb (Ja 0) Jd)) Jd)) (gNm 4) (Jf (sAsg (Jc Jg (Ja 0) (Ja 4)) (gTp 4 (gC (gNm 5) (gC (gNm 6) (gC (gNm 7) (gC (gNm 8) gN)))))) (Jf (Jj 9 (Jc J2 (Jc JT (Ja 1) (Jc Jn (eC (.int 3)) (Ja 4))) (eC (.int 5)))) (Jf (Jj 10 (Jc Jn (Ja 2) (Jc J2 (Jc Jn (Jc JT (Ja 1) (eC (.int 7))) (Ja 4)) (eC (.int 3))))) (JI (Jp (pg k) "append" 1 (Ja 3) (Jb (Q5 "Work" (XL k) [.non] (Jb (Jc JN (Jc Jg (eC (.str "abcde")) (Ja 4)) (Jc Jn (eC (.int 1)) (Jc J2 (Ja 1) (eC (.int 8))))) (Jb (Ja 10) (Jb (Jc Jn (eCB (on2 maxI) (Jb (eC (.int 1)) (Jb (Ja 7) Jd))) (Ja 9)) (Jb (Ja 8) (Jb (Jc Jn (Ja 6) (Ja 9)) Jd)))))) Jd))))))) (Jk (Ja 3))))
theorem Jkk:Jdg (k+1) [x0,x1] h=(Jh6 k [Za x0,Za x1,Zd,Zd,Zd,Zd,Zd,Zd,Zd,Zd,Zd] h).fin:=by kernel_rfl
def Jd7 (k:Nat):E1:=(Jm "gap" (Ja 0))
def Jlj:S1:=Jf (Jj 3 (eCB (on1 V7) (Jb (Jx (Ju (Ja 1)) 1 [] (gNm 0) J7 (Jd7 k)) Jd))) (Jf (Jj 4 (eLst Jd)) (Jf (sFor (iRg JZ (Jb (eCB (on1 lenI) (Jb (Ja 0) Jd)) Jd)) (gNm 5) (Jf (sAsg (Jc Jg (Ja 0) (Ja 5)) (gTp 4 (gC (gNm 6) (gC (gNm 7) (gC (gNm 8) (gC (gNm 9) gN)))))) (sFor (iRg JZ (Jb (Jc Jn (eC (.int 1)) (Ja 2)) Jd)) (gNm 10) (sIf (Jh asB (Jc cGt (Ja 8) (eC (.int 0)))) (JI (Jp (pg k) "append" 1 (Ja 4) (Jb (eTup (Jb (Ja 5) (Jb (Jc Jn (Ja 6) (Jc JN (Ja 10) (Ja 3))) (Jb (Ja 7) (Jb (Ja 8) Jd))))) Jd))) Jr)))) (Jk (Ja 4))))
theorem Jon:Jf8 (k+1) [x0,x1,x2] h=(Jlj k [Za x0,Za x1,Za x2,Zd,Zd,Zd,Zd,Zd,Zd,Zd,Zd] h).fin:=by kernel_rfl
def Jgj:E1:=(Jl (Jca k) [] (Jb (Ja 1) (Jb (Ja 0) (Jb (Jc Jn (Jc JT (Ja 2) (eC (.int 5))) (Jc JN (eC (.int 1009)) (Ja 0))) (Jb (Ja 3) Jd)))))
def Jj1 (k:Nat):T1:=(Jh asB (Jc cEq (Jc J2 (Jc Jg (Ja 0) (eC (.int 0))) (eC (.int 2))) (eC (.int 1))))
def Jj2 (k:Nat):T1:=(Jh asB (Jc cEq (Jc J2 (Jc Jg (Ja 0) (eC (.int 0))) (eC (.int 2))) (eC (.int 0))))
def Jpu:S1:=Jf (Jj 9 (Q5 "Duty" (Jbf k) [] (Jb (Ja 7) Jd))) (Jf (Jj 10 (eCB (on1 Vq) (Jb (Ja 8) Jd))) (Jf (Jj 11 (Jl (Jhz k) [] (Jb (Q5 "ByDue" (Jay k) [] (Jb (Ja 9) Jd)) (Jb (Ja 10) Jd)))) (Jk (eAnd (Jc cEq (Ja 11) (eLst Jd)) (eAnd (Jc cEq (Ja 10) (Ja 8)) (Jc cIs (Jl (Jer k) [] (Jb (Ja 9) (Jb (Ja 8) Jd))) (eC .non)) tru) tru))))
def Jwz:S1:=Jf (Jj 1 (Jl (Jan k) [] (Jb (Ja 0) (Jb (eC (.int 0)) Jd)))) (Jf (Jj 2 (Jl (Jan k) [] (Jb (Ja 0) (Jb (eC (.int 1)) Jd)))) (Jf (Jj 3 (Jc Jn (eC (.int 1)) (Jc J2 (Jc JT (Ja 1) (eC (.int 3))) (Jc Jg (eLst (Jb (eC (.int 4)) (Jb (Jc JF (eC (.int 10)) (eC (.int 15))) (Jb (Jc JF (eC (.int 10)) (eC (.int 40))) Jd)))) (Jc J2 (Ja 1) (eC (.int 3))))))) (Jf (Jj 4 (Jc Jn (eC (.int 1)) (Jc J2 (Ja 2) (eC (.int 5))))) (Jf (Jj 5 (Jl (Jcb k) [] (Jb (Ja 0) (Jb (Ja 3) (Jb (Ja 4) Jd))))) (Jf (Jj 6 (Jx (iRg JZ (Jb (Ja 4) Jd)) 1 [5,2,3] (gNm 0) J7 (Jgj k))) (Jf (Jj 7 (Jl (Jdg k) [] (Jb (Ja 6) (Jb (Jc J2 (Jc JT (Ja 2) (eC (.int 3))) (eC (.int 1000003))) Jd)))) (Jf (Jj 8 (Jl (Jf8 k) [] (Jb (Ja 6) (Jb (Ja 7) (Jb (Jc J2 (Jc JT (Ja 1) (eC (.int 7))) (eC (.int 3))) Jd))))) (Jf (sIf (Jh asB (Jc cEq (Jc J2 (Jc JT (Ja 2) (eC (.int 11))) (eC (.int 2))) (eC (.int 1)))) (Jj 8 (Jc Jn (Jx (Ju (Ja 8)) 1 [] (gNm 0) (Jj1 k) (Ja 0)) (Jx (Ju (Ja 8)) 1 [] (gNm 0) (Jj2 k) (Ja 0)))) Jr) (Jpu k)))))))))
theorem Jzs:Xj (k+1) [x0] h=(Jwz k [Za x0,Zd,Zd,Zd,Zd,Zd,Zd,Zd,Zd,Zd,Zd,Zd] h).fin:=by kernel_rfl
end
theorem Jfe (k:Nat):JR (pg k) "held" 0 "Work"=Za (Jde k,[]):=by kernel_rfl
theorem Jdm (k:Nat):JR (pg k) "next_ready" 0 "Bench"=Za (Jad k,[]):=by kernel_rfl
theorem Jgk (k:Nat):JR (pg k) "let_in" 0 "Bench"=Za (Ja9 k,[]):=by kernel_rfl
theorem Jef (k:Nat):JR (pg k) "turns_for" 1 "Bench"=Za (Jag k,[]):=by kernel_rfl
theorem Jid (k:Nat):JR (pg k) "tell" 2 "Bench"=Za (Jb7 k,[]):=by kernel_rfl
theorem Jhc (k:Nat):JR (pg k) "go_on" 0 "Bench"=Za (Jbe k,[]):=by kernel_rfl
theorem Jfd (k:Nat):JR (pg k) "size" 0 "Duty"=Za (Jdc k,[]):=by kernel_rfl
theorem Jcn (k:Nat):JR (pg k) "work" 1 "Duty"=Za (Jdd k,[]):=by kernel_rfl
theorem Jfj (k:Nat):JR (pg k) "rank_of" 2 "ByDue"=Za (Jat k,[]):=by kernel_rfl
theorem Jhd (k:Nat):JR (pg k) "holds" 2 "ByDue"=Za (Jbg k,[]):=by kernel_rfl
theorem Jie (k:Nat):JR (pg k) "pick" 3 "ByDue"=Za (Jaz k,[]):=by kernel_rfl
theorem Jew (k:Nat):JR (pg k) "standing" 2 "ByDue"=Za (Jal k,[]):=by kernel_rfl
end LW
section
open PySem L2 L3 L4
local macro_rules | `(tactic| simp! [$xs,*]) => `(tactic| simp (implicitDefEqProofs := Zm) only [YA, Y9, Jjt, YB, Y7, YC, Jju, Y6, VD, Joa, Y8, Job, XI, JY, Js, Xe, Qa, Ya, Jtg, Vf, Jvq, Jnu, Jvo, Jvh, Y4, Jn9, Jjq, Jjr, Yw, Jji, Jf3, Y5, Y0, Jjj, VC, Jvc, Vg, Jnx, Jf5, Jf6, Y3, Yz, Yv, Jn8, Jn4, Y2, Yx, Y1, Vz, Jjh, Jvl, Jvj, Jvg, Jvf, Jve, Jvm, Jnw, Jn5, Jnv, Jjs, Jn6, Yy, Jvn, Qy, Vy, Xf, Jjp, Jnz, Jn1, Jn0, Jn7, Jf4, Zcn, Zby, ZaC, Za6, ZaD, exists_eq_left, exists_eq_left', IV.bl.injEq, IV.int.injEq, IV.ref.injEq, IV.str.injEq, IX.lst.injEq, IV.tup.injEq, Za3, Zcs, Zcz, reduceCtorEq, eq_self, true_implies, false_implies, implies_true, and_true, true_and, and_false, false_and, Zc6, Zcm, ZX, Jno, Jjd, Jnp, Ju8, Jnm, Jnn, VG, VF, VI, Vm, VH, VJ, XH, Jn2, Qi, QT, Vn, VM, Js2, Jjo, Jjm, Jjn, $xs,*])
local macro_rules | `(tactic| simp_all! [$xs,*]) => `(tactic| try simp (implicitDefEqProofs := Zm) only [YA, Y9, Jjt, YB, Y7, YC, Jju, Y6, VD, Joa, Y8, Job, XI, JY, Js, Xe, Qa, Ya, Jtg, Vf, Jvq, Jnu, Jvo, Jvh, Y4, Jn9, Jjq, Jjr, Yw, Jji, Jf3, Y5, Y0, Jjj, VC, Jvc, Vg, Jnx, Jf5, Jf6, Y3, Yz, Yv, Jn8, Jn4, Y2, Yx, Y1, Vz, Jjh, Jvl, Jvj, Jvg, Jvf, Jve, Jvm, Jnw, Jn5, Jnv, Jjs, Jn6, Yy, Jvn, Qy, Vy, Xf, Jjp, Jnz, Jn1, Jn0, Jn7, Jf4, Zcn, Zby, ZaC, Za6, ZaD, exists_eq_left, exists_eq_left', IV.bl.injEq, IV.int.injEq, IV.ref.injEq, IV.str.injEq, IX.lst.injEq, IV.tup.injEq, Za3, Zcs, Zcz, reduceCtorEq, eq_self, true_implies, false_implies, implies_true, and_true, true_and, and_false, false_and, Zc6, Zcm, ZX, Jno, Jjd, Jnp, Ju8, Jnm, Jnn, VG, VF, VI, Vm, VH, VJ, XH, Jn2, Qi, QT, Vn, VM, Js2, Jjo, Jjm, Jjn, $xs,*])
local macro_rules | `(tactic| dsimp! [$xs,*]) => `(tactic| simp (implicitDefEqProofs := Zm) only [YA, Y9, Jjt, YB, Y7, YC, Jju, Y6, VD, Joa, Y8, Job, XI, JY, Js, Xe, Qa, Ya, Jtg, Vf, Jvq, Jnu, Jvo, Jvh, Y4, Jn9, Jjq, Jjr, Yw, Jji, Jf3, Y5, Y0, Jjj, VC, Jvc, Vg, Jnx, Jf5, Jf6, Y3, Yz, Yv, Jn8, Jn4, Y2, Yx, Y1, Vz, Jjh, Jvl, Jvj, Jvg, Jvf, Jve, Jvm, Jnw, Jn5, Jnv, Jjs, Jn6, Yy, Jvn, Qy, Vy, Xf, Jjp, Jnz, Jn1, Jn0, Jn7, Jf4, Zcn, Zby, ZaC, Za6, ZaD, $xs,*])
namespace LW
open PySem L2 L3 L4
section
variable {k:Nat}{h:IH}
theorem J9:1000000<sizeLine:=by decide
theorem XB (o o':IX):List.set (h++[o]) h.length o'=h++[o']:=by
 rw[Zdt _ _ (Zr _),Zdo];rfl
theorem Ji8 (o o':IX)(g:IH):List.set (h++o::g) h.length o'=h++o'::g:=by
 rw[Zdt _ _ (Zr _),Zdo];rfl
end
section
seal L4.run
section
variable {α β:Type}{σ:ISt}{h h1:IH}{N:ISt->IH->Prop}{R:IV->IH->Prop}{P:IV->IH->Prop}
theorem xb {f:α->IH->Res β}(x:WR r λ a h=>WR (f a h) Q):WR (r.bind f) Q:=(Js ..).mpr x
theorem xseq (x:WS (a σ h) (λ σ1 h1=>WS (b σ1 h1) N R) R):WS (Jf a b σ h) N R:=(YA ..).mpr x
theorem xfin {r:SRes}(x:WS r (λ _ h=>P .non h) P):WR r.fin P:=(Yy ..).mpr x
theorem xset (x:WR (e σ h) λ v h1=>N (σ.set i (Za v)) h1):WS (Jj i e σ h) N R:=(YB ..).mpr x
theorem xret (x:WR (e σ h) R):WS (Jk e σ h) N R:=(YC ..).mpr x
theorem QH {e:E1}(x:WR (e σ h) λ _ h1=>N σ h1):WS (JI e σ h) N R:=(Y6 ..).mpr x
theorem xif (x:WR (t σ h) λ c h1=>(c=Zj->WS (a σ h1) N R)/\(c=Zm->WS (b σ h1) N R)):WS (sIf t a b σ h) N R:=(Y7 ..).mpr x
theorem J17 (x:WR (a σ h) λ c h1=>(c=Zj->WR (b σ h1) Q)/\(c=Zm->Q Zm h1)):WR (QD a b σ h) Q:=(Y4 ..).mpr x
theorem xdec [Decidable p](x:p->a)(y:¬p->b):(decide p=Zj->a)/\(decide p=Zm->b):=⟨λ e=>x (of_decide_eq_true e),λ e=>y (of_decide_eq_false e)⟩
theorem J4d (x:N σ h):WS (.next σ h) N R:=x
theorem xnil (x:N σ h):WS (Jr σ h) N R:=x
theorem xok (x:Q a h):WR (.ok a h) Q:=x
theorem xtup (x:WR (a σ h) λ xs h1=>xs.length<=sizeLine/\P (.tup xs) h1):WR (eTup a σ h) P:=(Y5 ..).mpr x
theorem xlst (x:WR (a σ h) λ xs h1=>xs.length<=sizeLine/\P (.ref h1.length) (h1++[.lst xs])):WR (eLst a σ h) P:=(Y0 ..).mpr x
theorem xixl (g:h[i]?=Za (.lst xs))(e:atI xs n=Za x)(q:P x h):WR (Jg (.ref i) (.int n) h) P:=(Jsr ..).mpr ⟨_,g,_,e,q⟩
theorem xixt (e:atI xs n=Za x)(q:P x h):WR (Jg (.tup xs) (.int n) h) P:=(XH ..).mpr ⟨_,e,q⟩
theorem J4c (g:h[i]?=Za (.lst xs))(q:P (.int xs.length) h):WR (lenI (.ref i) h) P:=(Jst ..).mpr ⟨_,g,q⟩
theorem xmod (l:0<j)(q:P (.int (i%j)) h):WR (J2 (.int i) (.int j) h) P:=(Y1 ..).mpr ⟨l,q⟩
theorem J4b (l:0<j/\j.natAbs.log2<9000)(q:P (.int (i/j)) h):WR (JT (.int i) (.int j) h) P:=(Yx ..).mpr ⟨l,q⟩
theorem xmul (l:QR i j)(q:P (.int (i*j)) h):WR (JN (.int i) (.int j) h) P:=(Y2 ..).mpr ⟨l,q⟩
theorem fldE (ho:o σ h=.ok (.ref i) h1)(g:h1[i]?=Za (.ins c fs))(l:fs.lookup f=Za x):Jm f o σ h=.ok x h1:=by
 refine Jq ?_
 rw[Yz,ho]
 exact⟨x,(JW g).trans l,rfl,rfl⟩
theorem binE (ea:a σ h=.ok x h1)(eb:b σ h1=.ok y h2):Jc f a b σ h=f x y h2:=by unfold Jc;rw[ea];dsimp only[Res.bind];rw[eb]
theorem arg1 (ea:a σ h=.ok x h1):Jb a Jd σ h=.ok [x] h1:=by unfold Jb;rw[ea];rfl
theorem arg2 (ea:a σ h=.ok x h1)(eb:b σ h1=.ok y h2):Jb a (Jb b Jd) σ h=.ok [x,y] h2:=by unfold Jb;rw[ea];dsimp only[Res.bind];rw[eb];rfl
theorem cbE (ea:a σ h=.ok xs h1):eCB f a σ h=f xs h1:=by unfold eCB;rw[ea];rfl
theorem Qd (ea:a σ h=.ok xs h1)(ef:f (xs++d) h1=.ok v h2):Jl f d a σ h=.ok v h2:=by unfold Jl;rw[ea];exact ef
theorem tofE (ea:a σ h=.ok (.bl c) h1):Jh asB a σ h=.ok c h1:=by unfold Jh;rw[ea];rfl
theorem lenE (ea:a σ h=.ok (.ref i) h1)(g:h1[i]?=Za (.lst xs)):eCB (on1 lenI) (Jb a Jd) σ h=.ok (.int xs.length) h1:=by
 rw[cbE (arg1 ea)]
 exact Jq (J4c g ⟨rfl,rfl⟩)
theorem ixlE (ea:a σ h=.ok (.ref i) h1)(eb:b σ h1=.ok (.int n) h2)(g:h2[i]?=Za (.lst xs))(e:atI xs n=Za x):Jc Jg a b σ h=.ok x h2:=by
 rw[binE ea eb]
 exact Jq (xixl g e ⟨rfl,rfl⟩)
theorem ixtE (ea:a σ h=.ok (.tup xs) h1)(eb:b σ h1=.ok (.int n) h2)(e:atI xs n=Za x):Jc Jg a b σ h=.ok x h2:=by
 rw[binE ea eb]
 exact Jq (xixt e ⟨rfl,rfl⟩)
theorem gtE (ea:a σ h=.ok (.int i) h1)(eb:b σ h1=.ok (.int j) h2):Jh asB (Jc cGt a b) σ h=.ok (decide (j<i)) h2:=tofE (binE ea eb)
theorem leE (ea:a σ h=.ok (.int i) h1)(eb:b σ h1=.ok (.int j) h2):Jh asB (Jc cLe a b) σ h=.ok (decide (i<=j)) h2:=tofE (binE ea eb)
theorem ltE (ea:a σ h=.ok (.int i) h1)(eb:b σ h1=.ok (.int j) h2):Jh asB (Jc cLt a b) σ h=.ok (decide (i<j)) h2:=tofE (binE ea eb)
theorem geE (ea:a σ h=.ok (.int i) h1)(eb:b σ h1=.ok (.int j) h2):Jh asB (Jc cGe a b) σ h=.ok (decide (j<=i)) h2:=tofE (binE ea eb)
theorem eqE (ea:a σ h=.ok (.int i) h1)(eb:b σ h1=.ok (.int j) h2):Jh asB (Jc cEq a b) σ h=.ok (decide (i=j)) h2:=tofE (binE ea eb)
theorem addE (ea:a σ h=.ok (.int i) h1)(eb:b σ h1=.ok (.int j) h2):Jc Jn a b σ h=.ok (.int (i+j)) h2:=binE ea eb
theorem subE (ea:a σ h=.ok (.int i) h1)(eb:b σ h1=.ok (.int j) h2):Jc Qp a b σ h=.ok (.int (i-j)) h2:=binE ea eb
theorem arg3 (ea:a σ h=.ok x h1)(eb:b σ h1=.ok y h2)(ec:c σ h2=.ok z h3):Jb a (Jb b (Jb c Jd)) σ h=.ok [x,y,z] h3:=by
 rw[show Jb a (Jb b (Jb c Jd)) σ h=(a σ h).bind λ x h1=>(Jb b (Jb c Jd) σ h1).bind λ xs h2=>.ok (x::xs) h2 from rfl,ea]
 show(Jb b (Jb c Jd) σ h1).bind _=_
 rw[arg2 eb ec]
 rfl
theorem arg4 (ea:a σ h=.ok x h1)(eb:b σ h1=.ok y h2)(ec:c σ h2=.ok z h3)(ed:d σ h3=.ok u h4):Jb a (Jb b (Jb c (Jb d Jd))) σ h=.ok [x,y,z,u] h4:=by
 rw[show Jb a (Jb b (Jb c (Jb d Jd))) σ h=(a σ h).bind λ x h1=>(Jb b (Jb c (Jb d Jd)) σ h1).bind λ xs h2=>.ok (x::xs) h2 from rfl,ea]
 show(Jb b (Jb c (Jb d Jd)) σ h1).bind _=_
 rw[arg3 eb ec ed]
 rfl
theorem modE (ea:a σ h=.ok (.int i) h1)(eb:b σ h1=.ok (.int j) h2)(l:0<j):Jc J2 a b σ h=.ok (.int (i%j)) h2:=(binE ea eb).trans (Jq (xmod l ⟨rfl,rfl⟩))
theorem QW (ea:a σ h=.ok (.int i) h1)(eb:b σ h1=.ok (.int j) h2)(l:0<j)(z:j.natAbs.log2<9000):Jc JT a b σ h=.ok (.int (i/j)) h2:=(binE ea eb).trans (Jq (J4b ⟨l,z⟩ ⟨rfl,rfl⟩))
theorem mulE (ea:a σ h=.ok (.int i) h1)(eb:b σ h1=.ok (.int j) h2)(l:QR i j):Jc JN a b σ h=.ok (.int (i*j)) h2:=(binE ea eb).trans (Jq (xmul l ⟨rfl,rfl⟩))
theorem lstE (ea:a σ h=.ok xs h1)(l:Nat.ble xs.length 1000=Zj):eLst a σ h=.ok (.ref h1.length) (h1++[.lst xs]):=Jq (xlst (Je ea ⟨Zaf (ZeX l) (Zaf (by decide) (Zb2 J9)),rfl,rfl⟩))
theorem tupE (ea:a σ h=.ok xs h1)(l:Nat.ble xs.length 1000=Zj):eTup a σ h=.ok (.tup xs) h1:=Jq (xtup (Je ea ⟨Zaf (ZeX l) (Zaf (by decide) (Zb2 J9)),rfl,rfl⟩))
theorem pkE (ea:a σ h=.ok xs h1)(l:Nat.ble xs.length 1000=Zj)(eb:b σ (h1++[.lst xs])=.ok (.int n) (h1++[.lst xs]))(e:atI xs n=Za x):Jc Jg (eLst a) b σ h=.ok x (h1++[.lst xs]):=ixlE (lstE ea l) eb grown e
theorem maxE (ea:a σ h=.ok (.int i) h1)(eb:b σ h1=.ok (.int j) h2):eCB (on2 maxI) (Jb a (Jb b Jd)) σ h=.ok (.int (if j>i then j else i)) h2:=cbE (arg2 ea eb)
theorem minE (ea:a σ h=.ok (.int i) h1)(eb:b σ h1=.ok (.int j) h2):eCB (on2 minI) (Jb a (Jb b Jd)) σ h=.ok (.int (if j<i then j else i)) h2:=cbE (arg2 ea eb)
theorem dotE {Pg:Pg}{m c:Str}{n i:Nat}{o:E1}{a:A1}{fs:List (Str×IV)}{f:List IV->IH->Res IV}{d xs:List IV}{h2 h3:IH}{v:IV}(e:o σ h=.ok (.ref i) h1)(hi:h1[i]?=Za (.ins c fs))(hf:fs.lookup m=Zd)(hd:JR Pg m n c=Za (f,d))(ha:a σ h1=.ok xs h2)(hx:f (.ref i::(xs++d)) h2=.ok v h3):Jp Pg m n o a σ h=.ok v h3:=by
 refine Jq ((Xd e hi hf hd).mpr (Je ha (Je hx ⟨rfl,rfl⟩)))
theorem xifd [Decidable p](e:t σ h=.ok (decide p) h1)(x:p->WS (a σ h1) N R)(y:¬p->WS (b σ h1) N R):WS (sIf t a b σ h) N R:=xif (Je e (xdec x y))
theorem xiff (e:t σ h=.ok Zm h1)(x:WS (b σ h1) N R):WS (sIf t a b σ h) N R:=xif (Je e ⟨(λ z=>by cases z),λ _=>x⟩)
theorem xnx (e:r=.next σ1 h1)(x:N σ1 h1):WS r N R:=by rw[e];exact x
theorem xfor (x:WR (it σ h) λ J h1=>WS (JU J.chk g b J.xs σ h1) N R):WS (sFor it g b σ h) N R:=(XI ..).mpr x
theorem okc {α:Type}{r:Res α}{c d:α}(e:r=.ok c h)(q:c=d):r=.ok d h:=q▸e
theorem notE (e:a σ h=.ok c h1):JD a σ h=.ok (!c) h1:=by unfold JD;rw[e];rfl
theorem truE (e:a σ h=.ok (.bl c) h1):Jh tru a σ h=.ok c h1:=by unfold Jh;rw[e];rfl
theorem orF (e:a σ h=.ok Zm h1)(eb:b σ h1=r):tOrI a b σ h=r:=by unfold tOrI;rw[e];exact eb
theorem andT (e:a σ h=.ok Zj h1)(eb:b σ h1=r):QD a b σ h=r:=by unfold QD;rw[e];exact eb
theorem andF (e:a σ h=.ok Zm h1):QD a b σ h=.ok Zm h1:=by unfold QD;rw[e];rfl
theorem Jxb (e:a σ h=.ok (.bl Zj) h1)(eb:b σ h1=r):eAnd a b tru σ h=r:=by unfold eAnd;rw[e];exact eb
theorem chT (ea:a σ h=.ok (.int i) h1)(eb:b σ h1=.ok (.int j) h2)(ec:c σ h2=.ok (.int l) h3)(t1:i<=j)(t2:j<l):JS cLe cLt a b c σ h=.ok (.bl Zj) h3:=by
 unfold JS
 rw[ea]
 dsimp only[Res.bind]
 rw[eb]
 show(match IV.bl (decide (i<=j)) with|.bl Zj=>_|.bl Zm=>_|_=>_)=_
 rw[decide_eq_true t1]
 show(c σ h2).bind _=_
 rw[ec]
 show Res.ok (IV.bl (decide (j<l))) h3=_
 rw[decide_eq_true t2]
theorem xrng {e:E1}{g:G1}{b:S1}{n:Nat}(ee:e σ h=.ok (.int (n:Int)) h1)(l:n<1000000)(x:WS (JU (λ _=>True) g b (rngI 0 (n:Int)) σ h1) N R):WS (sFor (iRg JZ (Jb e Jd)) g b σ h) N R:=by
 rw[XI,Vy]
 refine Je (arg1 ee) ?_
 rw[Xf]
 exact⟨by omega,x⟩
theorem J23 (ea:a σ h=.ok (.ref i) h1)(g:h1[i]?=Za (.lst xs)):eCB (on1 Vq) (Jb a Jd) σ h=.ok (.ref h1.length) (h1++[.lst xs]):=by
 rw[cbE (arg1 ea)]
 exact Jq ((Jvk ..).mpr ⟨_,g,rfl,rfl⟩)
theorem Vi (ev:e σ h=.ok v h1)(eo:o σ h1=.ok (.ref i) h1)(g:h1[i]?=Za (.ins c fs))(l:fs.length<1000)(q:N σ (h1.set i (.ins c (putI f v fs)))):WS (JJ f o e σ h) N R:=by
 rw[Xg]
 exact Je ev (Je eo ⟨i,c,fs,rfl,g,l,q⟩)
theorem J39 (eo:o σ h=.ok (.ref i) h1)(g:h1[i]?=Za (.ins c fs))(l:fs.lookup f=Za (.int a))(ee:e σ h1=.ok (.int b) h2)(g2:h2[i]?=Za (.ins c gs))(z:gs.length<1000)(q:N σ (h2.set i (.ins c (putI f (.int (a+b)) gs)))):WS (X9 .Add f o e σ h) N R:=by
 unfold X9
 rw[eo]
 simp only[rS,g,l,ee,L4.ipI,g2,z,if_true]
 exact q
theorem J4a (eo:o σ h=.ok (.ref i) h1)(ek:k σ h1=.ok (.int n) h2)(g:h2[i]?=Za (.lst xs))(ea:atI xs n=Za (.int a))(n0:0<=n)(ee:e σ h2=.ok (.int b) h3)(g3:h3[i]?=Za (.lst ys))(ej:ixN ys.length n=Za j)(q:N σ (h3.set i (.lst (ys.set j (.int (a+b)))))):WS (XA .Add o k e σ h) N R:=by
 unfold XA
 rw[eo]
 simp only[rS,ek,ixL,g,ea,n0,if_true,ee,L4.ipI,setI,g3,ej]
 exact q
theorem XJ {Pg:Pg}{m c:Str}{n i:Nat}{o:E1}{a:A1}{fs:List (Str×IV)}{f:List IV->IH->Res IV}{d:List IV}(e:o σ h=.ok (.ref i) h1)(hi:h1[i]?=Za (.ins c fs))(hf:fs.lookup m=Zd)(hd:JR Pg m n c=Za (f,d))(x:WR (a σ h1) λ vs h2=>WR (f (.ref i::(vs++d)) h2) P):WR (Jp Pg m n o a σ h) P:=(Xd e hi hf hd).mpr x
theorem Vh {Pg:Pg}{m:Str}{n i:Nat}{o:E1}{a:A1}{xs:List IV}{g:IV->List IV->IH->Res IV}(e:o σ h=.ok (.ref i) h1)(hl:h1[i]?=Za (.lst xs))(hg:bmOf "list" m n=Za g)(x:WR (a σ h1) λ vs h2=>WR (g (.ref i) vs h2) P):WR (Jp Pg m n o a σ h) P:=(Jy7 e hl hg).mpr x
theorem xapp (g:h[i]?=Za (.lst xs))(l:xs.length<sizeLine)(q:P .non (h.set i (.lst (xs++[y])))):WR (VL (.ref i) [y] h) P:=(Jsq ..).mpr ⟨_,g,l,q⟩
theorem xpop (g:h[i]?=Za (.lst xs))(l:xs[xs.length-1]?=Za y)(q:P y (h.set i (.lst xs.dropLast))):WR (X4 (.ref i) [] h) P:=by
 have e:V6 (.ref i) h=Za (i,xs):=by unfold V6;simp only[g]
 unfold X4
 rw[e]
 dsimp only
 rw[l]
 exact q
theorem xrem {i j:Nat}{k:Int}{ns:List Int}(g:h[i]?=Za (.lst (ns.map .int)))(l:ns.findIdx? (· ==k)=Za j)(q:P .non (h.set i (.lst ((ns.map IV.int).eraseIdx j)))):WR (X6 (.ref i) [.int k] h) P:=by
 have e:V6 (.ref i) h=Za (i,ns.map .int):=by unfold V6;simp only[g]
 unfold X6
 rw[e]
 dsimp only
 rw[QX]
 dsimp only
 rw[l]
 exact q
theorem Jpw:bmOf "list" "pop" 0=Za X4:=by kernel_rfl
theorem Jpx:bmOf "list" "remove" 1=Za X6:=by kernel_rfl
end
end
section
variable {k:Nat}{h:IH}
theorem Jp1 (ns:List Int)(n:Int)(hn:0<=n):Jan (k+1) [.rol (ns.map .int),.int n] h=.ok (.int (ns.getD n.toNat 0)) h:=by
 refine Jq ?_
 rw[Jhi]
 simp! [Jcg,Jch,Zn,decide_eq_true_eq,decide_eq_false_iff_not]
 refine⟨λ hl=>⟨.int (ns.getD n.toNat 0),Jps hn ?_,rfl⟩,λ hl=>?_⟩
 ·rw[Zy,Zg,Zb (show n.toNat<ns.length by omega)]
  rfl
 ·rw[Zg,Zay (by omega)]
  rfl
end
section
seal L4.run
section
variable {k:Nat}{h:IH}
theorem Jff (i:Int):Jcp (k+1) [.int i] h=.ok (.bl Zj) h:=by rw[Jlv];rfl
theorem Jhy (i j:Int):VE (k+2) [.int i,.int j] h=.ok (.bl (decide (j<=i))) h:=by
 refine Jq ?_
 rw[Jfl]
 simp! [Jbc,Jff]
def IsNm (x:Str):Prop:=1<=x.length/\x.length<=8/\∀c∈x.cps.toList,97<=c/\c<=122
theorem J2c:(ZaO "a").cps.toList=[97]:=by decide +kernel
theorem J4e:(ZaO "z").cps.toList=[122]:=by decide +kernel
theorem Jyq (hc:97<=c/\c<=122):Jbj k [Za (.str ⟨#[c]⟩)] h=.ok (.bl Zj) h:=by
 refine Jq ?_
 have h1:¬([c]<[97]):=λ q=>by
  cases q with
  | rel q=>omega
  | cons q=>cases q
 have h2:¬([122]<[c]):=λ q=>by
  cases q with
  | rel q=>omega
  | cons q=>cases q
 simp only[Jbj,Yw,Qa,Ya,Xe,J14,J2c,J4e,h1,h2,decide_false,exists_eq_left,exists_eq_left',IV.bl.injEq,IV.int.injEq,IV.ref.injEq,IV.str.injEq,IX.lst.injEq,IV.tup.injEq,Za3,Zcs,Zcz,reduceCtorEq,eq_self,true_implies,false_implies,implies_true,and_true,true_and,and_false,false_and,Zc6,Zcm,ZX,Jno,Jjd,Jnp,Ju8,Jnm,Jnn,VG,VF,VI,Vm,VH,VJ,XH,Jn2,Qi,QT,Vn,VM,Js2,Jjo,Jjm,Jjn]
theorem Jot (hx:IsNm x):WR (Jf7 (k+1) [.str x] h) λ v h'=>v=.bl Zj/\Ex h h':=by
 obtain⟨h1,h2,h3⟩:=hx
 have hb:=J9
 have hz:x.length<=sizeLine:=by omega
 have a1:(1:Int)<=x.length:=by omega
 have a2:(x.length:Int)<=8:=by omega
 rw[Jom]
 simp! [Jgd,Jge,hz,a1,a2,decide_true]
 refine WR.mono (QQ (xs:=Vb x) (chk:=λ _=>True) (f:=λ _=>.bl Zj) (h:=h) ?_ ?_ (λ _ _=>trivial) ?_) ?_
 ·exact⟨rfl,rfl,rfl⟩
 ·have:(Vb x).length=x.length:=by simp[Vb,Str.length]
  omega
 ·intro v hv h2 _
  obtain⟨c,hc,rfl⟩:=ZD.mp hv
  exact Je (Jyq (h3 c hc)) ⟨rfl,.refl _⟩
 ·rintro v h' ⟨rfl,g,rfl⟩
  refine Je (all_map (f:=λ _=>Zj) Jz) ⟨?_,.cons ..⟩
  simp
abbrev Hd:=Str×Int×Int
def tupH (a:Hd):IV:=.tup [.str a.1,.int a.2.1,.int a.2.2]
def HdOk (len:Int)(a:Hd):Prop:=IsNm a.1/\0<=a.2.1/\a.2.1<a.2.2/\a.2.2<len
def Tog (a b:Hd):Prop:=a.2.2<=b.2.1∨b.2.2<=a.2.1∨(a.1≠b.1/\((b.2.1<=a.2.1/\a.2.2<=b.2.2)∨(a.2.1<=b.2.1/\b.2.2<=a.2.2)))
theorem Jks (a b:Hd):Jdh (k+1) [tupH a,tupH b] h=.ok (.bl (decide (a.2.2<=b.2.1)||decide (b.2.2<=a.2.1))) h:=by
 refine Jq ?_
 rw[Jkl]
 simp! [Jd0,tupH]
 cases decide (a.2.2<=b.2.1)<;>simp
theorem Jov (a b:Hd):Jdq (k+1) [tupH a,tupH b] h=.ok (.bl (decide (b.2.1<=a.2.1)&&decide (a.2.2<=b.2.2))) h:=by
 refine Jq ?_
 rw[Joo]
 simp! [Jgf,tupH]
 cases decide (b.2.1<=a.2.1)<;>simp
theorem Jhj (t:Tog a b):Jbi (k+2) [tupH a,tupH b] h=.ok (.bl Zj) h:=by
 refine Jq ?_
 rw[Jhh]
 have ix:∀a:Hd,WR (Jg (tupH a) (.int 0) h)=λ P=>P (.str a.1) h:=λ a=>by
  funext P
  simp only[tupH,XH,exists_eq_left,exists_eq_left',IV.bl.injEq,IV.int.injEq,IV.ref.injEq,IV.str.injEq,IX.lst.injEq,IV.tup.injEq,Za3,Zcs,Zcz,reduceCtorEq,eq_self,true_implies,false_implies,implies_true,and_true,true_and,and_false,false_and,Zc6,Zcm,ZX,Jno,Jjd,Jnp,Ju8,Jnm,Jnn,VG,VF,VI,Vm,VH,VJ,XH,Jn2,Qi,QT,Vn,VM,Js2,Jjo,Jjm,Jjn]
 simp! [Jcd,Jce,Jcf,Jks,Jov,ix]
 unfold Tog at t
 simp only[ZaE,Zd5,Zp,Bool.and_eq_false_iff,decide_eq_true_eq,decide_eq_false_iff_not]
 grind
theorem Jy0 {hs:List Hd}{i:Nat}(hi:h[i]?=Za (.lst (hs.map tupH)))(hl:hs.length<=6)(ht:∀m n (hm:m<n)(hn:n<hs.length),Tog hs[n] hs[m]) :
  WR (Jah (k+3) [.ref i] h) λ v h'=>v=.bl Zj/\Ex h h':=by
 have hb:=J9
 rw[Jei]
 simp! [Jau,Jav,Jmg,hi]
 refine QG (λ n σ h'=>(∃a b,σ=[Za (.ref i),a,b])/\Ex h h') (λ n σ h' ⟨_,x⟩=>x.get hi) ?_ ?_ ⟨⟨_,_,rfl⟩,.refl h⟩
 ·rintro n hn _ h' ⟨⟨a,b,rfl⟩,x⟩
  have hn':n<hs.length:=by rw[VR,Zn] at hn;exact hn
  rw[Jqk]
  simp! [Zam,J16,J35,J36,ZN,Zbm,Jam]
  have hi':=x.get hi
  refine WR.mono (QQ (xs:=(hs.map tupH).take n) (chk:=λ h2=>h2[h'.length]?=Za (.lst ((hs.map tupH).take n))) (f:=λ _=>.bl Zj) (h:=h'++[.lst ((hs.map tupH).take n)]) ?_ ?_ ?_ ?_) ?_
  ·simp! [Jwt,hi',Qb,Js9,grown]
  ·simp only[Zc3,Zn];omega
  ·exact λ h2 q=>q _ _ grown
  ·intro v hv h2 q
   obtain⟨j,hj,rfl⟩:=ZF.mp hv
   have hj':j<n:=by simp at hj;omega
   simp! [List.getElem_take,Zam,Jak,Z7,Zb5,Zbd,Zbe,Zc7]
   exact Je (Jhj (ht j n hj' hn')) ⟨rfl,.refl _⟩
  ·rintro v h3 ⟨rfl,g,rfl⟩
   refine Je (all_map (f:=λ _=>Zj) Jz) ?_
   have:(((hs.map tupH).take n).all λ _=>Zj)=Zj:=by simp
   simp! [this]
   exact⟨⟨_,_,rfl⟩,x.trans ((Ex.one _ _).trans (.cons ..))⟩
 ·rintro _ h' ⟨⟨a,b,rfl⟩,x⟩
  exact x
theorem Jiv (len:Int):XN (k+1) [.non,.int len] h=.ok (.tup []) h:=by
 refine Jq ?_
 rw[Jkn]
 simp! [Jd1,J13,isI,Zbm,ZK]
structure HsOk (len:Int)(hs:List Hd):Prop where
 few:hs.length<=6
 each:∀a∈hs,HdOk len a
 tog:∀m n (hm:m<n)(hn:n<hs.length),Tog hs[n] hs[m]
theorem Jo3 (h1:1<=due)(h2:due<=gap):XM (k+3) [.int due,.int gap] h=.ok (.int due) h:=by
 refine Jq ?_
 rw[Jop]
 have:¬gap<due:=by omega
 simp! [Jgg,Jgh,Jgi,J13,isI,Jhy,decide_eq_true h1,decide_eq_false this]
def wfs (name:Str)(gap len due late:Int)(hs:List IV):List (Str×IV):=[("name",.str name),("gap",.int gap),("length",.int len),("due",.int due),("late",.int late),("hold_tuples",.tup hs)]
section
variable (a b c d e f:IV)
theorem put0:putI "name" a ([]:List (Str×IV))=([("name",a)]:List (Str×IV)):=by kernel_rfl
theorem put1:putI "gap" b ([("name",a)]:List (Str×IV))=([("name",a),("gap",b)]:List (Str×IV)):=by kernel_rfl
theorem put2:putI "length" c ([("name",a),("gap",b)]:List (Str×IV))=([("name",a),("gap",b),("length",c)]:List (Str×IV)):=by kernel_rfl
theorem put3:putI "due" d ([("name",a),("gap",b),("length",c)]:List (Str×IV))=([("name",a),("gap",b),("length",c),("due",d)]:List (Str×IV)):=by kernel_rfl
theorem put4:putI "late" e ([("name",a),("gap",b),("length",c),("due",d)]:List (Str×IV))=([("name",a),("gap",b),("length",c),("due",d),("late",e)]:List (Str×IV)):=by kernel_rfl
theorem put5:putI "hold_tuples" f ([("name",a),("gap",b),("length",c),("due",d),("late",e)]:List (Str×IV))=([("name",a),("gap",b),("length",c),("due",d),("late",e),("hold_tuples",f)]:List (Str×IV)):=by kernel_rfl
variable {name:Str}{gap len due late:Int}{hs:List IV}
theorem fl0:(wfs name gap len due late hs).lookup ("name":Str)=Za (.str name):=by kernel_rfl
theorem fl1:(wfs name gap len due late hs).lookup ("gap":Str)=Za (.int gap):=by kernel_rfl
theorem fl2:(wfs name gap len due late hs).lookup ("length":Str)=Za (.int len):=by kernel_rfl
theorem fl3:(wfs name gap len due late hs).lookup ("due":Str)=Za (.int due):=by kernel_rfl
theorem fl4:(wfs name gap len due late hs).lookup ("late":Str)=Za (.int late):=by kernel_rfl
theorem fl5:(wfs name gap len due late hs).lookup ("hold_tuples":Str)=Za (.tup hs):=by kernel_rfl
theorem flh:(wfs name gap len due late hs).lookup ("held":Str)=Zd:=by kernel_rfl
end
theorem Jsn {gap len due late:Int}{dv hv:IV}{hs:List IV}(hw:h[w]?=Za (.ins "Work" []))(hn:IsNm name)(hg:1<=gap)(hl:1<=len)(ht:0<=late) 
  (hd:∀h1,XM (k+4) [dv,.int gap] h1=.ok (.int due) h1)(hh:∀h1:IH,(∀(j:Nat)(o:IX),j≠w->h[j]?=Za o->h1[j]?=Za o)->WR (XN (k+4) [hv,.int len] h1) λ v h2=>v=.tup hs/\Ex h1 h2) :
  WR (XL (k+5) [.ref w,.str name,.int gap,.int len,dv,.int late,hv] h) λ v h'=>v=.non/\∃g,h'=h.set w (.ins "Work" (wfs name gap len due late hs))++g:=by
 rw[Jki]
 refine xfin (xseq (xif (xb (xb (xb (Je (arg1 rfl) (WR.mono (Jot hn) ?_)))))))
 rintro v h1 ⟨rfl,g1,rfl⟩
 have lw:=J8 hw
 have s1:∀{o:IX},(h++g1).set w o=h.set w o++g1:=by intro o;rw[Za8 (h:=lw)]
 have at1:∀{o:IX},(h.set w o++g1)[w]?=Za o:=by
  intro o
  rw[ZH (by rw[ZbB];exact lw),ZZ lw]
 have s2:∀{o o':IX},(h.set w o++g1).set w o'=h.set w o'++g1:=by intro o o';rw[Za8 (h:=by rw[ZbB];exact lw),ZeI]
 have ok:∀{σ:ISt}{e1 e2:E1}{a b:Int}{hh:IH},e1 σ hh=.ok (.int a) hh->e2 σ hh=.ok (.int b) hh->b<=a->JD (Jh tru (Jl (VE (k+4)) [] (Jb e1 (Jb e2 Jd)))) σ hh=.ok Zm hh:=λ h1 h2 l=>okc (notE (truE (Qd (arg2 h1 h2) (Jhy _ _)))) (by rw[decide_eq_true l];rfl)
 refine Je rfl (Je rfl ⟨(λ z=>by cases z),λ _=>xnil (xseq (xiff (ok rfl rfl hg) (xnil (xseq (xiff (ok rfl rfl hl) (xnil (xseq (xiff (ok rfl rfl ht) (xnil (xseq (Vi rfl rfl (grow hw) (by decide) ?_)))))))))))⟩)
 rw[s1,put0]
 refine xseq (Vi rfl rfl at1 (by show(1:Nat)<1000;decide) ?_)
 rw[s2,put1]
 refine xseq (Vi rfl rfl at1 (by show(2:Nat)<1000;decide) ?_)
 rw[s2,put2]
 refine xseq (Vi (Qd (arg2 rfl rfl) (hd _)) rfl at1 (by show(3:Nat)<1000;decide) ?_)
 rw[s2,put3]
 refine xseq (Vi rfl rfl at1 (by show(4:Nat)<1000;decide) ?_)
 rw[s2,put4]
 unfold Jdz
 rw[Xg]
 refine xb (Je (arg2 rfl rfl) (WR.mono (hh _ λ j o hj e=>?_) ?_))
 ·refine grow ?_
  rw[Zad (ZO hj)]
  exact e
 ·rintro v h2 ⟨rfl,g2,rfl⟩
  refine Je rfl ⟨w,_,_,rfl,grow at1,by show(5:Nat)<1000;decide,rfl,g1++g2,?_⟩
  rw[Za8 (h:=J8 at1),s2,put5,Zag]
  rfl
theorem Jxy {gap len due late:Int}{dv hv:IV}{hs:List IV}(hn:IsNm name)(hg:1<=gap)(hl:1<=len)(ht:0<=late) 
  (hd:∀h1,XM (k+4) [dv,.int gap] h1=.ok (.int due) h1)(hh:∀h1:IH,(∀(j:Nat)(o:IX),h[j]?=Za o->h1[j]?=Za o)->WR (XN (k+4) [hv,.int len] h1) λ v h2=>v=.tup hs/\Ex h1 h2) :
  WR (XL (k+5) [.ref h.length,.str name,.int gap,.int len,dv,.int late,hv] (h++[.ins "Work" []])) λ v h'=>v=.non/\∃g,h'=h++.ins "Work" (wfs name gap len due late hs)::g:=by
 refine WR.mono (Jsn grown hn hg hl ht hd λ h1 q=>hh h1 λ j o e=>q j o (by have:=J8 e;omega) (grow e)) ?_
 rintro v h' ⟨rfl,g,rfl⟩
 exact⟨rfl,g,by rw[XB];simp⟩
end
end
section
variable {k:Nat}{h:IH}
theorem Jlg (hw:h[w]?=Za (.ins "Work" (wfs name gap len due late hs))):Jde (k+1) [.ref w] h=.ok (.ref h.length) (h++[.lst hs]):=by
 refine Jq ?_
 rw[Jkh]
 simp! [Jdy,JW hw,fl5]
end
structure WD where
 name:Str
 gap:Int
 len:Int
 due:Int
 late:Int
def IsW (h:IH)(v:IV)(d:WD):Prop:=∃i hs,v=.ref i/\h[i]?=Za (.ins "Work" (wfs d.name d.gap d.len d.due d.late hs))
theorem IsW.kp (k:Kp h h')(w:IsW h v d):IsW h' v d:=by
 obtain⟨i,hs,e,q⟩:=w
 exact⟨i,hs,e,k _ _ q⟩
structure AllW (h:IH)(vs:List IV)(ds:List WD):Prop where
 len:vs.length=ds.length
 at_:∀(i:Nat) v d,vs[i]?=Za v->ds[i]?=Za d->IsW h v d
theorem AllW.kp (k:Kp h h')(w:AllW h vs ds):AllW h' vs ds:=⟨w.len,λ i v d a b=>(w.at_ i v d a b).kp k⟩
theorem AllW.of (w:AllW h vs ds)(hv:v∈vs):∃d∈ds,IsW h v d:=by
 obtain⟨i,hi,rfl⟩:=ZF.mp hv
 have hi':i<ds.length:=by rw[<- w.len];exact hi
 exact⟨ds[i],ZB hi',w.at_ i _ _ (Zb hi) (Zb hi')⟩
def fOf (f:Str)(h:IH)(v:IV):IV:=(V4 f v h).getD .non
theorem AllW.mapF (w:AllW h vs ds){F:IV->IV}{g:WD->IV}(hf:∀(i:Nat) (d:WD) hs,h[i]?=Za (.ins "Work" (wfs d.name d.gap d.len d.due d.late hs))->F (.ref i)=g d):vs.map F=ds.map g:=by
 refine Zb9 λ i=>?_
 rw[Zy,Zy]
 by_cases hi:i<vs.length
 ·have hi':i<ds.length:=by rw[<- w.len];exact hi
  rw[Zb hi,Zb hi']
  obtain⟨j,hs,e,q⟩:=w.at_ i _ _ (Zb hi) (Zb hi')
  simp only[ZcN,Za3]
  rw[e,hf j _ hs q]
 ·have hi':¬i<ds.length:=by rw[<- w.len];exact hi
  rw[Zay (by omega),Zay (by omega)]
  rfl
section
variable {k:Nat}{h:IH}
theorem Juf:Jvr ["Work"] (.ins "Work")=Za Zj:=by kernel_rfl
theorem Jkv {vs:List IV}{ds:List WD}{i:Nat}(hi:h[i]?=Za (.lst vs))(w:AllW h vs ds)(nd:(ds.map (·.name)).Nodup)(hl:ds.length<=20) :
  WR (Jdj (k+1) [.ref i] h) λ v h'=>v=.tup vs/\Ex h h':=by
 have hb:=J9
 have wl:=w.len
 rw[Jko]
 simp! [Jd2,Jd3,J1y hi]
 refine WR.mono (QQ (h:=h) (xs:=vs) (chk:=λ h'=>h'[i]?=Za (.lst vs)) (f:=λ _=>.bl Zj) ?_ (by omega) (λ h2 q=>q _ _ hi) ?_) ?_
 ·simp! [Qb,hi]
 ·intro v hv h2 q
  obtain⟨d,_,j,hs,rfl,e⟩:=w.of hv
  have ty:tyI (.ref j) h2=Za (.ins "Work"):=by simp[tyI,q _ _ e]
  simp! [Jcj,ty,Juf]
  exact .refl _
 ·rintro _ _ ⟨rfl,g,rfl⟩
  have x1:Ex h (h++IX.lst (vs.map λ _=>.bl Zj)::g):=.cons _ _ _
  rw[all_map (f:=λ _=>Zj) Jz]
  generalize h++IX.lst (vs.map λ _=>.bl Zj)::g=h1 at x1
  have at1:(vs.all λ _=>Zj)=Zj:=by simp
  simp! [at1,Jd4,Jsu]
  have w1:=w.kp x1.kp
  have nm:=w1.mapF (F:=fOf "name" h1) (g:=λ d=>.str d.name) λ j d hs e=>by rw[fOf,JW e,fl0];rfl
  refine WR.mono (QQ (h:=h1) (xs:=vs) (chk:=λ h'=>h'[i]?=Za (.lst vs)) (f:=fOf "name" h1) ?_ (by omega) (λ h2 q=>q _ _ (x1.get hi)) ?_) ?_
  ·simp! [Qb,x1.get hi]
  ·intro v hv h2 q
   obtain⟨d,_,j,hs,rfl,e⟩:=w1.of hv
   simp! [Jck,JW (q _ _ e),fl0,fOf,JW e,Zbz]
   exact .refl _
  ·rintro _ _ ⟨rfl,g2,rfl⟩
   rw[nm]
   have em:ds.map (λ d=>IV.str d.name)=(ds.map (·.name)).map IV.str:=by simp
   rw[em]
   have x2:Ex h1 (h1++IX.lst ((ds.map (·.name)).map IV.str)::g2):=.cons _ _ _
   refine⟨_,rfl,_,Jz,ds.map (·.name),Jne _,by rw[Zn];unfold Zb8;omega,?_⟩
   rw[Jj5 nd _ (Zr _)]
   simp! [Jst,x2.get (x1.get hi),Zn,wl,decide_true,Jd5,Jzc]
   exact x1.trans x2
def rup (top bottom:Int):Int:=(top+bottom-1)/bottom
def topD (ds:List WD):Int:=if ds.map (·.due)=[] then 0 else JG (λ i=>(ds.map (·.due)).getD i 0) (ds.map (·.due)).length
def Jmn (ds:List WD):Int:=(ds.map λ d=>rup (topD ds+d.late) d.gap).sum
def rOf (T:Int)(h:IH)(v:IV):IV:=match V4 "late" v h,V4 "gap" v h with
 | some (.int l),Za (.int g)=>.int (rup (T+l) g)
 | _,_=>.non
theorem Jrw (hb:0<b)(hl:b.natAbs.log2<9000):Jdk (k+1) [.int a,.int b] h=.ok (.int (rup a b)) h:=by
 refine Jq ?_
 rw[Jkp]
 simp! [Jd6,hb,hl,rup]
theorem Js7 (w:AllW h vs ds)(hl:ds.length<=20)(hg:∀d∈ds,0<d.gap/\d.gap.natAbs.log2<9000) :
  WR (Jeq (k+2) [.tup vs] h) λ v h'=>v=.int (Jmn ds)/\Ex h h':=by
 have hb:=J9
 have wl:=w.len
 rw[Jlu]
 simp! [Je6,Jy9]
 have dm:=w.mapF (F:=fOf "due" h) (g:=λ d=>.int d.due) λ j d hs e=>by rw[fOf,JW e,fl3];rfl
 refine WR.mono (QQ (h:=h) (xs:=vs) (chk:=λ _=>True) (f:=fOf "due" h) ?_ (by omega) (λ _ _=>trivial) ?_) ?_
 ·simp! [true_and]
 ·intro v hv h2 q
  obtain⟨d,_,j,hs,rfl,e⟩:=w.of hv
  simp! [Jc7,JW (q _ _ e),fl3,fOf,JW e,Zbz]
  exact .refl _
 ·rintro _ _ ⟨rfl,g,rfl⟩
  rw[dm]
  have em:ds.map (λ d=>IV.int d.due)=(ds.map (·.due)).map IV.int:=by simp
  rw[em]
  have x1:Ex h (h++IX.lst ((ds.map (·.due)).map IV.int)::g):=.cons _ _ _
  refine⟨_,rfl,_,Jz,_,QX _,?_⟩
  have et:maxD (ds.map (·.due)) (.int 0)=.int (topD ds):=by
   unfold maxD topD
   split<;>rfl
  rw[et]
  generalize h++IX.lst ((ds.map (·.due)).map IV.int)::g=h1 at x1
  have w1:=w.kp x1.kp
  simp! [Je7]
  have rm:=w1.mapF (F:=rOf (topD ds) h1) (g:=λ d=>.int (rup (topD ds+d.late) d.gap)) λ j d hs e=>by rw[rOf,JW e,JW e,fl4,fl1]
  refine WR.mono (QQ (h:=h1) (xs:=vs) (chk:=λ _=>True) (f:=rOf (topD ds) h1) ?_ (by omega) (λ _ _=>trivial) ?_) ?_
  ·simp! [true_and]
  ·intro v hv h2 q
   obtain⟨d,hd,j,hs,rfl,e⟩:=w1.of hv
   have e2:=q _ _ e
   simp only[Z7,Zb5,Zbd,Zbe,Zc7]
   simp! [Jc8,JW e2,fl4,fl1,Jrw (hg d hd).1 (hg d hd).2]
   exact⟨by rw[rOf,JW e,JW e,fl4,fl1],.refl _⟩
  ·rintro _ _ ⟨rfl,g2,rfl⟩
   rw[rm]
   have em2:ds.map (λ d=>IV.int (rup (topD ds+d.late) d.gap))=(ds.map λ d=>rup (topD ds+d.late) d.gap).map IV.int:=by simp
   rw[em2]
   simp! [Jsx,Jz,QX]
   exact⟨rfl,x1.trans (.cons _ _ _)⟩
abbrev dfs (vs:List IV):List (Str×IV):=[("works",.tup vs)]
theorem dp0:putI "works" a ([]:List (Str×IV))=([("works",a)]:List (Str×IV)):=by kernel_rfl
theorem dl0:(([("works",a)]:List (Str×IV))).lookup ("works":Str)=Za a:=by kernel_rfl
theorem dlw:(([("works",a)]:List (Str×IV))).lookup ("work":Str)=Zd:=by kernel_rfl
theorem Jqf {vs:List IV}{ds:List WD}{i:Nat}(hi:h[i]?=Za (.lst vs))(w:AllW h vs ds)(nd:(ds.map (·.name)).Nodup)(hl:ds.length<=12)(hg:∀d∈ds,0<d.gap/\d.gap.natAbs.log2<9000)(hc:Jmn ds<=80) :
  WR (Jbf (k+3) [.ref h.length,.ref i] (h++[.ins "Duty" []])) λ v h'=>v=.non/\∃g,h'=h++.ins "Duty" (dfs vs)::g:=by
 have wl:=w.len
 rw[Jke]
 simp! [Jdt,Xg]
 refine WR.mono (Jkv (grow hi) (w.kp (Ex.one h _).kp) nd (by omega)) ?_
 rintro _ _ ⟨rfl,g1,rfl⟩
 refine⟨_,_,_,rfl,grow grown,by decide,?_⟩
 rw[dp0,Zag,Za6,ZaD,Ji8]
 simp! [Jdu,JW (Jz (h:=h)),dl0,wl]
 refine⟨λ q=>?_,λ _=>?_⟩
 ·rw[decide_eq_true_eq] at q
  omega
 simp! [Jdv,JW (Jz (h:=h)),dl0]
 refine WR.mono (Js7 (w.kp (Ex.cons h _ _).kp) (by omega) hg) ?_
 rintro _ _ ⟨rfl,g2,rfl⟩
 simp! [true_and]
 refine⟨λ q=>?_,λ _=>⟨g1++g2,by simp⟩⟩
 rw[decide_eq_true_eq] at q
 omega
theorem Jgl (hD:h[D]?=Za (.ins "Duty" (dfs vs)))(hx:atI vs n=Za x):Jdd (k+1) [.ref D,.int n] h=.ok x h:=by
 refine Jq ?_
 rw[Jkg]
 simp! [Jdx,JW hD,dl0,hx]
end
theorem J09 (hb:0<b)(h:a<=m*b):rup a b<=m:=by
 unfold rup
 have:(a+b-1)/b<m+1:=by
  rw[Int.ediv_lt_iff_lt_mul hb,Zd8]
  omega
 omega
theorem Jwj (m:Int):∀l:List Int,(∀x∈l,x<=m)->l.sum<=l.length*m
 | [],_=>by simp
 | x::l,q=>by
  have:=Jwj m l λ y hy=>q y (Zi _ hy)
  have:=q x (Z0 ..)
  rw[Zaw,ZN,ZeO,Zd8]
  simp
  omega
theorem Jmu {a b K:Nat}(h:a<=b)(hb:b.log2<K):a.log2<K:=by
 by_cases ha:a=0
 ·subst ha
  exact ZdZ (ZK _) hb
 ·have hb0:b≠0:=by omega
  rw[Nat.log2_lt ha]
  exact ZdZ h ((Nat.log2_lt hb0).mp hb)
abbrev RH:=WD×List Hd
def rd:RH:=⟨⟨⟨#[]⟩,0,0,0,0⟩,[]⟩
abbrev wo (r:RH):IX:=.ins "Work" (wfs r.1.name r.1.gap r.1.len r.1.due r.1.late (r.2.map tupH))
structure AllH (h:IH)(vs:List IV)(rs:List RH):Prop where
 len:vs.length=rs.length
 at_:∀(i:Nat) v r,vs[i]?=Za v->rs[i]?=Za r->∃j,v=.ref j/\h[j]?=Za (wo r)
theorem AllH.kp (k:Kp h h')(w:AllH h vs rs):AllH h' vs rs:=⟨w.len,λ i v r a b=>let ⟨j,e,g⟩:=w.at_ i v r a b;⟨j,e,k _ _ g⟩⟩
theorem AllH.w {h:IH}{vs:List IV}{rs:List RH}(w:AllH h vs rs):AllW h vs (rs.map (·.1)):=by
 refine⟨by rw[Zn];exact w.len,λ i v d a b=>?_⟩
 rw[Zy] at b
 cases er:rs[i]? with
 | none=>rw[er] at b;cases b
 | some r =>
  rw[er] at b
  cases b
  obtain⟨j,e,g⟩:=w.at_ i v r a er
  exact⟨j,_,e,g⟩
theorem AllH.get (w:AllH h vs rs){n:Nat}(e:rs[n]?=Za r):∃j,vs[n]?=Za (.ref j)/\h[j]?=Za (wo r):=by
 have hn:n<vs.length:=by rw[w.len];exact(Zt.mp e).1
 obtain⟨j,e1,g⟩:=w.at_ n _ r (Zb hn) e
 exact⟨j,by rw[Zb hn,e1],g⟩
structure F8 (unit:Int)(r:RH):Prop where
 nm:IsNm r.1.name
 g1:unit<=r.1.gap
 g2:r.1.gap<9*unit
 l1:1<=r.1.len
 d1:1<=r.1.due
 d2:r.1.due<=r.1.gap
 t1:0<=r.1.late
 t2:r.1.late<2*r.1.gap
 ok:HsOk r.1.len r.2
structure Gd (unit:Int)(rs:List RH):Prop where
 u1:1<=unit
 u2:unit<=10^45
 few:rs.length<=7
 f:∀r∈rs,F8 unit r
 nd:(rs.map λ r=>r.1.name).Nodup
theorem Jzl {unit:Int}{rs:List RH}(G:Gd unit rs):Jmn (rs.map (·.1))<=80:=by
 have hu:=G.u1
 have hf:=G.f
 have hl:=G.few
 have ht:topD (rs.map (·.1))<=9*unit:=by
  unfold topD
  split
  ·omega
  ·rename_i hne
   refine Jnk _ _ _ (by rw[Zn,Zn];cases rs with|nil=>exact absurd rfl hne|cons _ _=>simp) λ j hj=>?_
   rw[Zn,Zn] at hj
   have e:((rs.map (·.1)).map (·.due)).getD j 0=(rs[j]).1.due:=by
    rw[Zg,Zy,Zy,Zb hj];rfl
   have f:=hf _ (ZB hj)
   have f1:=f.d2
   have f2:=f.g2
   show((rs.map (·.1)).map (·.due)).getD j 0<=_
   rw[e]
   omega
 have:=Jwj 11 ((rs.map (·.1)).map λ d=>rup (topD (rs.map (·.1))+d.late) d.gap) λ x hx=>by
  obtain⟨d,hd,rfl⟩:=ZD.mp hx
  obtain⟨r,hr,rfl⟩:=ZD.mp hd
  have f:=hf r hr
  have f1:=f.g1
  have f2:=f.t2
  exact J09 (by omega) (by omega)
 rw[Zn,Zn] at this
 unfold Jmn
 omega
theorem Gd.gl {unit:Int}{rs:List RH}(G:Gd unit rs):∀d∈rs.map (·.1),0<d.gap/\d.gap.natAbs.log2<9000:=λ d hd=>by
 obtain⟨r,hr,rfl⟩:=ZD.mp hd
 have f:=G.f r hr
 have f1:=f.g1
 have f2:=f.g2
 have u1:=G.u1
 have u2:=G.u2
 refine⟨by omega,Jmu (b:=9*10^45) ?_ (by decide +kernel)⟩
 have e:((10^45:Nat):Int)=10^45:=by decide +kernel
 clear G f
 generalize (10^45:Int)=y at *
 generalize (10^45:Nat)=z at *
 omega
def IsDu (h:IH)(D:Nat)(rs:List RH):Prop:=∃vs,h[D]?=Za (.ins "Duty" (dfs vs))/\AllH h vs rs
theorem IsDu.kp (k:Kp h h')(w:IsDu h D rs):IsDu h' D rs:=let ⟨vs,a,b⟩:=w;⟨vs,k _ _ a,b.kp k⟩
section
variable {k:Nat}{h:IH}
theorem J2l (hi:h[i]?=Za (.lst vs))(w:AllH h vs rs)(G:Gd unit rs) :
  WR (Jbf (k+3) [.ref h.length,.ref i] (h++[.ins "Duty" []])) λ v h'=>v=.non/\Ex h h'/\IsDu h' h.length rs:=by
 have hl:=G.few
 refine WR.mono (Jqf hi w.w (by have:=G.nd;rwa [Zak]) (by rw[Zn];omega) G.gl (Jzl G)) ?_
 rintro _ _ ⟨rfl,g,rfl⟩
 exact⟨rfl,.cons _ _ _,vs,Jz,w.kp (Ex.cons _ _ _).kp⟩
end
section
seal L4.run L4.WS
section
variable {k:Nat}{h:IH}
theorem e45 (σ:ISt)(h:IH):Jc JF (eC (.int 10)) (eC (.int 45)) σ h=.ok (.int (10^45)) h:=Jq (by
 rw[Vf,Qa,Qa,Vz]
 exact⟨by decide,rfl,rfl⟩)
theorem e30 (σ:ISt)(h:IH):Jc JF (eC (.int 10)) (eC (.int 30)) σ h=.ok (.int (10^30)) h:=Jq (by
 rw[Vf,Qa,Qa,Vz]
 exact⟨by decide,rfl,rfl⟩)
theorem e18 (σ:ISt)(h:IH):Jc Jn (Jc JF (eC (.int 10)) (eC (.int 18))) (eC (.int 9)) σ h=.ok (.int 1000000000000000009) h:=Jq (by
 rw[Vf,Vf,Qa,Qa,Vz]
 refine⟨by decide,?_⟩
 rw[Qa,Yv]
 exact⟨congrArg IV.int (by decide +kernel),rfl⟩)
theorem Jsf (c:Int)(m:Nat)(hm:m<=40):WR (Jcc (k+1) [.int c,.int m] h) λ v h'=>∃(i:Nat)(xs:List Int),v=.ref i/\h.length<=i/\h'[i]?=Za (.lst (xs.map .int))/\xs.length=m/\(∀x∈xs,(0:Int)<=x/\x<10^45)/\Ex h h':=by
 have hb:=J9
 have p45:(0:Int)<10^45:=by decide +kernel
 have le:(1000000000000000009:Int)<=10^45:=by decide +kernel
 obtain⟨T,eT⟩:∃T:Int,∀σ h,Jc JF (eC (.int 10)) (eC (.int 30)) σ h=.ok (.int T) h:=⟨_,e30⟩
 obtain⟨G,eG,gG⟩:∃G:Int,(∀σ h,Jc Jn (Jc JF (eC (.int 10)) (eC (.int 18))) (eC (.int 9)) σ h=.ok (.int G) h)/\G=1000000000000000009:=⟨_,e18,rfl⟩
 obtain⟨F,eF,F0,Fl,Fe⟩:∃F:Int,(∀σ h,Jc JF (eC (.int 10)) (eC (.int 45)) σ h=.ok (.int F) h)/\0<F/\F.natAbs.log2<9000/\F=10^45:=⟨_,e45,p45,by decide +kernel,rfl⟩
 rw[<- Fe] at le ⊢
 clear Fe p45
 rw[Jip]
 refine xfin (xseq (xset (Je (lstE rfl rfl) (xseq (xifd (geE rfl (eT _ _)) (λ _=>xseq (xset (Je (subE rfl (eT _ _)) (xseq (xrng rfl (by omega) ?_))))) λ _=>xnil (xseq (xset (Je (addE (modE rfl (eG _ _) (by omega)) rfl) (xseq (xrng (n:=m+2) (okc (addE rfl rfl) rfl) (by omega) ?_))))))))))
 ·refine QG (λ n σ h'=>∃xs rest a b,h'=h++[.lst (xs.map IV.int)]/\σ=[Za (.int c),Za (.int (m:Int)),Za (.ref h.length),Za (.int rest),a,b]/\xs.length=n/\∀x∈xs,(0:Int)<=x/\x<F)
   (λ _ _ _ _=>trivial) ?_ ?_ ⟨[],_,_,_,rfl,rfl,rfl,by simp⟩
  ·rintro n hn _ _ ⟨xs,rest,a,b,rfl,rfl,lx,hx⟩
   rw[Qw] at hn
   have e1:=Zbq rest (b:=F) (by omega)
   have e2:=ZaM rest F0
   refine xnx rfl (xseq (QH (Vh rfl grown VN (Je (arg1 (modE rfl (eF _ _) F0)) (xapp grown (by rw[Zn];omega) (xset (Je (QW rfl (eF _ _) F0 Fl) ⟨xs++[rest%F],_,_,_,?_,rfl,by simp[lx],λ x hxx=>?_⟩)))))))
   ·rw[XB]
    simp
   ·rw[Zah,Z5] at hxx
    rcases hxx with hxx|rfl
    ·exact hx x hxx
    ·exact⟨e1,e2⟩
  ·rintro _ _ ⟨xs,rest,a,b,rfl,rfl,lx,hx⟩
   rw[Qw] at lx
   exact xret (Je rfl ⟨_,xs,rfl,Zr _,grown,by omega,hx,.one _ _⟩)
 ·have s0:=Zbq c (b:=G) (by omega)
  have s1:=ZaM c (b:=G) (by omega)
  refine QG (λ n σ h'=>∃xs num a b,h'=h++[.lst (xs.map IV.int)]/\σ=[Za (.int c),Za (.int (m:Int)),Za (.ref h.length),a,b,Za (.int num)]/\(0<=num/\num<2000000000000000000)/\xs.length=n/\∀x∈xs,(0:Int)<=x/\x<G)
   (λ _ _ _ _=>trivial) ?_ ?_ ⟨[],_,_,_,rfl,rfl,by omega,rfl,by simp⟩
  ·rintro n hn _ _ ⟨xs,num,a,b,rfl,rfl,hnum,lx,hx⟩
   rw[Vu]
   rw[Qw] at hn
   have e1:=Zbq (num*num+48271*num+(0+(n:Int))) (b:=G) (by omega)
   have e2:=ZaM (num*num+48271*num+(0+(n:Int))) (b:=G) (by omega)
   refine xnx rfl (xseq (xset (Je (modE (addE (addE (mulE rfl rfl (.inl (by omega))) (mulE rfl rfl (.inl (by decide)))) rfl) (eG _ _) (by omega)) (QH (Vh rfl grown VN (Je (arg1 rfl) (xapp grown (by rw[Zn];omega) ⟨xs++[(num*num+48271*num+(0+(n:Int)))%G],_,_,_,?_,rfl,by omega,by simp[lx],λ x hxx=>?_⟩)))))))
   ·rw[XB]
    simp
   ·rw[Zah,Z5] at hxx
    rcases hxx with hxx|rfl
    ·exact hx x hxx
    ·exact⟨e1,e2⟩
  ·rintro _ _ ⟨xs,num,a,b,rfl,rfl,hnum,lx,hx⟩
   rw[Qw] at lx
   refine xret ((Y3 ..).mpr (Je rfl (Je rfl (Je rfl ((Jwt ..).mpr ⟨_,grown,?_⟩)))))
   rw[show(Za (2:Int))=Za ((2:Nat):Int) from rfl,Js8,<-List.map_drop]
   refine⟨_,xs.drop 2,rfl,by simp,grown,by simp;omega,λ x hxx=>?_,(Ex.one _ _).trans (.one _ _)⟩
   have:=hx x (List.mem_of_mem_drop hxx)
   omega
end
end
section
variable {k:Nat}{h:IH}
mutual
theorem Jmr:∀d:ZdU,d.canLay0=Zj->Zcj d d=Zj
 | .none,_=>by simp[Zcj]
 | .bool _,_=>by simp[Zcj]
 | .int _,_=>by simp[Zcj]
 | .str _,_=>by simp[Zcj]
 | .list xs,q=>by
  rw[Zcj]
  exact Jgn xs (by rw[Zcf] at q;exact q)
 | .tuple xs,q=>by
  rw[Zcj]
  exact Jgn xs (by rw[Zcf] at q;exact q)
 | .dict _,q=>by rw[Zcf] at q;cases q
theorem Jgn:∀ds:List ZdU,ZaY ds=Zj->Zd4 ds ds=Zj
 | [],_=>by rw[Zd4]
 | d::ds,q=>by
  rw[ZaY,Zp] at q
  rw[Zd4,Jmr d q.1,Jgn ds q.2]
  rfl
end
theorem Jsk (e:h[i]?=Za (.lst xs)):toD h (n+1) (.ref i)=(xs.mapM (toD h n)).map ZcZ:=by
 show(match h[i]? with|some (.lst xs)=>(xs.mapM (toD h n)).map ZcZ|_=>Zd)=_
 rw[e]
theorem Jrg {f:IV->Option ZdU}{g:IV->ZdU}:∀{xs:List IV},(∀x∈xs,f x=Za (g x))->xs.mapM f=Za (xs.map g)
 | [],_=>rfl
 | x::xs,q=>by
  rw[ZdV,q x (Z0 ..),Jrg λ y hy=>q y (Zi _ hy)]
  rfl
theorem Jv6:∀{xs:List IV},(∀x∈xs,(g x).canLay0=Zj)->ZaY (xs.map g)=Zj
 | [],_=>by rw[Zb5,ZaY]
 | x::xs,q=>by
  rw[Z7,ZaY,q x (Z0 ..),Jv6 λ y hy=>q y (Zi _ hy)]
  rfl
end
section
seal L4.run L4.WS
structure Cm where
 at_:Nat
 come:Int
 late:Int
 len:Int
abbrev tupC (c:Cm):IV:=.tup [.int c.at_,.int c.come,.int c.late,.int c.len]
structure COk (rs:List RH)(c:Cm):Prop where
 at_:c.at_<rs.length
 come:0<=c.come
 l0:0<=c.late
 l1:c.late<=(rs[c.at_]).1.late
 n1:1<=c.len
 n2:c.len<=(rs[c.at_]).1.len
structure Legal (rs:List RH)(cs:List Cm):Prop where
 ok:∀c∈cs,COk rs c
 far:∀(i j:Nat)(a b:Cm),i<j->cs[i]?=Za a->cs[j]?=Za b->a.at_=b.at_->∀r,rs[a.at_]?=Za r->a.come+r.1.gap<=b.come
theorem Jzp {h h':IH}(k:Kp h h'):Ex h h':=by
 refine⟨h'.drop h.length,Zb9 λ i=>?_⟩
 by_cases hi:i<h.length
 ·rw[ZH hi,Zb hi]
  exact k i _ (Zb hi)
 ·rw[ZA (by omega),List.getElem?_drop]
  congr 1
  omega
section
variable {k:Nat}{h:IH}
theorem Jmh {i:Nat}{ms:List Int}{Q:IV->IH->Prop}(hi:h[i]?=Za (.lst (ms.map .int)))(hm:ms≠[]):WR (V7 (.ref i) h) Q=Q (.int (JG (λ i=>ms.getD i 0) ms.length)) h:=by
 unfold V7
 simp only[hi,QX,hm,if_false]
 rfl
theorem pk (xs:List Int)(hn:(xs.length:Int)=n)(h0:0<n):∃x∈xs,atI (xs.map IV.int) (y%n)=Za (.int x):=by
 have a:=Zbq y (b:=n) (by omega)
 have b:=ZaM y h0
 have l:(y%n).toNat<xs.length:=by omega
 exact⟨xs[(y%n).toNat],ZB l,Jps a (by rw[Zy,Zb l];rfl)⟩
theorem e15 (σ:ISt)(h:IH):Jc JF (eC (.int 10)) (eC (.int 15)) σ h=.ok (.int (10^15)) h:=Jq (by
 rw[Vf,Qa,Qa,Vz]
 exact⟨by decide,rfl,rfl⟩)
theorem e40 (σ:ISt)(h:IH):Jc JF (eC (.int 10)) (eC (.int 40)) σ h=.ok (.int (10^40)) h:=Jq (by
 rw[Vf,Qa,Qa,Vz]
 exact⟨by decide,rfl,rfl⟩)
end
end
section
variable {k:Nat}{h:IH}
theorem Jy6:WR (Xp σ h) Q=Q (.ref h.length) (h++[.dct []]):=rfl
theorem dls:(([("works",a)]:List (Str×IV))).lookup ("size":Str)=Zd:=by kernel_rfl
theorem Jka (hD:h[D]?=Za (.ins "Duty" (dfs vs))):Jdc (k+1) [.ref D] h=.ok (.int vs.length) h:=by
 refine Jq ?_
 rw[Jkf]
 simp! [Jdw,JW hD,dl0]
theorem Jnr (kvs:List (Key×IV))(k k':Key)(v:IV):valI (putD kvs k v) k'=if k=k' then Za v else valI kvs k':=by
 unfold putD
 have any_iff:∀l:List (Key×IV),(l.any λ kv=>decide (kv.1=k))=(valI l k).isSome:=by
  intro l
  induction l with
  | nil=>rfl
  | cons p r ih =>
   rw[ZcG,ih]
   by_cases e:p.1=k
   ·rw[Vw e];simp[e]
   ·rw[Ve e];simp[e]
 split
 ·rename_i ha
  have key:∀l:List (Key×IV),valI (l.map λ kv=>if kv.1=k then(kv.1,v) else kv) k'=if k=k' then(if (valI l k).isSome then Za v else Zd) else valI l k':=by
   intro l
   induction l with
   | nil=>by_cases e:k=k'<;>simp[valI]
   | cons p r ih =>
    rw[Z7]
    by_cases e:p.1=k
    ·rw[if_pos e]
     by_cases e2:k=k'
     ·rw[Vw (by rw[<- e2];exact e),if_pos e2,Vw e];rfl
     ·rw[Ve (by rw[e];exact e2),ih,if_neg e2,if_neg e2,Ve (by rw[e];exact e2)]
    ·rw[if_neg e]
     by_cases e2:p.1=k'
     ·have:¬k=k':=λ z=>e (e2.trans z.symm)
      rw[Vw e2,if_neg this,Vw e2]
     ·rw[Ve e2,ih,Ve e,Ve e2]
  rw[key,<-any_iff,ha]
  simp
 ·rename_i ha
  have hn:valI kvs k=Zd:=by
   have:=any_iff kvs
   cases q:valI kvs k with
   | none=>rfl
   | some z=>rw[q] at this;exact absurd this ha
  have key:∀l:List (Key×IV),valI (l++[(k,v)]) k'=match valI l k' with
    | some w=>Za w
    | none=>if k=k' then Za v else Zd:=by
   intro l
   induction l with
   | nil =>
    by_cases e:k=k'
    ·rw[ZaD,Vw e,if_pos e];rfl
    ·rw[ZaD,Ve e,if_neg e];rfl
   | cons p r ih =>
    by_cases e:p.1=k'
    ·rw[Za6,Vw e,Vw e]
    ·rw[Za6,Ve e,Ve e,ih]
  rw[key]
  by_cases e:k=k'
  ·subst e;rw[hn,if_pos rfl]
  ·rw[if_neg e,if_neg e];cases valI kvs k'<;>rfl
theorem J12 (hi:h[i]?=Za (.dct kvs)):WR (cInD (.int x) (.ref i) h) Q=Q (.bl (valI kvs (.inl x)).isSome) h:=by
 unfold cInD
 simp only[hi,keyI]
 rfl
theorem Jws (hi:h[i]?=Za (.dct kvs))(e:valI kvs (.inl x)=Za v):WR (VX (.ref i) (.int x) h) Q=Q v h:=by
 unfold VX
 simp only[hi,keyI,e]
 rfl
theorem Jsy (o i:E1)(v:IV):WS (gSbD o i v σ h) N R=WR (o σ h) λ ov h1=>WR (i σ h1) λ iv h2=>WS (Yr ov iv v σ h2) N R:=by
 unfold gSbD
 rw[JY]
 congr 1
 funext ov h1
 rw[JY]
theorem Joc (hi:h[i]?=Za (.dct kvs))(hl:kvs.length<sizeLine):WS (Yr (.ref i) (.int x) v σ h) N R=N σ (h.set i (.dct (putD kvs (.inl x) v))):=by
 unfold Yr
 simp only[hi,keyI,hl,if_true]
 rfl
end
theorem Jpy (f:Nat->Int):∀(n j:Nat),j<n->JL f n<=f j
 | 0,j,h=>by omega
 | 1,j,h=>by
  have:j=0:=by omega
  subst this
  exact Zap _
 | n+2,j,h=>by
  rw[Jev f (by omega:0<n+1)]
  by_cases e:j=n+1
  ·subst e
   split<;>omega
  ·have:=Jpy f (n+1) j (by omega)
   split<;>omega
theorem Jll (f:Nat->Int):∀(n:Nat),0<n->∃j,j<n/\JL f n=f j
 | 0,h=>by omega
 | 1,_=>⟨0,by omega,rfl⟩
 | n+2,_=>by
  rw[Jev f (by omega:0<n+1)]
  obtain⟨j,hj,e⟩:=Jll f (n+1) (by omega)
  split
  ·exact⟨n+1,by omega,rfl⟩
  ·exact⟨j,by omega,e⟩
section
variable {h:IH}
theorem Jsv {ns:List Int}(hi:h[i]?=Za (.lst (ns.map .int)))(hn:ns≠[]):WR (VV (.ref i) h) Q=Q (.int (JL (λ i=>ns.getD i 0) ns.length)) h:=by
 unfold VV
 simp only[hi,QX]
 rw[if_neg hn]
 rfl
end
section
variable {k:Nat}{h:IH}
abbrev ofs1 (D:Nat):List (Str×IV):=[("duty",.ref D)]
theorem op0:putI "duty" a ([]:List (Str×IV))=([("duty",a)]:List (Str×IV)):=by kernel_rfl
theorem ql0:(ofs1 D).lookup ("duty":Str)=Za (.ref D):=by kernel_rfl
theorem qlr:(ofs1 D).lookup ("rank_of":Str)=Zd:=by kernel_rfl
theorem qlh:(ofs1 D).lookup ("holds":Str)=Zd:=by kernel_rfl
def IsOr (h:IH)(O:Nat)(rs:List RH):Prop:=∃D,IsDu h D rs/\h[O]?=Za (.ins "ByDue" (ofs1 D))
theorem IsOr.kp (k:Kp h h')(o:IsOr h O rs):IsOr h' O rs:=let ⟨D,d,b⟩:=o;⟨D,d.kp k,k _ _ b⟩
theorem Jo2 (hO:h[O]?=Za (.ins c [])):Jb8 (k+1) [.ref O,.ref D] h=.ok .non (h.set O (.ins c (ofs1 D))):=by
 refine Jq ?_
 rw[Jik]
 simp! [Jc1,Xg]
 refine⟨_,_,_,rfl,hO,by decide,?_⟩
 rw[op0]
theorem Jy8 (hi:h[i]?=Za (.dct kvs)):WR (Xx (.ref i) h) Q=Q (.int kvs.length) h:=by
 unfold Xx
 simp only[hi]
 rfl
theorem Jj3 (d:IsDu h D rs)(hl:rs.length<=12)(no:∀r∈rs,r.2=[]):WR (Jep (k+2) [.ref D] h) λ v h'=>∃i,v=.ref i/\h'[i]?=Za (.dct [])/\Ex h h':=by
 have hb:=J9
 obtain⟨vs,gD,w⟩:=d
 have wl:=w.len
 rw[Jlt]
 simp! [Je3,Je4,Jy6]
 rw[Xd (i:=D) (h1:=h++[.dct []]) rfl (grow gD) dls (Jfd _)]
 simp! [Jka (grow gD)]
 refine⟨by omega,?_⟩
 refine QG (λ n σ h'=>∃a b,Ex (h++[.dct []]) h'/\σ=[Za (.ref D),Za (.ref h.length),a,b]) (λ _ _ _ _=>trivial) ?_ ?_ ⟨Zd,Zd,.refl _,rfl⟩
 ·rintro n hn _ h1 ⟨a,b,x1,rfl⟩
  rw[Vu]
  rw[Qw] at hn
  have hn':n<rs.length:=by omega
  obtain⟨j,ej,gj⟩:=w.get (Zb hn')
  rw[show(0:Int)+(n:Int)=(n:Int) by omega]
  have av:atI vs (n:Int)=Za (.ref j):=JQ ej
  have gD1:=x1.get (grow gD)
  have gj1:=x1.get (grow gj)
  have e0:=no _ (ZB hn')
  generalize hσ:([Za (.ref D),Za (.ref h.length),Za (.int (n:Int)),b]:ISt)=σ
  have e1:Jp (pg (k+1)) "work" 1 (Ja 0) (Jb (Ja 2) Jd) σ h1=.ok (.ref j) h1:=by
   subst hσ
   refine Jq ?_
   rw[Xd (i:=D) (h1:=h1) rfl gD1 dlw (Jcn _)]
   simp! [Jgl gD1 av]
  dsimp! [hσ,Jej]
  rw[Xd (i:=j) (h1:=h1) e1 gj1 flh (Jfe _)]
  simp! [Jlg gj1,e0,Zb5,Qb,grown]
  rw[<- hσ]
  simp only[JU]
  rw[if_pos grown,Y8]
  exact⟨_,_,x1.trans (.one _ _),rfl⟩
 ·rintro _ h1 ⟨a,b,x1,rfl⟩
  simp! [Je5]
  exact⟨x1.get grown,(Ex.one _ _).trans x1⟩
theorem Jl5 (d:IsDu h D rs)(hl:rs.length<=12)(no:∀r∈rs,r.2=[]):WR (Jba (k+3) [.ref D] h) λ v h'=>v=.non/\Ex h h':=by
 rw[Jgp]
 simp! [Jbz]
 refine WR.mono (Jj3 (k:=k) d hl no) ?_
 rintro _ h1 ⟨i,rfl,gi,x1⟩
 rw[Jy8 gi]
 simp! [Zbm]
 refine⟨λ q=>?_,λ _=>x1⟩
 simp at q
theorem Jte (d:IsDu h D rs)(hl:rs.length<=12)(no:∀r∈rs,r.2=[]):WR (Jay (k+4) [.ref h.length,.ref D] (h++[.ins "ByDue" []])) λ v h'=>v=.non/\Ex h h'/\IsOr h' h.length rs:=by
 rw[Jij]
 simp! [Jcz,Jc0]
 refine WR.mono (Jl5 (k:=k) (d.kp (Ex.one h _).kp) hl no) ?_
 rintro _ _ ⟨rfl,g,rfl⟩
 have gO:(h++[IX.ins "ByDue" []]++g)[h.length]?=Za (.ins "ByDue" []):=grow grown
 rw[Jo2 (k:=k+2) gO]
 simp! [true_and]
 have e:(h++[IX.ins "ByDue" []]++g).set h.length (.ins "ByDue" (ofs1 D))=h++.ins "ByDue" (ofs1 D)::g:=by
  rw[Zag,Za6,ZaD,Ji8]
 rw[e]
 exact⟨.cons _ _ _,D,d.kp (Ex.cons _ _ _).kp,Jz⟩
end
section
seal L4.run L4.WS
section
variable {k:Nat}{h:IH}
theorem argC (ea:a σ h=.ok x h1)(eb:b σ h1=.ok xs h2):Jb a b σ h=.ok (x::xs) h2:=by
 show(a σ h).bind (λ x h1=>(b σ h1).bind λ xs h2=>.ok (x::xs) h2)=_
 rw[ea]
 show(b σ h1).bind _=_
 rw[eb]
 rfl
theorem wkE (hD:h[D]?=Za (.ins "Duty" (dfs vs)))(eo:o σ h=.ok (.ref D) h)(ee:e σ h=.ok (.int n) h)(av:atI vs n=Za (.ref j)):Jp (pg (k+1)) "work" 1 o (Jb e Jd) σ h=.ok (.ref j) h:=dotE eo hD dlw (Jcn _) (arg1 ee) (Jgl hD av)
theorem dueE {c:Cm}(hd:IsDu h D rs)(ha:c.at_<rs.length):V0 (k+2) [.ref D,tupC c] h=.ok (.int (c.come+(rs[c.at_]).1.due)) h:=by
 obtain⟨vs,gD,w⟩:=hd
 obtain⟨j,ej,gj⟩:=w.get (Zb ha)
 have av:atI vs (c.at_:Int)=Za (.ref j):=JQ ej
 generalize rs[c.at_]=r at gj
 refine Jq ?_
 rw[Jqo]
 exact xfin (xret (Je (addE (ixtE rfl rfl QT) (fldE (wkE gD rfl (ixtE rfl rfl Qi) av) gj fl3)) ⟨rfl,rfl⟩))
theorem Js5 {c:Cm}(hd:IsDu h D rs)(gO:h[O]?=Za (.ins "ByDue" (ofs1 D)))(ha:c.at_<rs.length):Jat (k+3) [.ref O,tupC c,.int d] h=.ok (.int (c.come+(rs[c.at_]).1.due)) h:=Jq (by rw[Jfk];exact xfin (xret (Je (Qd (arg2 (fldE rfl gO ql0) rfl) (dueE (k:=k) hd ha)) ⟨rfl,rfl⟩)))
theorem Jl3:Jbg (k+1) [.ref O,v,w] h=.ok (.bl Zm) h:=Jq (by rw[Jhf];exact xfin (xret (Je rfl ⟨rfl,rfl⟩)))
def XT (rs:List RH)(c:Cm)(d:Int):Int:=c.come+(rs.getD c.at_ rd).1.due
def XS (rs:List RH)(c:Cm)(d:Int):Bool:=Zm
theorem Xs {rs:List RH}(hn:n<rs.length):rs.getD n rd=rs[n]:=by rw[Zg,Zb hn];rfl
theorem Jl2 (o:IsOr h O rs):∃Du,IsDu h Du rs/\∀(e:E1) (σ:ISt),e σ h=.ok (.ref O) h->Jm "duty" e σ h=.ok (.ref Du) h:=by
 obtain⟨D,hd,gO⟩:=o
 exact⟨D,hd,λ e σ he=>fldE he gO ql0⟩
theorem Jof {O:Nat}{d:Int}{oe e1 e2:E1}(o:IsOr h O rs)(ho:oe σ h=.ok (.ref O) h)(h1:e1 σ h=.ok (tupC c) h)(h2:e2 σ h=.ok (.int d) h)(ha:c.at_<rs.length)(l6:∀r∈rs,r.2.length<=6) :
  WR (Jp (pg (k+3)) "rank_of" 2 oe (Jb e1 (Jb e2 Jd)) σ h) λ v h'=>v=.int (XT rs c d)/\Ex h h':=by
 obtain⟨D,hd,gO⟩:=o
 exact XJ ho gO qlr (Jfj _) (Je (arg2 h1 h2) (Je (Js5 hd gO ha) ⟨by rw[XT,Xs ha],.refl _⟩))
theorem Jlh (o:IsOr h O rs)(ho:oe σ h=.ok (.ref O) h)(h1:e1 σ h=.ok (tupC c) h)(h2:e2 σ h=.ok (.int d) h)(ha:c.at_<rs.length)(l6:∀r∈rs,r.2.length<=6) :
  WR (Jp (pg (k+3)) "holds" 2 oe (Jb e1 (Jb e2 Jd)) σ h) λ v h'=>v=.bl (XS rs c d)/\Ex h h':=by
 obtain⟨D,hd,gO⟩:=o
 exact XJ ho gO qlh (Jhd _) (Je (arg2 h1 h2) (Je Jl3 ⟨rfl,.refl _⟩))
end
end
def cd:Cm:=⟨0,0,0,0⟩
def keyN (rs:List RH)(cs:List Cm)(ds:List Int)(n:Nat):List Int:=[XT rs (cs.getD n cd) (ds.getD n 0),if XS rs (cs.getD n cd) (ds.getD n 0)=Zj then 0 else 1,(n:Int)]
def keyV (rs:List RH)(cs:List Cm)(ds:List Int)(v:IV):List Int:=match v with
 | .int x=>keyN rs cs ds x.toNat
 | _=>[0,0,0]
theorem Jwa:∀{a b:List Int},a.length=b.length->ltL a b=Zm->ltL b a=Zm->a=b
 | [],[],_,_,_=>rfl
 | a::as,b::bs,l,h1,h2=>by
  unfold ltL at h1 h2
  by_cases e:a=b
  ·subst e
   rw[if_pos rfl] at h1 h2
   rw[Jwa (by simpa using l) h1 h2]
  ·rw[if_neg e,decide_eq_false_iff_not] at h1
   rw[if_neg (ZO e),decide_eq_false_iff_not] at h2
   omega
 | [],_::_,l,_,_=>by simp at l
 | _::_,[],l,_,_=>by simp at l
section
variable {k:Nat}{h:IH}
theorem Jy5 (hx:xs≠[])(hy:ys≠[])(hl:xs.length+ys.length<=sizeLine):WR (Jn (.tup xs) (.tup ys) h) Q=Q (.tup (xs++ys)) h:=by
 unfold Jn
 dsimp only
 rw[if_pos ⟨hx,hy,hl⟩]
 rfl
theorem qls:(ofs1 D).lookup ("standing":Str)=Zd:=by kernel_rfl
theorem qlp:(ofs1 D).lookup ("pick":Str)=Zd:=by kernel_rfl
abbrev stv (rs:List RH)(c:Cm)(d:Int):IV:=.tup [.int (XT rs c d),.int (if XS rs c d=Zj then 0 else 1)]
theorem Jmc {c:Cm}{d:Int}(o:IsOr h O rs)(ha:c.at_<rs.length)(l6:∀r∈rs,r.2.length<=6) :
  WR (Jal (k+4) [.ref O,tupC c,.int d] h) λ v h'=>v=stv rs c d/\Ex h h':=by
 have hb:=J9
 rw[Jey]
 dsimp! [Ja0]
 refine WR.mono (Jof (k:=k) (c:=c) (d:=d) o rfl rfl rfl ha l6) ?_
 rintro _ h1 ⟨rfl,x1⟩
 try simp(implicitDefEqProofs:=Zm) only[YA,Y9,Jjt,YB,Y7,YC,Jju,Y6,VD,Joa,Y8,Job,XI,JY,Js,Xe,Qa,Ya,Jtg,Vf,Jvq,Jnu,Jvo,Jvh,Y4,Jn9,Jjq,Jjr,Yw,Jji,Jf3,Y5,Y0,Jjj,VC,Jvc,Vg,Jnx,Jf5,Jf6,Y3,Yz,Yv,Jn8,Jn4,Y2,Yx,Y1,Vz,Jjh,Jvl,Jvj,Jvg,Jvf,Jve,Jvm,Jnw,Jn5,Jnv,Jjs,Jn6,Yy,Jvn,Qy,Vy,Xf,Jjp,Jnz,Jn1,Jn0,Jn7,Jf4,Krz,Ksz,Kvz,Ktz,Kuz]
 refine WR.mono (Jlh (k:=k) (c:=c) (d:=d) (o.kp x1.kp) rfl rfl rfl ha l6) ?_
 rintro _ h2 ⟨rfl,x2⟩
 have x:=x1.trans x2
 simp! [ZN,Zbm,stv]
 cases XS rs c d with
 | true=>exact⟨λ _=>⟨by omega,rfl,x⟩,λ z=>by cases z⟩
 | false=>exact⟨(λ z=>by cases z),λ _=>⟨by omega,rfl,x⟩⟩
theorem Jg5 {O:Nat}{d:Int}{oe e1 e2:E1}(o:IsOr h O rs)(ho:oe σ h=.ok (.ref O) h)(h1:e1 σ h=.ok (tupC c) h)(h2:e2 σ h=.ok (.int d) h)(ha:c.at_<rs.length)(l6:∀r∈rs,r.2.length<=6) :
  WR (Jp (pg (k+4)) "standing" 2 oe (Jb e1 (Jb e2 Jd)) σ h) λ v h'=>v=stv rs c d/\Ex h h':=by
 have so:=Jmc (k:=k) (d:=d) o ha l6
 obtain⟨D,hd,gO⟩:=o
 rw[Xd (i:=O) (h1:=h) ho gO qls (Jew _)]
 dsimp! [h1,h2]
 exact so
theorem Jyb {O R W N:Nat}{ps:List Nat}{ds:List Int}(h0:h[0]?=Za (.tab "Order.pick"))(o:IsOr h O rs)(l6:∀r∈rs,r.2.length<=6)(hc:∀c∈cs,c.at_<rs.length) 
  (gR:h[R]?=Za (.lst (cs.map tupC)))(gW:h[W]?=Za (.lst (ps.map λ p:Nat=>.int p)))(gN:h[N]?=Za (.lst (ds.map .int)))(ld:ds.length=cs.length)(ne:ps≠[])(hp:∀p∈ps,p<cs.length) :
  WR (Jaz (k+5) [.ref O,.ref R,.ref W,.ref N] h) λ v h'=>∃p∈ps,v=.int (p:Int)/\(∀p'∈ps,ltL (keyN rs cs ds p') (keyN rs cs ds p)=Zm)/\Ex h h':=by
 have hb:=J9
 rw[Jil]
 dsimp! [Jc2]
 rw[Jza h0 rfl]
 refine WR.mono (Jss (kf:=keyV rs cs ds) (n:=3) gW (by simpa using ne) ?_ ?_) ?_
 ·intro y hy h1 x1
  obtain⟨p,hp',rfl⟩:=ZD.mp hy
  have lp:=hp p hp'
  have ac:atI (cs.map tupC) (p:Int)=Za (tupC cs[p]):=JQ (by rw[Zy,Zb lp];rfl)
  have ad:atI (ds.map IV.int) (p:Int)=Za (.int (ds[p]'(by omega))):=JQ (by rw[Zy,Zb];rfl)
  have ek:keyV rs cs ds (.int (p:Int))=[XT rs cs[p] (ds[p]'(by omega)),if XS rs cs[p] (ds[p]'(by omega))=Zj then 0 else 1,(p:Int)]:=by
   show keyN rs cs ds (Zct (p:Int))=_
   rw[Za7]
   unfold keyN
   rw[Zg,Zg,Zb lp,Zb (show p<ds.length by omega)]
   rfl
  have hc':=hc _ (ZB lp)
  rw[ek]
  generalize cs[p]=c at ac hc'
  generalize ds[p]'(by omega)=d at ad
  simp only[Z7,Zb5,Zbd,Zbe,Zc7]
  generalize hσ:([Za (.int (p:Int)),Za (.ref N),Za (.ref R),Za (.ref O)]:ISt)=σ
  have e1:Jc Jg (Ja 2) (Ja 0) σ h1=.ok (tupC c) h1:=Jq (by subst hσ;simp! [Jsr,x1.get gR,ac])
  have e2:Jc Jg (Ja 1) (Ja 0) σ h1=.ok (.int d) h1:=Jq (by subst hσ;simp! [Jsr,x1.get gN,ad])
  dsimp! [Jb0]
  refine WR.mono (Jg5 (k:=k) (o.kp x1.kp) (by subst hσ;rfl) e1 e2 hc' l6) ?_
  rintro _ h2 ⟨rfl,x2⟩
  subst hσ
  simp! [stv,ZN,Zbm]
  refine⟨by omega,?_⟩
  rw[Jy5 (by simp) (by simp) (by simp;omega)]
  exact⟨rfl,x2⟩
 ·intro y hy
  obtain⟨p,hp',rfl⟩:=ZD.mp hy
  rfl
 ·rintro v h1 ⟨hv,le,x1⟩
  obtain⟨p,hp',rfl⟩:=ZD.mp hv
  refine⟨p,hp',rfl,λ p' q=>?_,x1⟩
  have:=le _ (ZD.mpr ⟨p',q,rfl⟩)
  simpa only[keyV,Za7] using this
theorem Joe {O:Nat}{oe:E1}{a:A1}{v1 v2 v3:IV}(o:IsOr h O rs)(ho:oe σ h=.ok (.ref O) h)(h1:a σ h=.ok [v1,v2,v3] h)(q:WR (Jaz k [.ref O,v1,v2,v3] h) P) :
  WR (Jp (pg k) "pick" 3 oe a σ h) P:=by
 obtain⟨D,hd,gO⟩:=o
 rw[Xd (i:=O) (h1:=h) ho gO qlp (Jie _),h1]
 dsimp! [Y9]
 exact q
end
section
seal L4.run L4.WS
def rdC (c:Cm):Int:=c.come+c.late
def duC (rs:List RH)(c:Cm):Int:=c.come+(rs.getD c.at_ rd).1.due
section
variable {k:Nat}{h:IH}
theorem chL (ea:a σ h=.ok (.int i) h1)(eb:b σ h1=.ok (.int j) h2)(ec:c σ h2=.ok (.int l) h3)(t1:i<=j)(t2:j<=l):JS cLe cLe a b c σ h=.ok (.bl Zj) h3:=by
 unfold JS
 rw[ea]
 dsimp only[Res.bind]
 rw[eb]
 show(match IV.bl (decide (i<=j)) with|.bl Zj=>_|.bl Zm=>_|_=>_)=_
 rw[decide_eq_true t1]
 show(c σ h2).bind _=_
 rw[ec]
 show Res.ok (IV.bl (decide (j<=l))) h3=_
 rw[decide_eq_true t2]
theorem Jtx (hd:IsDu h D rs)(ok:COk rs c):WR (Jdf (k+3) [.ref D,tupC c] h) λ v h'=>v=.bl Zj/\Ex h h':=by
 have hb:=J9
 obtain⟨vs,hD,w⟩:=hd
 have wl:=w.len
 obtain⟨a,b,c,d⟩:=c
 obtain⟨q1,q2,q3,q4,q5,q6⟩:=ok
 have q1:a<rs.length:=q1
 obtain⟨j,ev,gj⟩:=w.get (Zb q1)
 have av:=JQ ev
 have q4:c<=(rs[a]).1.late:=q4
 have q6:d<=(rs[a]).1.len:=q6
 generalize rs[a]=r at gj q4 q6
 rw[Jkj]
 refine xfin (xseq (xiff rfl (xnil (xseq ?_))))
 obtain⟨_,_,ec,rfl,g,rfl⟩:=(QQ (it:=Ju (Ja 1)) (e:=Jaw (k+2)) (js:=[]) (σ:=[Za (.ref D),Za (tupC ⟨a,b,c,d⟩),Zd]) (h0:=h) (h:=h) (xs:=[IV.int (a:Int),IV.int b,IV.int c,IV.int d]) (chk:=λ _=>True) (f:=λ _=>.bl Zj) ⟨rfl,rfl,rfl⟩ (by simp;omega) (λ _ _=>trivial) (by
  intro v hv h2 q
  obtain⟨i,rfl⟩:∃i,v=.int i:=by
   simp only[Z2,ZL,or_false] at hv
   rcases hv with rfl|rfl|rfl|rfl<;>exact⟨_,rfl⟩
  unfold Jaw
  exact Je (Qd (arg1 rfl) (Jff _)) ⟨rfl,.refl _⟩)).eq
 refine xiff (notE (c:=Zj) (truE ((cbE (arg1 ec)).trans (all_map (f:=λ _=>Zj) Jz)))) (xnil ?_)
 have x1:Ex h (h++IX.lst ([IV.int (a:Int),IV.int b,IV.int c,IV.int d].map λ _=>.bl Zj)::g):=.cons _ _ _
 generalize h++IX.lst ([IV.int (a:Int),IV.int b,IV.int c,IV.int d].map λ _=>.bl Zj)::g=h1 at x1
 have D1:=x1.get hD
 refine xseq (xiff (orF (notE (tofE (chT rfl (ixtE rfl rfl Qi) (dotE rfl D1 dls (Jfd _) rfl (Jka D1)) (Int.natCast_nonneg a) (by rw[wl];omega)))) (okc (ltE (ixtE rfl rfl QT) rfl) (decide_eq_false (Int.not_lt.mpr q2)))) (xnil (xseq (xset (Je (wkE D1 rfl (ixtE rfl rfl Qi) av) ?_)))))
 exact xret (Je (Jxb (chL rfl (ixtE rfl rfl Vn) (fldE rfl (x1.get gj) fl4) q3 q4) (chL rfl (ixtE rfl rfl VM) (fldE rfl (x1.get gj) fl2) q5 q6)) ⟨rfl,x1⟩)
theorem Jxg {cs:List Cm}(hd:IsDu h D rs)(gR:h[R]?=Za (.lst (cs.map tupC)))(L:Legal rs cs)(hl:cs.length<=1000) :
  WR (Jbh (k+4) [.ref D,.ref R] h) λ v h'=>v=.non/\Ex h h':=by
 have hb:=J9
 obtain⟨vs,hD,w⟩:=id hd
 rw[Jhg]
 refine xfin (xseq (xset (Je rfl (xseq (xfor ?_)))))
 rw[Vy]
 refine Je (arg1 rfl) ((Jmg _).mpr ⟨_,grow gR,?_⟩)
 refine QG (λ n σ h'=>∃kvs g a b c,h'=h++IX.dct kvs::g/\σ=[Za (.ref D),Za (.ref R),Za (.ref h.length),a,b,c]/\kvs.length<=n/\∀(a:Nat) v,valI kvs (.inl (a:Int))=Za v->∃i c,i<n/\cs[i]?=Za c/\c.at_=a/\v=.int c.come) ?_ ?_ ?_ ⟨[],[],Zd,Zd,Zd,rfl,rfl,Zr _,λ a v e=>by cases e⟩
 ·rintro _ _ _ ⟨kvs,g,a,b,c,rfl,_⟩
  exact grow gR
 ·rintro n hn _ _ ⟨kvs,g,a,b,c,rfl,rfl,ln,td⟩
  rw[Jqk]
  have hc:n<cs.length:=by simpa [VR] using hn
  have x1:Ex h (h++IX.dct kvs::g):=.cons _ _ _
  rw[Zam]
  have ec:cs[n]?=Za cs[n]:=Zb hc
  have ok:=L.ok _ (ZB hc)
  generalize cs[n]=ci at ec ok
  obtain⟨_,_,e2,rfl,g2,rfl⟩:=(Jtx (k:=k) (c:=ci) (hd.kp x1.kp) ok).eq
  refine xnx rfl (xseq (xiff (notE (truE (Qd (arg2 rfl rfl) e2))) (xnil (xseq (xset (Je (ixtE rfl rfl Qi) (xseq ?_)))))))
  have eh:h++IX.dct kvs::g++g2=h++IX.dct kvs::(g++g2):=by rw[Zag,Za6]
  rw[eh]
  have x2:Ex h (h++IX.dct kvs::(g++g2)):=.cons _ _ _
  have hat:=ok.at_
  have er:=Zb hat
  obtain⟨j,ev,gj⟩:=w.get er
  have av:=JQ ev
  generalize rs[ci.at_]=r at er gj
  have fin:∀{σ:ISt}(a b c),σ=[Za (.ref D),Za (.ref R),Za (.ref h.length),a,b,c]->∃kvs_1 g_1 a b c,List.set (h++IX.dct kvs::(g++g2)) h.length (IX.dct (putD kvs (.inl (ci.at_:Int)) (.int ci.come)))=h++IX.dct kvs_1::g_1/\σ=[Za (.ref D),Za (.ref R),Za (.ref h.length),a,b,c]/\kvs_1.length<=n+1/\∀(a:Nat) v,valI kvs_1 (.inl (a:Int))=Za v->∃i c,i<n+1/\cs[i]?=Za c/\c.at_=a/\v=.int c.come:=by
   intro σ a b c hσ
   refine⟨_,_,_,_,_,Ji8 _ _ _,hσ,?_,λ a v e=>?_⟩
   ·unfold putD
    split
    ·rw[Zn];omega
    ·rw[Z1,ZaI];omega
   ·rw[Jnr] at e
    split at e
    ·rename_i z
     cases e
     exact⟨n,ci,by omega,ec,by have:=Sum.inl.inj z;omega,rfl⟩
    ·obtain⟨i,c,h1,h2⟩:=td a v e
     exact⟨i,c,by omega,h2⟩
  have key:∀{σ:ISt}(a b:Option IV),σ=[Za (.ref D),Za (.ref R),Za (.ref h.length),a,Za (tupC ci),Za (.int (ci.at_:Int))]->∀P,WS (sAsg (Jc Jg (Ja 4) (eC (.int 1))) (gSbD (Ja 2) (Ja 5)) σ (h++IX.dct kvs::(g++g2))) (λ σ h'=>∃kvs g a b c,h'=h++IX.dct kvs::g/\σ=[Za (.ref D),Za (.ref R),Za (.ref h.length),a,b,c]/\kvs.length<=n+1/\∀(a:Nat) v,valI kvs (.inl (a:Int))=Za v->∃i c,i<n+1/\cs[i]?=Za c/\c.at_=a/\v=.int c.come) P:=by
   rintro σ a b rfl P
   refine(VD ..).mpr (Je (ixtE rfl rfl QT) ?_)
   rw[Jsy]
   refine Je rfl (Je rfl ?_)
   rw[Joc (Jz (h:=h)) (show kvs.length<sizeLine by omega)]
   exact fin _ _ _ rfl
  have ei:∀{σ:ISt}(a b:Option IV),σ=[Za (.ref D),Za (.ref R),Za (.ref h.length),a,Za (tupC ci),Za (.int (ci.at_:Int))]->Jh asB (Jc cInD (Ja 5) (Ja 2)) σ (h++IX.dct kvs::(g++g2))=.ok (valI kvs (.inl (ci.at_:Int))).isSome (h++IX.dct kvs::(g++g2)):=by
   rintro σ a b rfl
   exact tofE ((binE rfl rfl).trans (Jq (by rw[J12 Jz];exact⟨rfl,rfl⟩)))
  cases el:valI kvs (.inl (ci.at_:Int)) with
  | none=>exact xiff (andF ((ei _ Zd rfl).trans (by rw[el];rfl))) (xnil (key _ Zd rfl _))
  | some l =>
   obtain⟨i,c0,hi,e0,ea,rfl⟩:=td _ _ el
   have far:=L.far i n c0 ci hi e0 ec ea r (by rw[ea];exact er)
   exact xiff (andT ((ei _ Zd rfl).trans (by rw[el];rfl)) (okc (ltE (subE (ixtE rfl rfl QT) ((binE rfl rfl).trans (Jq (by rw[Jws Jz el];exact⟨rfl,rfl⟩)))) (fldE (wkE (x2.get hD) rfl rfl av) (x2.get gj) fl1)) (decide_eq_false (by omega)))) (xnil (key _ Zd rfl _))
 ·rintro _ _ ⟨kvs,g,a,b,c,rfl,rfl,_⟩
  exact xret (Je rfl ⟨rfl,.cons _ _ _⟩)
theorem Jvt {cs:List Cm}(hd:IsDu h D rs)(gR:h[R]?=Za (.lst (cs.map tupC)))(L:Legal rs cs)(hl:cs.length<=200) :
  WR (Jdp (k+5) [.ref D,.ref R] h) λ v h'=>v=.non/\Ex h h':=by
 rw[Jol]
 refine xfin (xseq (xiff (okc (gtE (lenE rfl gR) rfl) (decide_eq_false (by rw[Zn];omega))) (xnil (xseq (xset (xb (Je (arg2 rfl rfl) (WR.mono (Jxg (k:=k) hd gR L (by omega)) ?_))))))))
 rintro _ h1 ⟨rfl,x1⟩
 exact xiff rfl (xnil ⟨rfl,x1⟩)
theorem Jf0:Xk (k+1) [tupC c] h=.ok (.int (rdC c)) h:=Jq (by rw[Jtl];exact xfin (xret (Je (addE (ixtE rfl rfl QT) (ixtE rfl rfl Vn)) ⟨rfl,rfl⟩)))
theorem Jqe {c:Cm}(hd:IsDu h D rs)(ha:c.at_<rs.length):V0 (k+2) [.ref D,tupC c] h=.ok (.int (duC rs c)) h:=by
 unfold duC
 rw[Xs ha]
 exact dueE hd ha
end
end
theorem Jod {t:T1}{b:S1}{σ:ISt}{h:IH}{N:ISt->IH->Prop}{R:IV->IH->Prop}(I:Nat->ISt->IH->Prop) 
  (turn:∀m σ h,I m σ h->WR (t σ h) λ c h1=>(c=Zj->∃m',m=m'+1/\WS (b σ h1) (I m') R)/\(c=Zm->N σ h1)){m:Nat}(hm:m<1000000)(start:I m σ h):WS (VY t b σ h) N R:=by
 have key:∀(n m:Nat)(σ:ISt)(h:IH),m<n->I m σ h->WS (Vx t b n σ h) N R:=by
  intro n
  induction n with
  | zero=>intro m σ h hn _;omega
  | succ n ih =>
   intro m σ h hn hI
   obtain⟨c,h1,e,q1,q2⟩:=(turn m σ h hI).eq
   unfold Vx
   rw[e]
   cases c with
   | false=>exact q2 rfl
   | true =>
    obtain⟨m',rfl,w⟩:=q1 rfl
    simp only[if_true]
    cases eb:b σ h1 with
    | next σ2 h2=>rw[eb] at w;exact ih m' σ2 h2 (by omega) w
    | ret v h2=>rw[eb] at w;exact w
    | _=>rw[eb] at w;exact w.elim
 have et:turns=1000000:=by unfold turns;rfl
 unfold VY
 exact key _ m σ h (by rw[et];exact hm) start
structure Bs where
 ds:List Int
 lr:List Nat
 wa:List Nat
 t:Int
 sr:List (Nat×Int×Int)
def rdN (cs:List Cm)(p:Nat):Int:=rdC (cs.getD p cd)
def lnN (cs:List Cm)(p:Nat):Int:=(cs.getD p cd).len
def hsN (rs:List RH)(cs:List Cm)(p:Nat):List Hd:=(rs.getD (cs.getD p cd).at_ rd).2
def pops (cs:List Cm)(t:Int):List Nat->List Nat->List Nat×List Nat
 | [],wa=>([],wa)
 | p::lr,wa=>if rdN cs p<=t then pops cs t lr (wa++[p]) else(p::lr,wa)
def tIn (cs:List Cm)(s:Bs):Int:=match s.wa,s.lr with
 | [],p::_=>if rdN cs p>s.t then rdN cs p else s.t
 | _,_=>s.t
def letM (cs:List Cm)(s:Bs):Bs:=⟨s.ds,(pops cs (tIn cs s) s.lr s.wa).1,(pops cs (tIn cs s) s.lr s.wa).2,tIn cs s,s.sr⟩
def V1 (rs:List RH)(cs:List Cm)(ds:List Int)(wa:List Nat)(p:Nat):Prop:=p∈wa/\∀q∈wa,ltL (keyN rs cs ds q) (keyN rs cs ds p)=Zm
def X3 (rs:List RH)(cs:List Cm)(ds:List Int)(wa:List Nat):Nat:=(wa.find? λ p=>wa.all λ q=>!ltL (keyN rs cs ds q) (keyN rs cs ds p)).getD 0
theorem V1.uniq (a:V1 rs cs ds wa p)(b:V1 rs cs ds wa q):p=q:=by
 have:=Jwa (a:=keyN rs cs ds p) (b:=keyN rs cs ds q) rfl (b.2 p a.1) (a.2 q b.1)
 simp only[keyN,ZeN,and_true] at this
 omega
theorem V1.eq (a:V1 rs cs ds wa p):X3 rs cs ds wa=p:=by
 unfold X3
 cases e:wa.find? λ p=>wa.all λ q=>!ltL (keyN rs cs ds q) (keyN rs cs ds p) with
 | none =>
  have:=List.find?_eq_none.mp e p a.1
  simp only[ZbZ,ZaV,Bool.not_eq_true] at this
  exact absurd a.2 this
 | some q =>
  have h1:=List.find?_some e
  simp only[ZbZ,ZaV] at h1
  exact V1.uniq ⟨List.mem_of_find?_eq_some e,h1⟩ a
def QM (hs:List Hd)(d len:Int):List Int:=len::(hs.filter λ a=>decide (d<a.2.2)).map (·.2.2)
def QN (hs:List Hd)(d len:Int):Int:=JL (λ i=>(QM hs d len).getD i 0) (QM hs d len).length
def JP (rs:List RH)(cs:List Cm)(s:Bs)(p:Nat):Int:=match s.lr with
 | []=>QN (hsN rs cs p) (s.ds.getD p 0) (lnN cs p)-s.ds.getD p 0
 | q::_=>if rdN cs q-s.t<QN (hsN rs cs p) (s.ds.getD p 0) (lnN cs p)-s.ds.getD p 0 then rdN cs q-s.t else QN (hsN rs cs p) (s.ds.getD p 0) (lnN cs p)-s.ds.getD p 0
def Vd (p:Nat)(t u:Int):List (Nat×Int×Int)->List (Nat×Int×Int)
 | []=>[(p,t,u)]
 | a::r=>if a.1=p then(p,a.2.1,u)::r else(p,t,u)::a::r
def doM (rs:List RH)(cs:List Cm)(s:Bs)(p:Nat)(n:Int):Bs:=⟨s.ds.set p (s.ds.getD p 0+n),s.lr,if s.ds.getD p 0+n=lnN cs p then s.wa.erase p else s.wa,s.t+n,Vd p s.t (s.t+n) s.sr⟩
def goM (rs:List RH)(cs:List Cm)(s:Bs):Bs:=doM rs cs s (X3 rs cs s.ds s.wa) (JP rs cs s (X3 rs cs s.ds s.wa))
def Qx (rs:List RH)(cs:List Cm)(s:Bs):Bs:=goM rs cs (letM cs s)
def runM (rs:List RH)(cs:List Cm):Nat->Bs->Bs
 | 0,s=>s
 | m+1,s=>if s.lr=[]/\s.wa=[] then s else runM rs cs m (Qx rs cs s)
def lr0 (cs:List Cm):List Nat:=(ordK (cs.map rdC).reverse cs.length).map λ i=>cs.length-1-i
def s0 (cs:List Cm):Bs:=⟨cs.map λ _=>0,lr0 cs,[],0,[]⟩
def finM (rs:List RH)(cs:List Cm):Bs:=runM rs cs (8*cs.length) (s0 cs)
theorem Jnc (hs:List Hd)(d len:Int):QN hs d len=len∨∃a∈hs,d<a.2.2/\QN hs d len=a.2.2:=by
 obtain⟨j,hj,e⟩:=Jll (λ i=>(QM hs d len).getD i 0) (QM hs d len).length (by simp[QM])
 unfold QN
 rw[e]
 cases j with
 | zero=>exact .inl rfl
 | succ j =>
  refine .inr ?_
  have hj':j<(hs.filter λ a=>decide (d<a.2.2)).length:=by simpa [QM] using hj
  have m:=ZB hj'
  rw[Za0] at m
  refine⟨_,m.1,of_decide_eq_true m.2,?_⟩
  simp[QM,Zg,Zb hj']
theorem Jmd (hs:List Hd)(d len:Int):QN hs d len<=len:=Jpy (λ i=>(QM hs d len).getD i 0) _ 0 (by simp[QM])
theorem Jyu (h:d<len):d<QN hs d len:=by
 rcases Jnc hs d len with e|⟨a,_,l,e⟩<;>omega
structure Wf (cs:List Cm)(s:Bs):Prop where
 ld:s.ds.length=cs.length
 mem:∀p∈s.lr++s.wa,p<cs.length
 nd:(s.lr++s.wa).Nodup
 srt:s.lr.Pairwise λ p q=>rdN cs p<=rdN cs q
 z:∀p∈s.lr++s.wa,0<=s.ds.getD p 0/\s.ds.getD p 0<lnN cs p
 dn:∀p,p<cs.length->p∉s.lr++s.wa->s.ds.getD p 0=lnN cs p
 z0:∀p∈s.lr,s.ds.getD p 0=0
 rw:∀p∈s.wa,rdN cs p<=s.t
theorem Jgz (cs:List Cm)(t:Int):∀(lr wa:List Nat),((pops cs t lr wa).1++(pops cs t lr wa).2).Perm (lr++wa)
 | [],wa=>.refl _
 | p::lr,wa=>by
  unfold pops
  split
  ·refine(Jgz cs t lr (wa++[p])).trans ?_
   rw[<- Zag]
   exact List.perm_append_singleton p (lr++wa)
  ·exact .refl _
theorem X5 (cs:List Cm)(t:Int):∀(lr wa:List Nat),∃a,lr=a++(pops cs t lr wa).1/\(pops cs t lr wa).2=wa++a/\(∀p∈a,rdN cs p<=t)/\∀q r,(pops cs t lr wa).1=q::r->t<rdN cs q
 | [],wa=>⟨[],rfl,by simp[pops],by simp,by simp[pops]⟩
 | p::lr,wa=>by
  unfold pops
  split
  ·rename_i c
   obtain⟨a,e1,e2,e3,e4⟩:=X5 cs t lr (wa++[p])
   exact⟨p::a,congrArg (p:: ·) e1,by rw[e2];simp,λ q hq=>by rcases Z2.mp hq with rfl|hq;exact c;exact e3 q hq,e4⟩
  ·rename_i c
   exact⟨[],rfl,by simp,by simp,λ q r e=>by cases e;omega⟩
theorem Jsi (cs:List Cm)(s:Bs):s.t<=tIn cs s:=by
 unfold tIn
 split
 ·split<;>omega
 ·omega
theorem Wf.let (w:Wf cs s):Wf cs (letM cs s):=by
 obtain⟨a,e1,e2,e3,e4⟩:=X5 cs (tIn cs s) s.lr s.wa
 have pm:=Jgz cs (tIn cs s) s.lr s.wa
 have tg:=Jsi cs s
 refine⟨w.ld,λ p hp=>w.mem p (pm.mem_iff.mp hp),pm.nodup_iff.mpr w.nd,?_,λ p hp=>w.z p (pm.mem_iff.mp hp),λ p l hp=>w.dn p l λ z=>hp (pm.mem_iff.mpr z),λ p hp=>w.z0 p ?_,λ p hp=>?_⟩
 ·have:=w.srt
  rw[e1] at this
  exact(Zb7.mp this).2.1
 ·rw[e1]
  exact Zo _ hp
 ·have hp:p∈(pops cs (tIn cs s) s.lr s.wa).2:=hp
  rw[e2] at hp
  rcases Zah.mp hp with hp|hp
  ·have:=w.rw p hp
   exact Zc5 this tg
  ·exact e3 p hp
theorem Jre {s:Bs}(ne:¬(s.lr=[]/\s.wa=[])):(letM cs s).wa≠[]:=by
 obtain⟨a,e1,e2,e3,e4⟩:=X5 cs (tIn cs s) s.lr s.wa
 intro e
 have e:(pops cs (tIn cs s) s.lr s.wa).2=[]:=e
 rw[e2] at e
 obtain⟨ew,ea⟩:=List.append_eq_nil_iff.mp e
 cases el:s.lr with
 | nil=>exact ne ⟨el,ew⟩
 | cons p r =>
  have:=e4 p r (by rw[<- el];simpa [ea] using e1.symm)
  have ht:tIn cs s=if rdN cs p>s.t then rdN cs p else s.t:=by unfold tIn;rw[ew,el]
  rw[ht] at this
  split at this<;>omega
theorem Jv7 (w:Wf cs s):∀q∈(letM cs s).lr,(letM cs s).t<rdN cs q:=by
 obtain⟨a,e1,e2,e3,e4⟩:=X5 cs (tIn cs s) s.lr s.wa
 have ws:=w.let.srt
 show ∀q∈(pops cs (tIn cs s) s.lr s.wa).1,tIn cs s<rdN cs q
 have ws:((pops cs (tIn cs s) s.lr s.wa).1).Pairwise _:=ws
 cases e:(pops cs (tIn cs s) s.lr s.wa).1 with
 | nil=>simp
 | cons p r =>
  have:=e4 p r e
  rw[e] at ws
  intro q hq
  rcases Z2.mp hq with rfl|hq
  ·exact this
  ·have:=(ZaB.mp ws).1 q hq
   omega
theorem Jg4 {s:Bs}(gt:∀q∈s.lr,s.t<rdN cs q)(l:s.ds.getD p 0<lnN cs p):0<JP rs cs s p/\s.ds.getD p 0+JP rs cs s p<=QN (hsN rs cs p) (s.ds.getD p 0) (lnN cs p):=by
 have:=Jyu (hs:=hsN rs cs p) l
 unfold JP
 split
 ·omega
 ·rename_i q r e
  have:=gt q (by rw[e];simp)
  split<;>omega
theorem Yd {α:Type}{l:List α}{i j:Nat}{x z:α}:(l.set i x).getD j z=if i=j/\j<l.length then x else l.getD j z:=by
 simp only[Zg,List.getElem?_set]
 by_cases e:i=j
 ·subst e
  by_cases l':i<l.length
  ·simp[l']
  ·simp[l',Zay (Zc4 l')]
 ·simp[e]
theorem Wf.do {rs:List RH}{cs:List Cm}{s:Bs}(w:Wf cs s){p:Nat}(hp:p∈s.wa){n:Int}(n0:0<n)(nl:s.ds.getD p 0+n<=lnN cs p):Wf cs (doM rs cs s p n):=by
 have lp:=w.mem p (Zo _ hp)
 have sub:(s.lr++(doM rs cs s p n).wa).Sublist (s.lr++s.wa):=by
  refine List.Sublist.append_left ?_ _
  show List.Sublist (if _ then _ else _) _
  split
  ·exact List.erase_sublist
  ·exact List.Sublist.refl _
 have nl':∀q∈s.lr,q≠p:=λ q hq e=>(Zb7.mp w.nd).2.2 q hq p hp e
 have nw:s.wa.Nodup:=(Zb7.mp w.nd).2.1
 have g:∀q,(doM rs cs s p n).ds.getD q 0=if p=q then s.ds.getD p 0+n else s.ds.getD q 0:=λ q=>by
  show(s.ds.set p _).getD q 0=_
  rw[Yd]
  by_cases e:p=q
  ·subst e;rw[if_pos ⟨rfl,by rw[w.ld];exact lp⟩,if_pos rfl]
  ·rw[if_neg λ z=>e z.1,if_neg e]
 refine⟨by show(s.ds.set _ _).length=_;rw[ZbB];exact w.ld,λ q hq=>w.mem q (sub.subset hq),w.nd.sublist sub,w.srt,λ q hq=>?_,λ q lq hq=>?_,λ q hq=>?_,λ q hq=>?_⟩
 ·have:=w.z q (sub.subset hq)
  rw[g]
  split
  ·rename_i e
   subst e
   refine⟨by omega,?_⟩
   rcases Zah.mp hq with hq|hq
   ·exact absurd rfl (nl' p hq)
   ·have hq:p∈if s.ds.getD p 0+n=lnN cs p then s.wa.erase p else s.wa:=hq
    split at hq
    ·exact absurd hq (List.Nodup.not_mem_erase nw)
    ·omega
  ·exact this
 ·rw[g]
  split
  ·rename_i e
   subst e
   have hq:p∉s.lr++if s.ds.getD p 0+n=lnN cs p then s.wa.erase p else s.wa:=hq
   split at hq
   ·assumption
   ·exact absurd (Zo _ hp) hq
  ·rename_i ne
   refine w.dn q lq λ z=>hq ?_
   show q∈s.lr++if s.ds.getD p 0+n=lnN cs p then s.wa.erase p else s.wa
   split
   ·rcases Zah.mp z with z|z
    ·exact ZY _ z
    ·exact Zo _ ((List.mem_erase_of_ne (ZO ne)).mpr z)
   ·exact z
 ·rw[g,if_neg (ZO (nl' q hq))]
  exact w.z0 q hq
 ·have:=w.rw q (by
   have hq:q∈if s.ds.getD p 0+n=lnN cs p then s.wa.erase p else s.wa:=hq
   split at hq
   ·exact ZeY hq
   ·exact hq)
  show _<=s.t+n
  omega
theorem Jl4:∀{wa:List Nat},wa≠[]->∃p,V1 rs cs ds wa p
 | [],h=>absurd rfl h
 | [p],_=>⟨p,by simp,λ q hq=>by rw[Z5.mp hq];exact Yg _⟩
 | p::q::r,_=>by
  obtain⟨m,hm,lm⟩:=Jl4 (rs:=rs) (cs:=cs) (ds:=ds) (wa:=q::r) (by simp)
  cases c:ltL (keyN rs cs ds p) (keyN rs cs ds m) with
  | true =>
   refine⟨p,by simp,λ x hx=>?_⟩
   rcases Z2.mp hx with rfl|hx
   ·exact Yg _
   ·cases z:ltL (keyN rs cs ds x) (keyN rs cs ds p) with
    | false=>rfl
    | true=>exact absurd (Jgv z c) (by rw[lm x hx];exact Zs)
  | false =>
   refine⟨m,Zi _ hm,λ x hx=>?_⟩
   rcases Z2.mp hx with rfl|hx
   ·exact c
   ·exact lm x hx
def V3 (rs:List RH)(cs:List Cm)(ds:List Int)(p:Nat):Nat:=((hsN rs cs p).filter λ a=>decide (ds.getD p 0<a.2.2)).length
def mea (rs:List RH)(cs:List Cm)(s:Bs):Nat:=(s.lr++s.wa).length+((Z9 cs.length).map (V3 rs cs s.ds)).sum+(s.lr.filter λ p=>decide (s.t<rdN cs p)).length
theorem Yb {α:Type}{f g:α->Bool}:∀{l:List α},(∀x∈l,f x=Zj->g x=Zj)->(l.filter f).length<=(l.filter g).length
 | [],_=>by simp
 | x::l,h=>by
  have ih:=Yb (l:=l) λ y hy=>h y (Zi _ hy)
  have:=h x (by simp)
  simp only[Zdz]
  split
  ·rename_i c
   rw[if_pos (this c)]
   simpa using ih
  ·split
   ·simp only[ZN];omega
   ·exact ih
theorem Jlq {α:Type}{f g:α->Bool}{a:α}:∀{l:List α},a∈l->f a=Zm->g a=Zj->(∀x∈l,f x=Zj->g x=Zj)->(l.filter f).length<(l.filter g).length
 | x::l,ha,fa,ga,h=>by
  have le:=Yb (l:=l) λ y hy=>h y (Zi _ hy)
  have hx:=h x (by simp)
  rcases Z2.mp ha with rfl|ha
  ·simp only[Zdz,fa,ga,if_true,ZX,if_false,ZN];omega
  ·have ih:=Jlq ha fa ga λ y hy=>h y (Zi _ hy)
   simp only[Zdz]
   split
   ·rename_i c
    rw[if_pos (hx c)]
    simpa using ih
   ·split
    ·simp only[ZN];omega
    ·exact ih
theorem Jm9 {f g:Nat->Nat}:∀{l:List Nat},(∀x∈l,f x<=g x)->(l.map f).sum<=(l.map g).sum
 | [],_=>Zr _
 | x::l,h=>by
  have:=h x (by simp)
  have:=Jm9 (l:=l) λ y hy=>h y (Zi _ hy)
  simp only[Z7,Zaw]
  omega
theorem Jwi {f g:Nat->Nat}{a:Nat}:∀{l:List Nat},a∈l->f a<g a->(∀x∈l,f x<=g x)->(l.map f).sum<(l.map g).sum
 | x::l,ha,la,h=>by
  have hx:=h x (by simp)
  have le:=Jm9 (l:=l) λ y hy=>h y (Zi _ hy)
  simp only[Z7,Zaw]
  rcases Z2.mp ha with rfl|ha
  ·omega
  ·have:=Jwi ha la λ y hy=>h y (Zi _ hy)
   omega
theorem Jxz (rs:List RH)(cs:List Cm)(s:Bs):mea rs cs (letM cs s)<=mea rs cs s:=by
 obtain⟨a,e1,e2,e3,e4⟩:=X5 cs (tIn cs s) s.lr s.wa
 have pm:=(Jgz cs (tIn cs s) s.lr s.wa).length_eq
 have tg:=Jsi cs s
 show((pops cs (tIn cs s) s.lr s.wa).1++(pops cs (tIn cs s) s.lr s.wa).2).length+_+((pops cs (tIn cs s) s.lr s.wa).1.filter λ p=>decide (tIn cs s<rdN cs p)).length<=_
 rw[pm]
 unfold mea
 have h1:=Yb (f:=λ p=>decide (tIn cs s<rdN cs p)) (g:=λ p=>decide (s.t<rdN cs p)) (l:=(pops cs (tIn cs s) s.lr s.wa).1) λ x _ c=>decide_eq_true (Int.lt_of_le_of_lt tg (of_decide_eq_true c))
 have h2:(s.lr.filter λ p=>decide (s.t<rdN cs p)).length=(a.filter λ p=>decide (s.t<rdN cs p)).length+((pops cs (tIn cs s) s.lr s.wa).1.filter λ p=>decide (s.t<rdN cs p)).length:=by
  conv=>lhs;rw[e1]
  rw[List.filter_append,Z1]
 have h3:((Z9 cs.length).map (V3 rs cs (letM cs s).ds)).sum=((Z9 cs.length).map (V3 rs cs s.ds)).sum:=rfl
 omega
theorem J0l (w:Wf cs s)(gt:∀q∈s.lr,s.t<rdN cs q){p:Nat}(hp:p∈s.wa):mea rs cs (doM rs cs s p (JP rs cs s p))<mea rs cs s:=by
 have lp:=w.mem p (Zo _ hp)
 obtain⟨n0,nl⟩:=Jg4 (rs:=rs) gt (w.z p (Zo _ hp)).2
 have sl:=Jmd (hsN rs cs p) (s.ds.getD p 0) (lnN cs p)
 have hn:∀n,n=JP rs cs s p->0<n/\s.ds.getD p 0+n<=lnN cs p:=λ n e=>by rw[e];exact⟨n0,by omega⟩
 have cases3:(s.ds.getD p 0+JP rs cs s p=lnN cs p)∨(∃a∈hsN rs cs p,s.ds.getD p 0<a.2.2/\s.ds.getD p 0+JP rs cs s p=a.2.2)∨∃q∈s.lr,s.t+JP rs cs s p=rdN cs q:=by
  unfold JP
  have:=Jnc (hsN rs cs p) (s.ds.getD p 0) (lnN cs p)
  split
  ·rcases this with e|⟨a,ha,l,e⟩
   ·exact .inl (by omega)
   ·exact .inr (.inl ⟨a,ha,l,by omega⟩)
  ·rename_i q r e
   split
   ·exact .inr (.inr ⟨q,by rw[e];simp,by omega⟩)
   ·rcases this with e|⟨a,ha,l,e⟩
    ·exact .inl (by omega)
    ·exact .inr (.inl ⟨a,ha,l,by omega⟩)
 generalize JP rs cs s p=n at n0 nl cases3
 have gd:∀q,(s.ds.set p (s.ds.getD p 0+n)).getD q 0=if p=q then s.ds.getD p 0+n else s.ds.getD q 0:=λ q=>by
  rw[Yd]
  by_cases e:p=q
  ·subst e;rw[if_pos ⟨rfl,by rw[w.ld];exact lp⟩,if_pos rfl]
  ·rw[if_neg λ z=>e z.1,if_neg e]
 have m2:∀q∈Z9 cs.length,V3 rs cs (s.ds.set p (s.ds.getD p 0+n)) q<=V3 rs cs s.ds q:=λ q _=>Yb λ x _ c=>by
  have c:=of_decide_eq_true c
  rw[gd] at c
  refine decide_eq_true ?_
  split at c
  ·rename_i e;subst e;omega
  ·exact c
 have m3:∀x∈s.lr,decide (s.t+n<rdN cs x)=Zj->decide (s.t<rdN cs x)=Zj:=λ x _ c=>decide_eq_true (by have:=of_decide_eq_true c;omega)
 have l2:=Jm9 m2
 have l3:=Yb m3
 have lw:(s.lr++if s.ds.getD p 0+n=lnN cs p then s.wa.erase p else s.wa).length<=(s.lr++s.wa).length:=by
  rw[Z1,Z1]
  split
  ·have:=Zeo hp
   omega
  ·omega
 show(s.lr++if s.ds.getD p 0+n=lnN cs p then s.wa.erase p else s.wa).length+((Z9 cs.length).map (V3 rs cs (s.ds.set p (s.ds.getD p 0+n)))).sum+(s.lr.filter λ x=>decide (s.t+n<rdN cs x)).length<(s.lr++s.wa).length+((Z9 cs.length).map (V3 rs cs s.ds)).sum+(s.lr.filter λ x=>decide (s.t<rdN cs x)).length
 rcases cases3 with e|⟨a,ha,la,e⟩|⟨q,hq,e⟩
 ·rw[if_pos e,Z1,Z1]
  have:=Zeo hp
  have:=List.length_pos_of_mem hp
  omega
 ·have:=Jwi (ZR.mpr lp) (Jlq (a:=a) (f:=λ a=>decide ((s.ds.set p (s.ds.getD p 0+n)).getD p 0<a.2.2)) (g:=λ a=>decide (s.ds.getD p 0<a.2.2)) ha (decide_eq_false (by rw[gd,if_pos rfl];omega)) (decide_eq_true la) λ x _ c=>by
   have c:=of_decide_eq_true c
   rw[gd,if_pos rfl] at c
   exact decide_eq_true (by omega)) m2
  omega
 ·have:=Jlq (a:=q) (f:=λ x=>decide (s.t+n<rdN cs x)) (g:=λ x=>decide (s.t<rdN cs x)) hq (decide_eq_false (by omega)) (decide_eq_true (gt q hq)) m3
  omega
section
seal L4.run
abbrev nI (n:Nat):IV:=.int (n:Int)
abbrev tupS (a:Nat×Int×Int):IV:=.tup [.int (a.1:Int),.int a.2.1,.int a.2.2]
def bfs (O R D L W:Nat)(t:Int)(S:Nat):List (Str×IV):=[("order",.ref O),("row",.ref R),("dones",.ref D),("later",.ref L),("waiting",.ref W),("turn",.int t),("stretches",.ref S)]
section
variable {O R D L W S:Nat}{t u:Int}
theorem bf0:(bfs O R D L W t S).lookup ("order":Str)=Za (.ref O):=by kernel_rfl
theorem bf1:(bfs O R D L W t S).lookup ("row":Str)=Za (.ref R):=by kernel_rfl
theorem bf2:(bfs O R D L W t S).lookup ("dones":Str)=Za (.ref D):=by kernel_rfl
theorem bf3:(bfs O R D L W t S).lookup ("later":Str)=Za (.ref L):=by kernel_rfl
theorem bf4:(bfs O R D L W t S).lookup ("waiting":Str)=Za (.ref W):=by kernel_rfl
theorem bf5:(bfs O R D L W t S).lookup ("turn":Str)=Za (.int t):=by kernel_rfl
theorem bf6:(bfs O R D L W t S).lookup ("stretches":Str)=Za (.ref S):=by kernel_rfl
theorem bn0:(bfs O R D L W t S).lookup ("next_ready":Str)=Zd:=by kernel_rfl
theorem bn1:(bfs O R D L W t S).lookup ("let_in":Str)=Zd:=by kernel_rfl
theorem bn2:(bfs O R D L W t S).lookup ("turns_for":Str)=Zd:=by kernel_rfl
theorem bn3:(bfs O R D L W t S).lookup ("tell":Str)=Zd:=by kernel_rfl
theorem bn4:(bfs O R D L W t S).lookup ("go_on":Str)=Zd:=by kernel_rfl
theorem bft:putI "turn" (.int u) (bfs O R D L W t S)=bfs O R D L W u S:=by kernel_rfl
end
structure Bg (h0:IH)(rs:List RH)(cs:List Cm)(O R:Nat):Prop where
 o:IsOr h0 O rs
 r:h0[R]?=Za (.lst (cs.map tupC))
 c:∀c∈cs,c.at_<rs.length
 l6:∀r∈rs,r.2.length<=6
 p1:h0[0]?=Za (.tab "Order.pick")
 n:cs.length<=200
structure Bn (h0 h:IH)(B O R D L W S:Nat)(s:Bs):Prop where
 x:Ex h0 h
 ap:h0.length<=B/\B<D/\D<L/\L<W/\W<S
 b:h[B]?=Za (.ins "Bench" (bfs O R D L W s.t S))
 d:h[D]?=Za (.lst (s.ds.map .int))
 l:h[L]?=Za (.lst (s.lr.reverse.map nI))
 w:h[W]?=Za (.lst (s.wa.map nI))
 s:h[S]?=Za (.lst (s.sr.reverse.map tupS))
theorem QV {h0 h:IH}{i:Nat}{o:IX}(x:Ex h0 h)(l:h0.length<=i):Ex h0 (h.set i o):=by
 obtain⟨g,rfl⟩:=x
 exact⟨g.set (i-h0.length) o,by rw[Zdt _ _ l]⟩
theorem J6 {h:IH}{i j:Nat}{o o':IX}(e:h[j]?=Za o)(n:i≠j):(h.set i o')[j]?=Za o:=by rw[Zad n];exact e
theorem QA {h:IH}{i:Nat}{o o':IX}(e:h[i]?=Za o):(h.set i o')[i]?=Za o':=ZZ (J8 e)
section
variable {h0 h h':IH}{B O R D L W S:Nat}{s:Bs}
theorem Bn.ex (b:Bn h0 h B O R D L W S s)(x:Ex h h'):Bn h0 h' B O R D L W S s:=⟨b.x.trans x,b.ap,x.get b.b,x.get b.d,x.get b.l,x.get b.w,x.get b.s⟩
theorem Bn.setT (b:Bn h0 h B O R D L W S s)(u:Int):Bn h0 (h.set B (.ins "Bench" (bfs O R D L W u S))) B O R D L W S ⟨s.ds,s.lr,s.wa,u,s.sr⟩ :=
 have ap:=b.ap
 ⟨QV b.x (by omega),ap,QA b.b,J6 b.d (by omega),J6 b.l (by omega),J6 b.w (by omega),J6 b.s (by omega)⟩
theorem Bn.setD (b:Bn h0 h B O R D L W S s)(ds:List Int):Bn h0 (h.set D (.lst (ds.map .int))) B O R D L W S ⟨ds,s.lr,s.wa,s.t,s.sr⟩ :=
 have ap:=b.ap
 ⟨QV b.x (by omega),ap,J6 b.b (by omega),QA b.d,J6 b.l (by omega),J6 b.w (by omega),J6 b.s (by omega)⟩
theorem Bn.setL (b:Bn h0 h B O R D L W S s)(lr:List Nat):Bn h0 (h.set L (.lst (lr.reverse.map nI))) B O R D L W S ⟨s.ds,lr,s.wa,s.t,s.sr⟩ :=
 have ap:=b.ap
 ⟨QV b.x (by omega),ap,J6 b.b (by omega),J6 b.d (by omega),QA b.l,J6 b.w (by omega),J6 b.s (by omega)⟩
theorem Bn.setW (b:Bn h0 h B O R D L W S s)(wa:List Nat):Bn h0 (h.set W (.lst (wa.map nI))) B O R D L W S ⟨s.ds,s.lr,wa,s.t,s.sr⟩ :=
 have ap:=b.ap
 ⟨QV b.x (by omega),ap,J6 b.b (by omega),J6 b.d (by omega),J6 b.l (by omega),QA b.w,J6 b.s (by omega)⟩
theorem Bn.setS (b:Bn h0 h B O R D L W S s)(sr:List (Nat×Int×Int)):Bn h0 (h.set S (.lst (sr.reverse.map tupS))) B O R D L W S ⟨s.ds,s.lr,s.wa,s.t,sr⟩ :=
 have ap:=b.ap
 ⟨QV b.x (by omega),ap,J6 b.b (by omega),J6 b.d (by omega),J6 b.l (by omega),J6 b.w (by omega),QA b.s⟩
end
theorem Jpt {α:Type}{f:α->IV}{p:α}{lr:List α}:atI ((p::lr).reverse.map f) (-1)=Za (f p):=by
 have e:(-1+((lr.length:Int)+1)).toNat=lr.length:=by omega
 have l:(1:Int)<=(lr.length:Int)+1:=by omega
 simp[atI,ixN,e,l]
theorem Jmj {cs:List Cm}{p:Nat}(lp:p<cs.length):atI (cs.map tupC) (p:Int)=Za (tupC (cs.getD p cd)):=JQ (by rw[Zy,Zg,Zb lp];rfl)
theorem Jwx {ds:List Int}{p:Nat}(lp:p<ds.length):atI (ds.map IV.int) (p:Int)=Za (.int (ds.getD p 0)):=JQ (by rw[Zy,Zg,Zb lp];rfl)
section
variable {k:Nat}{h0 h:IH}{rs:List RH}{cs:List Cm}{B O R D L W S:Nat}{s:Bs}{P:IV->IH->Prop}
theorem J24 (g:Bg h0 rs cs O R)(b:Bn h0 h B O R D L W S s){p:Nat}{lr:List Nat}(e:s.lr=p::lr)(lp:p<cs.length):Jad (k+2) [.ref B] h=.ok (.int (rdN cs p)) h:=by
 have bl:=b.l
 rw[e] at bl
 refine Jq ?_
 rw[Jdn]
 exact xfin (xret (Je (Qd (arg1 (ixlE (fldE rfl b.b bf1) (ixlE (fldE rfl b.b bf3) rfl bl Jpt) (b.x.get g.r) (Jmj lp))) Jf0) ⟨rfl,rfl⟩))
theorem nrE {Pn:List (Option IV)}(g:Bg h0 rs cs O R)(b:Bn h0 h B O R D L W S s){p:Nat}{lr:List Nat}(e:s.lr=p::lr)(lp:p<cs.length):Jp (pg (k+2)) "next_ready" 0 (Ja 0) Jd (Za (.ref B)::Pn) h=.ok (.int (rdN cs p)) h :=
 dotE rfl b.b bn0 (Jdm _) rfl (J24 g b e lp)
theorem Jrs {cs:List Cm}{t:Int}{p:Nat}{lr wa:List Nat}:pops cs t (p::lr) wa=if rdN cs p<=t then pops cs t lr (wa++[p]) else(p::lr,wa):=rfl
theorem Jv8 (g:Bg h0 rs cs O R)(ml:∀p∈s.lr,p<cs.length)(hl:s.lr.length+s.wa.length<=1000)(b:Bn h0 h B O R D L W S s) :
  WS (Jby (k+2) [Za (.ref B)] h) (λ _ h'=>Bn h0 h' B O R D L W S ⟨s.ds,(pops cs s.t s.lr s.wa).1,(pops cs s.t s.lr s.wa).2,s.t,s.sr⟩) P:=by
 have hb:=J9
 refine Jod (λ m σ h'=>∃lr wa,σ=[Za (.ref B)]/\Bn h0 h' B O R D L W S ⟨s.ds,lr,wa,s.t,s.sr⟩/\lr.length=m/\lr.length+wa.length<=1000/\(∀p∈lr,p<cs.length)/\pops cs s.t lr wa=pops cs s.t s.lr s.wa) ?_ (show s.lr.length<1000000 by omega) ⟨s.lr,s.wa,rfl,b,rfl,hl,ml,rfl⟩
 rintro m _ h1 ⟨lr,wa,rfl,b,lm,l2,ml,ep⟩
 refine J17 (Je (gtE (lenE (fldE rfl b.b bf3) b.l) rfl) (xdec (λ c=>?_) λ c=>?_))
 ·cases lr with
  | nil=>exact absurd c (by simp)
  | cons p lr =>
   rw[Jrs] at ep
   refine Je (leE (nrE g b rfl (ml p (by simp))) (fldE rfl b.b bf5)) (xdec (λ c=>?_) λ c=>?_)
   ·refine⟨lr.length,by simpa using lm.symm,?_⟩
    refine QH (Vh (fldE rfl b.b bf4) b.w VN (xb (Vh (fldE rfl b.b bf3) b.l Jpw (Je rfl (xpop (y:=nI p) b.l (by simp) ?_)))))
    have e:(((p::lr).reverse.map nI).dropLast)=lr.reverse.map nI:=by simp
    rw[e]
    have b1:=b.setL lr
    refine xb (Je rfl (Je rfl (xapp b1.w (by simp at l2 ⊢;omega) ⟨lr,wa++[p],rfl,?_,rfl,by simp at l2 ⊢;omega,λ q hq=>ml q (Zi _ hq),by rw[<- ep,if_pos c]⟩)))
    have:=b1.setW (wa++[p])
    rw[ZbC] at this
    exact this
   ·rw[if_neg c] at ep
    rw[<- ep]
    exact b
 ·cases lr with
  | nil=>exact⟨(λ z=>by cases z),λ _=>by rw[<- ep];exact b⟩
  | cons p lr=>exact absurd (by simp) c
theorem J22 (g:Bg h0 rs cs O R)(ml:∀p∈s.lr,p<cs.length)(hl:s.lr.length+s.wa.length<=1000)(ne:¬(s.lr=[]/\s.wa=[]))(b:Bn h0 h B O R D L W S s) :
  WR (Ja9 (k+3) [.ref B] h) λ v h'=>v=.non/\Bn h0 h' B O R D L W S (letM cs s):=by
 rw[Jgo]
 refine xfin (xseq (xifd (eqE (lenE (fldE rfl b.b bf4) b.w) rfl) (λ c=>?_) λ c=>?_))
 ·have ew:s.wa=[]:=Zdc.mp (by simpa using c)
  cases el:s.lr with
  | nil=>exact absurd ⟨el,ew⟩ ne
  | cons p lr =>
   have et:tIn cs s=if rdN cs p>s.t then rdN cs p else s.t:=by unfold tIn;rw[ew,el]
   refine Vi (maxE (fldE rfl b.b bf5) (nrE g b el (ml p (by rw[el];simp)))) rfl b.b (by show(7:Nat)<1000;decide) ?_
   rw[bft]
   have b1:=b.setT (if rdN cs p>s.t then rdN cs p else s.t)
   refine WS.mono (Jv8 (s:=⟨s.ds,s.lr,s.wa,if rdN cs p>s.t then rdN cs p else s.t,s.sr⟩) g ml hl b1) (λ _ h' q=>⟨rfl,?_⟩) λ _ _ z=>z
   unfold letM
   rw[et]
   exact q
 ·have et:tIn cs s=s.t:=by
   unfold tIn
   split
   ·rename_i e _
    rw[e] at c
    exact absurd rfl c
   ·rfl
  refine xnil (WS.mono (Jv8 g ml hl b) (λ _ h' q=>⟨rfl,?_⟩) λ _ _ z=>z)
  unfold letM
  rw[et]
  exact q
end
end
section
seal L4.run
def enP (d:Int):IV->Bool
 | .tup [_,_,.int e]=>decide (d<e)
 | _=>Zm
def enF:IV->IV
 | .tup [_,_,e]=>e
 | _=>.non
theorem Jzo (hs:List Hd)(d:Int):((hs.map tupH).filter (enP d)).map enF=((hs.filter λ a=>decide (d<a.2.2)).map (·.2.2)).map .int:=by
 induction hs with
 | nil=>rfl
 | cons a hs ih =>
  simp only[Z7,Zdz]
  rw[show enP d (tupH a)=decide (d<a.2.2) from rfl]
  split
  ·simp only[Z7,ih];rfl
  ·exact ih
section
variable {k:Nat}{h0 h:IH}{rs:List RH}{cs:List Cm}{B O R D L W S:Nat}{s:Bs}{P:IV->IH->Prop}
theorem J25 {gap ln due late d len:Int}{hs:List Hd}(hw:h[w]?=Za (.ins "Work" (wfs name gap ln due late (hs.map tupH))))(l6:hs.length<=6) :
  WR (Jdi (k+2) [.ref w,.int d,.int len] h) λ v h'=>v=.int (QN hs d len)/\Ex h h':=by
 have hb:=J9
 rw[Jkm]
 have x1:Ex h (h++[.lst [.int len]]):=.one _ _
 refine xfin (xret (xb (xb (xb (xlst (Je (arg1 rfl) ⟨by simp;omega,xb ?_⟩))))))
 refine WR.mono (Jjk (h:=h++[.lst [.int len]]++[.lst (hs.map tupH)]) (xs:=hs.map tupH) (chk:=λ h'=>h'[(h++[IX.lst [IV.int len]]).length]?=Za (.lst (hs.map tupH))) (p:=enP d) (f:=enF) ?_ (by rw[Zn];omega) (λ h2 q=>q _ _ grown) ?_ ?_) ?_
 ·rw[Qy]
  exact Je (dotE rfl (x1.get hw) flh (Jfe _) rfl (Jlg (x1.get hw))) ((Qb _).mpr ⟨_,grown,rfl,rfl,rfl⟩)
 ·intro v hv h2 q
  obtain⟨a,_,rfl⟩:=ZD.mp hv
  exact Je (gtE (ixtE rfl rfl Vn) rfl) ⟨rfl,.refl _⟩
 ·intro v hv _ h2 q
  obtain⟨a,_,rfl⟩:=ZD.mp hv
  exact Je (ixtE rfl rfl Vn) ⟨rfl,.refl _⟩
 ·rintro _ _ ⟨rfl,g,rfl⟩
  rw[Jzo]
  have lf:=Zbu (λ a:Hd=>decide (d<a.2.2)) hs
  have x2:Ex (h++[.lst [.int len]]) (h++[.lst [.int len]]++[.lst (hs.map tupH)]++.lst (((hs.filter λ a=>decide (d<a.2.2)).map (·.2.2)).map .int)::g):=(Ex.one _ _).trans (.cons _ _ _)
  refine(Jsp ..).mpr ⟨_,x2.get grown,_,Jz,by simp;omega,?_⟩
  refine xb (Je rfl (Je rfl ?_))
  rw[Vg,show[IV.int len]++((hs.filter λ a=>decide (d<a.2.2)).map (·.2.2)).map .int=(QM hs d len).map .int from rfl,Jsv grown (by simp[QM])]
  exact⟨rfl,(x1.trans x2).trans (.one _ _)⟩
theorem J31 (g:Bg h0 rs cs O R)(ml:∀p∈s.lr,p<cs.length)(b:Bn h0 h B O R D L W S s)(lp:p<cs.length)(ld:s.ds.length=cs.length) :
  WR (Jag (k+3) [.ref B,nI p] h) λ v h'=>v=.int (JP rs cs s p)/\Ex h h':=by
 obtain⟨Du,⟨vs,gD,w⟩,fd⟩:=Jl2 (g.o.kp b.x.kp)
 have ca:(cs.getD p cd).at_<rs.length:=g.c _ (by rw[Zg,Zb lp];exact ZB lp)
 have l6:=g.l6 _ (ZB ca)
 obtain⟨j,ej,gj⟩:=w.get (Zb ca)
 have av:atI vs ((cs.getD p cd).at_:Int)=Za (.ref j):=JQ ej
 have hh:hsN rs cs p=(rs[(cs.getD p cd).at_]).2:=by unfold hsN;rw[Xs ca]
 rw[<- hh] at l6
 rw[Jeh]
 refine xfin (xseq (xset (Je (ixlE (fldE rfl b.b bf1) rfl (b.x.get g.r) (Jmj lp)) (xseq (xset (Je (ixlE (fldE rfl b.b bf2) rfl b.d (Jwx (by omega))) ?_))))))
 refine xseq (xset (xb (xb (xb (Je (dotE (fd _ _ (fldE rfl b.b bf0)) gD dlw (Jcn _) (arg1 (ixtE rfl rfl Qi)) (Jgl gD av)) (xb (Je (arg2 rfl (ixtE rfl rfl VM)) (Je rfl ?_))))))))
 have gj:h[j]?=Za (.ins "Work" (wfs _ _ _ _ _ ((rs[(cs.getD p cd).at_]).2.map tupH))):=gj
 rw[<- hh] at gj
 refine WR.mono (J25 (k:=k) gj l6) ?_
 rintro _ h1 ⟨rfl,x1⟩
 have b1:=b.ex x1
 refine xb (Je rfl (Je rfl (xseq (xifd (gtE (lenE (fldE rfl b1.b bf3) b1.l) rfl) (λ c=>?_) λ c=>?_))))
 ·cases el:s.lr with
  | nil=>rw[el] at c;exact absurd c (by simp)
  | cons q lr =>
   refine xset (Je (minE rfl (subE (nrE g b1 el (ml q (by rw[el];simp))) (fldE rfl b1.b bf5))) (xret (Je rfl ⟨?_,x1⟩)))
   unfold JP
   rw[el]
   rfl
 ·refine xnil (xret (Je rfl ⟨?_,x1⟩))
  have el:s.lr=[]:=by
   cases el:s.lr with
   | nil=>rfl
   | cons q lr=>rw[el] at c;exact absurd (by simp) c
  unfold JP
  rw[el]
  rfl
theorem J30 (b:Bn h0 h B O R D L W S s)(sl:s.sr.length<100000):WR (Jb7 (k+1) [.ref B,nI p,.int u] h) λ v h'=>v=.non/\Bn h0 h' B O R D L W S ⟨s.ds,s.lr,s.wa,s.t,Vd p s.t u s.sr⟩:=by
 have hb:=J9
 have fin:∀{h1:IH}{bg:Int}{r:List (Nat×Int×Int)},Bn h0 h1 B O R D L W S ⟨s.ds,s.lr,s.wa,s.t,r⟩->r.length<=s.sr.length->Vd p s.t u s.sr=(p,bg,u)::r ->
   WS (Jcy k [Za (.ref B),Za (nI p),Za (.int u),Za (.int bg)] h1) (λ _ h'=>IV.non=.non/\Bn h0 h' B O R D L W S ⟨s.ds,s.lr,s.wa,s.t,Vd p s.t u s.sr⟩) λ v h'=>v=.non/\Bn h0 h' B O R D L W S ⟨s.ds,s.lr,s.wa,s.t,Vd p s.t u s.sr⟩:=by
  intro h1 bg r b1 lr et
  refine QH (Vh (fldE rfl b1.b bf6) b1.s VN (xb (xtup (xb (Je rfl (xb (Je (arg2 rfl rfl) (Je rfl ⟨by simp;omega,xb (Je rfl (Je rfl (xapp b1.s (by simp;omega) ⟨rfl,?_⟩)))⟩))))))))
  have:=b1.setS ((p,bg,u)::r)
  rw[ZbL,ZbC] at this
  rw[et]
  exact this
 rw[Jii]
 refine xfin (xseq (xset (Je (fldE rfl b.b bf5) (xseq (xif (J17 (Je (gtE (lenE (fldE rfl b.b bf6) b.s) rfl) (xdec (λ c=>?_) λ c=>?_))))))))
 ·cases es:s.sr with
  | nil=>rw[es] at c;exact absurd c (by simp)
  | cons a r =>
   have bs:=b.s
   rw[es] at bs
   refine Je (eqE (ixtE (ixlE (fldE rfl b.b bf6) rfl bs Jpt) rfl Qi) rfl) (xdec (λ c=>?_) λ c=>?_)
   ·refine xset (xb (Vh (fldE rfl b.b bf6) bs Jpw (Je rfl (xpop (y:=tupS a) bs (by simp) (xb (Je rfl (xixt QT ?_)))))))
    have e:((a::r).reverse.map tupS).dropLast=r.reverse.map tupS:=by simp
    rw[e]
    rw[<- es]
    refine fin (r:=r) (b.setS r) (by rw[es];simp) ?_
    rw[es]
    exact if_pos (by omega)
   ·refine xnil ?_
    rw[<- es]
    refine fin (r:=s.sr) b (Zr _) ?_
    rw[es]
    exact if_neg λ z=>c (by rw[z])
 ·refine⟨(λ z=>by cases z),λ _=>xnil (fin (r:=s.sr) b (Zr _) ?_)⟩
  cases es:s.sr with
  | nil=>rfl
  | cons a r=>rw[es] at c;exact absurd (by simp) c
theorem Jrh {α β:Type}{f:α->β}:∀(l:List α)(j:Nat),(l.map f).eraseIdx j=(l.eraseIdx j).map f
 | [],_=>rfl
 | _::_,0=>rfl
 | a::l,j+1=>congrArg (f a:: ·) (Jrh l j)
theorem Jql {wa:List Nat}{p j:Nat}(e:(wa.map λ n:Nat=>(n:Int)).findIdx? (· ==(p:Int))=Za j):wa.eraseIdx j=wa.erase p:=by
 rw[List.findIdx?_map] at e
 have e:wa.findIdx? (· ==p)=Za j:=by
  rw[<- e]
  congr 1
  funext x
  show(x==p)=((x:Int)==(p:Int))
  rw[ZcL,beq_iff_eq,beq_iff_eq]
  omega
 rw[List.erase_eq_eraseIdx,show List.idxOf? p wa=Za j from e]
theorem J2o (g:Bg h0 rs cs O R)(w:Wf cs s)(ne:¬(s.lr=[]/\s.wa=[]))(sl:s.sr.length<100000)(b:Bn h0 h B O R D L W S s):WR (Jbe (k+6) [.ref B] h) λ v h'=>v=.non/\Bn h0 h' B O R D L W S (Qx rs cs s):=by
 have ll:(s.lr++s.wa).length<=cs.length:=by
  have:=w.nd.length_le_of_subset (l₂:=Z9 cs.length) λ p hp=>ZR.mpr (w.mem p hp)
  rwa [ZaX] at this
 rw[Z1] at ll
 have cn:=g.n
 have w1:=w.let
 have n1:=Jre (cs:=cs) ne
 rw[Jhe]
 refine xfin (xseq (QH (XJ rfl b.b bn1 (Jgk _) (Je rfl (WR.mono (J22 (k:=k+2) g (λ p hp=>w.mem p (ZY _ hp)) (by omega) ne b) ?_)))))
 rintro _ h1 ⟨rfl,b1⟩
 have o1:=g.o.kp b1.x.kp
 unfold Qx
 have hsl:(letM cs s).sr.length<100000:=sl
 generalize letM cs s=s1 at *
 refine xseq (xset (Joe o1 (fldE rfl b1.b bf0) (by rw[show ∀(a b c:E1)(σ:ISt),Jb a (Jb b (Jb c Jd)) σ h1=(a σ h1).bind λ x h1=>((Jb b (Jb c Jd)) σ h1).bind λ xs h2=>.ok (x::xs) h2 from λ _ _ _ _=>rfl,fldE rfl b1.b bf1];exact congrArg (λ r=>Res.bind r _) (arg2 (fldE rfl b1.b bf4) (fldE rfl b1.b bf2))) (WR.mono (Jyb (k:=k) (b1.x.get g.p1) o1 g.l6 g.c (b1.x.get g.r) b1.w b1.d w1.ld n1 λ p hp=>w1.mem p (Zo _ hp)) ?_)))
 rintro _ h2 ⟨p,hp,rfl,lm,x2⟩
 have ep:=V1.eq ⟨hp,lm⟩
 have lp:=w1.mem p (Zo _ hp)
 have ld:=w1.ld
 have b2:=b1.ex x2
 refine xseq (xset (XJ rfl b2.b bn2 (Jef _) (Je (arg1 rfl) (WR.mono (J31 (k:=k+2) g (λ q hq=>w1.mem q (ZY _ hq)) b2 lp ld) ?_))))
 rintro _ h3 ⟨rfl,x3⟩
 have b3:=b2.ex x3
 unfold goM
 rw[ep]
 generalize JP rs cs s1 p=n
 refine xseq (QH (XJ rfl b3.b bn3 (Jid _) (Je (arg2 rfl (addE (fldE rfl b3.b bf5) rfl)) (WR.mono (J30 (k:=k+4) b3 hsl) ?_))))
 rintro _ h4 ⟨rfl,b4⟩
 refine xseq (J39 rfl b4.b bf5 rfl b4.b (by show(7:Nat)<1000;decide) ?_)
 rw[bft]
 have b5:Bn h0 _ B O R D L W S ⟨s1.ds,s1.lr,s1.wa,s1.t+n,Vd p s1.t (s1.t+n) s1.sr⟩:=b4.setT (s1.t+n)
 refine xseq (J4a (fldE rfl b5.b bf2) rfl b5.d (Jwx (by show p<s1.ds.length;omega)) (by omega) rfl b5.d (j:=p) (by rw[Zn];simp[ixN];omega) ?_)
 have b6:Bn h0 _ B O R D L W S ⟨s1.ds.set p (s1.ds.getD p 0+n),s1.lr,s1.wa,s1.t+n,Vd p s1.t (s1.t+n) s1.sr⟩:=b5.setD (s1.ds.set p (s1.ds.getD p 0+n))
 rw[<- List.map_set]
 refine xifd (eqE (ixlE (fldE rfl b6.b bf2) rfl b6.d (Jwx (by rw[ZbB];omega))) (ixtE (ixlE (fldE rfl b6.b bf1) rfl (b6.x.get g.r) (Jmj lp)) rfl VM)) (λ c=>?_) λ c=>?_
 ·rw[Yd,if_pos ⟨rfl,by omega⟩] at c
  have eN:s1.wa.map nI=(s1.wa.map λ n:Nat=>(n:Int)).map .int:=by rw[Zak];rfl
  have gw:=b6.w
  obtain⟨j,hj⟩:∃j,(s1.wa.map λ n:Nat=>(n:Int)).findIdx? (· ==(p:Int))=Za j:=by
   cases z:(s1.wa.map λ n:Nat=>(n:Int)).findIdx? (· ==(p:Int)) with
   | none =>
    have:=Zec.mp z p (ZD.mpr ⟨p,hp,rfl⟩)
    simp at this
   | some j=>exact⟨j,rfl⟩
  refine QH (Vh (fldE rfl b6.b bf4) gw Jpx (Je (arg1 rfl) (xrem (ns:=s1.wa.map λ n:Nat=>(n:Int)) (by rw[<- eN];exact gw) hj ⟨rfl,?_⟩)))
  have b7:=b6.setW (s1.wa.erase p)
  unfold doM
  rw[if_pos (show _=lnN cs p from c),<-eN,Jrh,Jql hj]
  exact b7
 ·rw[Yd,if_pos ⟨rfl,by omega⟩] at c
  refine xnil ⟨rfl,?_⟩
  unfold doM
  rw[if_neg (show ¬_=lnN cs p from c)]
  exact b6
end
end
section
seal L4.run
section
variable {O R D L W S:Nat}
theorem bp0:putI "order" (.ref O) ([]:List (Str×IV))=(bfs O 0 0 0 0 0 0).take 1:=by kernel_rfl
theorem bp1:putI "row" (.ref R) ((bfs O 0 0 0 0 0 0).take 1)=(bfs O R 0 0 0 0 0).take 2:=by kernel_rfl
theorem bp2:putI "dones" (.ref D) ((bfs O R 0 0 0 0 0).take 2)=(bfs O R D 0 0 0 0).take 3:=by kernel_rfl
theorem bp3:putI "later" (.ref L) ((bfs O R D 0 0 0 0).take 3)=(bfs O R D L 0 0 0).take 4:=by kernel_rfl
theorem bp4:putI "waiting" (.ref W) ((bfs O R D L 0 0 0).take 4)=(bfs O R D L W 0 0).take 5:=by kernel_rfl
theorem bp5:putI "turn" (.int 0) ((bfs O R D L W 0 0).take 5)=(bfs O R D L W 0 0).take 6:=by kernel_rfl
theorem bp6:putI "stretches" (.ref S) ((bfs O R D L W 0 0).take 6)=bfs O R D L W 0 S:=by kernel_rfl
end
theorem Jq9:∀{ys:List IV}{ks:List Int},(∀y∈ys,mk y h=.ok (.int (kf y)) h)->Qn mk ys ks h=.ok (ks++ys.map kf) h
 | [],ks,_=>by simp[Qn]
 | y::ys,ks,q=>by
  unfold Qn
  rw[q y (by simp)]
  show Qn mk ys (ks++[kf y]) h=_
  rw[Jq9 λ z hz=>q z (Zi _ hz)]
  simp
theorem Jv9:∀p∈lr0 cs,p<cs.length:=λ p hp=>by
 obtain⟨i,hi,rfl⟩:=ZD.mp hp
 have:=V9 _ i hi
 omega
theorem J0i (cs:List Cm):(ordK (cs.map rdC).reverse cs.length).map (λ i=>(rngI 0 (cs.length:Int)).reverse.getD i .non)=(lr0 cs).map nI:=by
 unfold lr0
 rw[Zak]
 refine ZaH λ i hi=>?_
 have li:=V9 _ i hi
 rw[X7]
 have l2:i<(((Z9 cs.length).map λ k=>((k:Nat):Int)).map IV.int).reverse.length:=by simpa using li
 show List.getD (((Z9 (Zct (cs.length:Int))).map λ k=>((k:Nat):Int)).map IV.int).reverse i .non=IV.int ((cs.length-1-i:Nat):Int)
 rw[Za7,Zg,Zb l2,Zd9]
 simp
theorem Jmv (cs:List Cm):(lr0 cs).Perm (Z9 cs.length):=by
 by_cases n0:cs.length=0
 ·unfold lr0
  rw[n0,Yo]
  exact .refl _
 have:=(Jel (cs.map rdC).reverse (Nat.pos_of_ne_zero n0)).map λ i=>cs.length-1-i
 refine this.trans ?_
 have e:(Z9 cs.length).map (λ i=>cs.length-1-i)=(Z9 cs.length).reverse:=by
  refine Zbx (by simp) λ i h1 h2=>?_
  simp[Zd9]
 rw[e]
 exact List.reverse_perm _
theorem Jxx (cs:List Cm):(lr0 cs).Pairwise λ p q=>rdN cs p<=rdN cs q:=by
 unfold lr0
 rw[ZbP]
 refine(Jm0 (cs.map rdC).reverse cs.length).imp_of_mem λ {i j} hi hj h=>?_
 have li:=V9 _ i hi
 have lj:=V9 _ j hj
 have e:∀i,i<cs.length->(cs.map rdC).reverse.getD i 0=rdN cs (cs.length-1-i):=λ i li=>by
  have l2:i<(cs.map rdC).reverse.length:=by simpa using li
  unfold rdN
  rw[Zg,Zb l2,Zd9,Zg,Zb (show cs.length-1-i<cs.length by omega)]
  simp
 rwa [e i li,e j lj] at h
theorem wf0 (l1:∀c∈cs,1<=c.len):Wf cs (s0 cs):=by
 have zr:∀p,((s0 cs).ds.getD p 0:Int)=0:=λ p=>by
  show(cs.map λ _=>(0:Int)).getD p 0=0
  rw[Zg,Zy]
  cases cs[p]?<;>rfl
 have pm:=Jmv cs
 refine⟨by simp[s0],λ p hp=>?_,?_,Jxx cs,λ p hp=>?_,λ p lp hp=>?_,λ p hp=>zr p,λ p hp=>?_⟩
 ·rw[show(s0 cs).lr++(s0 cs).wa=lr0 cs from ZaC _] at hp
  exact Jv9 p hp
 ·rw[show(s0 cs).lr++(s0 cs).wa=lr0 cs from ZaC _]
  exact pm.nodup_iff.mpr Zd0
 ·rw[show(s0 cs).lr++(s0 cs).wa=lr0 cs from ZaC _] at hp
  have lp:=Jv9 p hp
  rw[zr]
  have:1<=lnN cs p:=l1 _ (by rw[Zg,Zb lp];exact ZB lp)
  omega
 ·rw[show(s0 cs).lr++(s0 cs).wa=lr0 cs from ZaC _] at hp
  exact absurd (pm.mem_iff.mpr (ZR.mpr lp)) hp
 ·cases hp
theorem Wf.step (w:Wf cs s)(ne:¬(s.lr=[]/\s.wa=[])):Wf cs (Qx rs cs s)/\mea rs cs (Qx rs cs s)<mea rs cs s:=by
 have w1:=w.let
 have gt:=Jv7 w
 have le:=Jxz rs cs s
 obtain⟨p,ip⟩:=Jl4 (rs:=rs) (cs:=cs) (ds:=(letM cs s).ds) (Jre (cs:=cs) ne)
 unfold Qx goM
 rw[ip.eq]
 obtain⟨a,b⟩:=Jg4 (rs:=rs) gt (w1.z p (Zo _ ip.1)).2
 have sl:=Jmd (hsN rs cs p) ((letM cs s).ds.getD p 0) (lnN cs p)
 exact⟨w1.do ip.1 a (by omega),ZI (J0l w1 gt ip.1) le⟩
theorem Jnj (p:Nat)(t u:Int)(sr:List (Nat×Int×Int)):(Vd p t u sr).length<=sr.length+1:=by
 unfold Vd
 split
 ·simp
 ·split<;>simp
theorem Jm3 {s:Bs}(h:s.lr=[]/\s.wa=[]):runM rs cs m s=s:=by
 cases m with
 | zero=>rfl
 | succ m=>exact if_pos h
theorem mea0 (l6:∀r∈rs,r.2.length<=6)(hc:∀c∈cs,c.at_<rs.length):mea rs cs (s0 cs)<=8*cs.length:=by
 have e1:((Z9 cs.length).map (V3 rs cs (s0 cs).ds)).sum<=((Z9 cs.length).map λ _=>6).sum:=Jm9 λ p hp=>by
  have lp:=ZR.mp hp
  have ca:(cs.getD p cd).at_<rs.length:=hc _ (by rw[Zg,Zb lp];exact ZB lp)
  have:=l6 _ (ZB ca)
  refine Zaf (Zbu _ _) ?_
  unfold hsN
  rw[Xs ca]
  exact this
 have e2:=Zbu (λ p=>decide ((s0 cs).t<rdN cs p)) (s0 cs).lr
 have e3:(s0 cs).lr.length=cs.length:=by have:=(Jmv cs).length_eq;rwa [ZaX] at this
 have e4:((s0 cs).lr++(s0 cs).wa).length=cs.length:=by rw[show(s0 cs).lr++(s0 cs).wa=(s0 cs).lr from ZaC _];exact e3
 rw[List.map_const',List.sum_replicate_nat,ZaX] at e1
 unfold mea
 omega
theorem Jxf:(finM rs cs).sr.length<=8*cs.length:=by
 have:∀(m:Nat)(s:Bs),(runM rs cs m s).sr.length<=s.sr.length+m:=by
  intro m
  induction m with
  | zero=>intro s;exact Zr _
  | succ m ih =>
   intro s
   unfold runM
   split
   ·omega
   ·have h1:=ih (Qx rs cs s)
    have h2:(Qx rs cs s).sr.length<=s.sr.length+1:=Jnj _ _ _ _
    omega
 have:=this (8*cs.length) (s0 cs)
 have e:(s0 cs).sr.length=0:=rfl
 unfold finM
 omega
theorem ds0 (cs:List Cm)(p:Nat):(s0 cs).ds.getD p 0=0:=by
 show(cs.map λ _=>(0:Int)).getD p 0=0
 rw[Zg,Zy]
 cases cs[p]?<;>rfl
section
variable {k:Nat}{h:IH}{rs:List RH}{cs:List Cm}{O R:Nat}
theorem Jxt (g:Bg h rs cs O R)(t0:h[2]?=Za (.tab "Bench.__init__"))(n64:cs.length<64):WR (Jb6 (k+2) [.ref h.length,.ref O,.ref R] (h++[.ins "Bench" []])) λ v h'=>v=.non/\∃D L W S,Bn h h' h.length O R D L W S (s0 cs):=by
 have hb:=J9
 rw[Jih]
 refine xfin (xseq (Vi rfl rfl grown (by decide) ?_))
 rw[bp0,XB]
 refine xseq (Vi rfl rfl grown (by show(1:Nat)<1000;decide) ?_)
 rw[bp1,XB]
 have x1:Ex h (h++[.ins "Bench" ((bfs O R 0 0 0 0 0).take 2)]):=.one _ _
 have g1:(h++[IX.ins "Bench" ((bfs O R 0 0 0 0 0).take 2)])[h.length]?=Za (.ins "Bench" ((bfs O R 0 0 0 0 0).take 2)):=grown
 generalize h++[IX.ins "Bench" ((bfs O R 0 0 0 0 0).take 2)]=h1 at x1 g1
 refine xseq ?_
 rw[Xg]
 refine WR.mono (QQ (h:=h1) (xs:=cs.map tupC) (chk:=λ h'=>h'[R]?=Za (.lst (cs.map tupC))) (f:=λ _=>.int 0) ?_ (by rw[Zn];omega) (λ h2 q=>q _ _ (x1.get g.r)) λ v hv h2 q=>Je rfl ⟨rfl,.refl _⟩) ?_
 ·rw[Qy]
  exact Je rfl ((Qb _).mpr ⟨_,x1.get g.r,rfl,rfl,rfl⟩)
 rintro _ _ ⟨rfl,gg,rfl⟩
 have lt1:=J8 g1
 refine Je rfl ⟨_,_,_,rfl,grow g1,by show(2:Nat)<1000;decide,?_⟩
 rw[bp2]
 have x2:=QV (i:=h.length) (o:=.ins "Bench" ((bfs O R h1.length 0 0 0 0).take 3)) (x1.trans (Ex.cons h1 (.lst ((cs.map tupC).map λ _=>.int 0)) gg)) (Zr _)
 have g2:=QA (o':=.ins "Bench" ((bfs O R h1.length 0 0 0 0).take 3)) (grow g1 (g:=.lst ((cs.map tupC).map λ _=>.int 0)::gg))
 have d2:=J6 (i:=h.length) (o':=.ins "Bench" ((bfs O R h1.length 0 0 0 0).take 3)) (Jz (h:=h1) (o:=.lst ((cs.map tupC).map λ _=>.int 0)) (g:=gg)) (by omega)
 generalize h1.length=D at *
 generalize (h1++IX.lst ((cs.map tupC).map λ _=>.int 0)::gg).set h.length (.ins "Bench" ((bfs O R D 0 0 0 0).take 3))=h2 at x2 g2 d2
 have ks:Qn (λ v h'=>Xl (k+1) [Za v,Za (.ref R)] h') (rngI 0 (cs.length:Int)) [] h2=.ok (cs.map rdC) h2:=by
  have:=Jq9 (mk:=λ v h'=>Xl (k+1) [Za v,Za (.ref R)] h') (kf:=λ v=>match v with|.int p=>rdN cs p.toNat|_=>0) (h:=h2) (ys:=rngI 0 (cs.length:Int)) (ks:=[]) λ y hy=>by
   rw[X7,Za7,Zak] at hy
   obtain⟨p,hp,rfl⟩:=ZD.mp hy
   have lp:=ZR.mp hp
   show Xl (k+1) [Za (nI p),Za (.ref R)] h2=.ok (.int (rdN cs (Zct (p:Int)))) h2
   rw[Za7]
   exact Qd (arg1 (ixlE rfl rfl (x2.get g.r) (Jmj lp))) Jf0
  rw[this,ZaD,X7,Za7,Zak,Zak]
  congr 1
  refine Zbx (by simp) λ i h1 h2=>?_
  have li:i<cs.length:=by simpa using h2
  simp only[Zam,ZcU,Function.comp,Za7,rdN]
  rw[Zg,Zb li]
  rfl
 have es:XY "Bench.__init__" 2 [2] (Jb (eCB (on1 lenI) (Jb (Ja 2) Jd)) Jd) (Xl (k+1)) [Za (.ref h.length),Za (.ref O),Za (.ref R)] h2=.ok (.ref h2.length) (h2++[.lst ((lr0 cs).reverse.map nI)]):=by
  unfold XY
  rw[arg1 (lenE rfl (x2.get g.r)),Zn]
  show(match [IV.int (cs.length:Int)],h2[2]? with|[.int n],Za (.tab q')=>_|_,_=>_)=_
  rw[x2.get t0]
  show(if _ then _ else _)=_
  rw[if_pos ⟨rfl,by omega,by omega⟩]
  show(Qn (λ v h'=>Xl (k+1) [Za v,Za (.ref R)] h') (rngI 0 (cs.length:Int)) [] h2).bind _=_
  rw[ks]
  show Yt Zj (rngI 0 (cs.length:Int)).reverse (cs.map rdC).reverse h2=_
  unfold Yt
  rw[show(rngI 0 (cs.length:Int)).reverse.length=cs.length by rw[ZcD,X7];simp,J0i,Ze4]
  rfl
 refine xseq (Vi es rfl (grow g2) (by show(3:Nat)<1000;decide) ?_)
 rw[bp3]
 have lt2:=J8 d2
 have x3:=QV (i:=h.length) (o:=.ins "Bench" ((bfs O R D h2.length 0 0 0).take 4)) (x2.trans (Ex.one h2 (.lst ((lr0 cs).reverse.map nI)))) (Zr _)
 have g3:=QA (o':=.ins "Bench" ((bfs O R D h2.length 0 0 0).take 4)) (grow g2 (g:=[.lst ((lr0 cs).reverse.map nI)]))
 have d3:=J6 (i:=h.length) (o':=.ins "Bench" ((bfs O R D h2.length 0 0 0).take 4)) (grow d2 (g:=[.lst ((lr0 cs).reverse.map nI)])) (by omega)
 have l3:=J6 (i:=h.length) (o':=.ins "Bench" ((bfs O R D h2.length 0 0 0).take 4)) (grown (h:=h2) (o:=.lst ((lr0 cs).reverse.map nI))) (by omega)
 generalize h2.length=L at *
 generalize (h2++[IX.lst ((lr0 cs).reverse.map nI)]).set h.length (.ins "Bench" ((bfs O R D L 0 0 0).take 4))=h3 at x3 g3 d3 l3
 have lt3:=J8 l3
 refine xseq ?_
 rw[Xg]
 refine xlst (Je rfl ⟨ZK _,Je rfl ⟨_,_,_,rfl,grow g3,by show(4:Nat)<1000;decide,?_⟩⟩)
 rw[bp4]
 refine xseq (Vi rfl rfl (QA (grow g3)) (by show(5:Nat)<1000;decide) ?_)
 rw[bp5,ZeI]
 unfold Jcx
 rw[Xg]
 refine xlst (Je rfl ⟨ZK _,Je rfl ⟨_,_,_,rfl,grow (QA (grow g3)),by show(6:Nat)<1000;decide,rfl,?_⟩⟩)
 rw[bp6]
 have sw:=grown (h:=h3) (o:=.lst [])
 have lw:=J8 sw
 rw[Z1,ZaI] at lw
 have ln:(List.set (h3++[IX.lst []]) h.length (.ins "Bench" ((bfs O R D L h3.length 0 0).take 6))).length=h3.length+1:=by rw[ZbB,Z1,ZaI]
 refine⟨D,L,h3.length,_,QV ((QV (x3.trans (.one _ _)) (Zr _)).trans (.one _ _)) (Zr _),⟨Zr _,by omega,by omega,by omega,by omega⟩,QA (grow (QA (grow g3))),J6 (grow (J6 (grow ?_) (by omega))) (by omega),J6 (grow (J6 (grow l3) (by omega))) (by omega),J6 (grow (J6 sw (by omega))) (by omega),J6 grown (by omega)⟩
 rw[d3]
 simp[s0]
theorem J08 (g:Bg h rs cs O R)(t0:h[2]?=Za (.tab "Bench.__init__"))(L:Legal rs cs)(n64:cs.length<64) :
  WR (Jwu (k+7) [.ref O,.ref R] h) λ v h'=>∃j,v=.ref j/\h.length<=j/\h'[j]?=Za (.lst ((finM rs cs).sr.reverse.map tupS))/\Ex h h':=by
 obtain⟨Du,du,fd⟩:=Jl2 g.o
 have w0:Wf cs (s0 cs):=wf0 λ c hc=>(L.ok c hc).n1
 rw[Jzt]
 refine xfin (xseq (QH (xb (Je (arg2 (fd _ _ rfl) rfl) (WR.mono (Jvt (k:=k+1) du g.r L g.n) ?_)))))
 rintro _ h1 ⟨rfl,x1⟩
 have g1:Bg h1 rs cs O R:=⟨g.o.kp x1.kp,x1.get g.r,g.c,g.l6,x1.get g.p1,g.n⟩
 refine xseq (xset ?_)
 rw[VC]
 refine Je (arg2 rfl rfl) (WR.mono (Jxt (k:=k+4) g1 (x1.get t0) n64) ?_)
 rintro _ h2 ⟨rfl,D,La,W,S,b0⟩
 refine⟨rfl,xseq ?_⟩
 have m0:=mea0 g.l6 g.c
 have cn:=g.n
 refine Jod (λ m σ h'=>∃s,σ=[Za (.ref O),Za (.ref R),Za (.ref h1.length)]/\Bn h1 h' h1.length O R D La W S s/\Wf cs s/\mea rs cs s<=m/\s.sr.length+m<=8*cs.length/\runM rs cs m s=finM rs cs) ?_ (show 8*cs.length<1000000 by omega) ⟨s0 cs,rfl,b0,w0,m0,by simp[s0],rfl⟩
 rintro m _ h3 ⟨s,rfl,b,w,lm,ls,er⟩
 refine Je (gtE (addE (lenE (fldE rfl b.b bf3) b.l) (lenE (fldE rfl b.b bf4) b.w)) rfl) (xdec (λ c=>?_) λ c=>?_)
 ·have ne:¬(s.lr=[]/\s.wa=[]):=λ ⟨a,z⟩=>by rw[a,z] at c;exact absurd c (by simp)
  obtain⟨w1,lt⟩:=w.step (rs:=rs) ne
  cases m with
  | zero=>omega
  | succ m =>
   refine⟨m,rfl,QH (XJ rfl b.b bn4 (Jhc _) (Je rfl (WR.mono (J2o (k:=k) g1 w ne (by omega) b) ?_)))⟩
   rintro _ h4 ⟨rfl,b4⟩
   refine⟨_,rfl,b4,w1,by omega,?_,?_⟩
   ·have:=Jnj (X3 rs cs (letM cs s).ds (letM cs s).wa) (letM cs s).t ((letM cs s).t+JP rs cs (letM cs s) (X3 rs cs (letM cs s).ds (letM cs s).wa)) s.sr
    have:(Qx rs cs s).sr.length<=s.sr.length+1:=this
    omega
   ·rw[<- er]
    exact(if_neg ne).symm
 ·have ne:s.lr=[]/\s.wa=[]:=by
   simp only[Zn,ZcD] at c
   exact⟨Zdc.mp (by omega),Zdc.mp (by omega)⟩
  rw[Jm3 ne] at er
  refine xret (Je (fldE rfl b.b bf6) ⟨S,rfl,?_,?_,x1.trans b.x⟩)
  ·have:=b.ap
   have:=J8 b0.b
   obtain⟨gg,rfl⟩:=x1
   rw[Z1] at *
   omega
  ·rw[<- er]
   exact b.s
end
end
def gI (v:IV):ZdU:=match v with
 | .int x=>.int x
 | .tup xs=>.tuple (xs.map λ v=>match v with|.int x=>.int x|_=>.none)
 | _=>.none
theorem Jt3 (ns:List Int):ZaY (ns.map PyData.int)=Zj:=by
 induction ns with
 | nil=>rfl
 | cons n ns ih=>rw[Z7,ZaY,ih];rfl
def Pl (v:IV):Prop:=(∃x,v=.int x)∨∃ns:List Int,v=.tup (ns.map .int)
section
variable {k:Nat}{h:IH}
theorem Jwb (n:Nat):∀ns:List Int,(ns.map IV.int).mapM (toD h (n+1))=Za (ns.map PyData.int)
 | []=>rfl
 | x::ns=>by
  rw[Z7,ZdV,Jwb n ns]
  rfl
theorem Jxh (ns:List Int):gI (.tup (ns.map .int))=.tuple (ns.map PyData.int):=by
 show ZeC _=_
 rw[Zak]
 rfl
theorem J4f (n:Nat)(q:Pl v):toD h (n+2) v=Za (gI v)/\(gI v).canLay0=Zj:=by
 rcases q with⟨x,rfl⟩|⟨ns,rfl⟩
 ·exact⟨rfl,rfl⟩
 ·rw[Jxh]
  refine⟨?_,by rw[Zcf];exact Jt3 ns⟩
  show((ns.map IV.int).mapM (toD h (n+1))).map ZeC=_
  rw[Jwb]
  rfl
theorem Jw7 (hi:h[i]?=Za (.lst xs))(q:∀x∈xs,Pl x):toD h (n+3) (.ref i)=Za (.list (xs.map gI)):=by
 rw[Jsk hi,Jrg (g:=gI) λ x hx=>(J4f n (q x hx)).1]
 rfl
theorem Jrc {xs:List IV}(q:∀x∈xs,Pl x):ZaY (xs.map gI)=Zj:=Jv6 λ x hx=>(J4f (h:=[]) 0 (q x hx)).2
theorem J3l (cs:List Cm):∀x∈cs.map tupC,Pl x:=λ x hx=>by
 obtain⟨c,_,rfl⟩:=ZD.mp hx
 exact .inr ⟨[c.at_,c.come,c.late,c.len],rfl⟩
theorem Jxe {i j:Nat}{xs:List IV}(hi:h[i]?=Za (.lst xs))(hj:h[j]?=Za (.lst xs))(q:∀x∈xs,Pl x):cEq (.ref i) (.ref j) h=.ok (.bl Zj) h:=by
 have l:(ZcZ (xs.map gI)).canLay0=Zj:=by rw[Zcf];exact Jrc q
 have e3:QU (.ref i) (.ref j) h=Za Zj:=by
  unfold QU
  rw[Jw7 hi q,Jw7 hj q]
  dsimp only
  rw[if_pos ⟨l,l⟩,Jmr _ l]
 unfold cEq
 rw[show VZ (.ref i) (.ref j)=Zd from rfl]
 dsimp only
 rw[e3]
end
abbrev St3:=Nat×Int×Int
def sumP (p:Nat)(l:List St3):Int:=(l.map λ a=>if a.1=p then a.2.2-a.2.1 else 0).sum
theorem Qr:sumP p (a::l)=(if a.1=p then a.2.2-a.2.1 else 0)+sumP p l:=by simp[sumP]
theorem Ju7 {s:Bs}(w:s.lr.Pairwise λ p q=>rdN cs p<=rdN cs q)(hq:q∈s.lr):JP rs cs s p<=rdN cs q-s.t:=by
 unfold JP
 cases e:s.lr with
 | nil=>rw[e] at hq;cases hq
 | cons a r =>
  rw[e] at hq w
  have:rdN cs a<=rdN cs q:=by
   rcases Z2.mp hq with rfl|hq
   ·exact Zap _
   ·exact(ZaB.mp w).1 q hq
  dsimp only
  split<;>omega
def duN (rs:List RH)(cs:List Cm)(p:Nat):Int:=duC rs (cs.getD p cd)
def dnS (rs:List RH)(cs:List Cm)(b d:Int)(f:Nat->Int):Int:=((Z9 cs.length).map λ q=>if b<=rdN cs q/\duN rs cs q<=d then f q else 0).sum
theorem Jjc {f g:Nat->Int}:∀(l:List Nat),(∀q∈l,f q<=g q)->(l.map f).sum<=(l.map g).sum
 | [],_=>Zap _
 | a::l,h=>by
  have:=Jjc l λ q hq=>h q (Zi _ hq)
  have:=h a Z0
  simp only[Z7,Zaw]
  omega
theorem Jme {f g:Nat->Int}{p:Nat}{n:Int}:∀(l:List Nat),l.Nodup->p∈l->(∀q∈l,q≠p->g q=f q)->g p=f p+n->(l.map g).sum=(l.map f).sum+n
 | [],_,h,_,_=>by cases h
 | a::l,nd,h,e1,e2=>by
  obtain⟨na,nl⟩:=Zco.mp nd
  simp only[Z7,Zaw]
  by_cases z:p=a
  ·subst z
   rw[e2,ZaH λ q hq=>e1 q (Zi _ hq) λ e=>na (e▸hq)]
   omega
  ·rcases Z2.mp h with h|h
   ·exact absurd h z
   ·rw[Jme l nl h (λ q hq=>e1 q (Zi _ hq)) e2,e1 a Z0 (ZO z)]
    omega
def Bz (rs:List RH)(cs:List Cm)(s:Bs)(d:Int):Prop:=∃b,(∃c,c<cs.length/\rdN cs c=b)/\s.t-b<=dnS rs cs b d (λ q=>s.ds.getD q 0)/\∀q∈s.wa,duN rs cs q<=d->b<=rdN cs q
structure Sv (rs:List RH)(cs:List Cm)(s:Bs):Prop where
 tl:∀a r,s.sr=a::r->a.2.2=s.t
 ea:∀a∈s.sr,a.1<cs.length/\rdN cs a.1<=a.2.1/\a.2.1<a.2.2/\0<s.ds.getD a.1 0
 pw:s.sr.Pairwise λ a b=>b.2.2<=a.2.1
 sm:∀p,p<cs.length->sumP p s.sr=s.ds.getD p 0
 lt:∀p∈s.lr,s.t<=rdN cs p
 bz:∀d,(∃q∈s.wa,duN rs cs q<=d)->Bz rs cs s d
 -- where nothing is too full, nobody is late
 ot:(∀b d,(∃c,c<cs.length/\rdN cs c=b)->dnS rs cs b d (lnN cs)<=d-b∨∀q,q<cs.length->b<=rdN cs q->d<duN rs cs q)->∀a∈s.sr,a.2.2<=duN rs cs a.1
theorem Sv.step {cs:List Cm}(l1:∀q,q<cs.length->1<=lnN cs q)(w:Wf cs s)(ne:¬(s.lr=[]/\s.wa=[]))(v:Sv rs cs s):Sv rs cs (Qx rs cs s):=by
 have w1:=w.let
 have gt:=Jv7 w
 have tg:=Jsi cs s
 obtain⟨p,ip⟩:=Jl4 (rs:=rs) (cs:=cs) (ds:=(letM cs s).ds) (Jre (cs:=cs) ne)
 have hp:=ip.1
 unfold Qx goM
 rw[ip.eq]
 have zp:=w1.z p (Zo _ hp)
 have lp:=w1.mem p (Zo _ hp)
 have rp:rdN cs p<=tIn cs s:=w1.rw p hp
 obtain⟨n0,n1⟩:=Jg4 (rs:=rs) gt zp.2
 have n2:=λ q hq=>Ju7 (rs:=rs) (p:=p) w1.srt (q:=q) hq
 have sl:=Jmd (hsN rs cs p) (s.ds.getD p 0) (lnN cs p)
 generalize JP rs cs (letM cs s) p=n at n0 n1 n2
 have n1:s.ds.getD p 0+n<=QN (hsN rs cs p) (s.ds.getD p 0) (lnN cs p):=n1
 have n2:∀q∈(letM cs s).lr,n<=rdN cs q-tIn cs s:=n2
 have zp:0<=s.ds.getD p 0/\_:=zp
 have ld:=w.ld
 have gd:∀q,(doM rs cs (letM cs s) p n).ds.getD q 0=if p=q then s.ds.getD p 0+n else s.ds.getD q 0:=λ q=>by
  show(s.ds.set p _).getD q 0=_
  rw[Yd]
  by_cases e:p=q
  ·subst e;rw[if_pos ⟨rfl,by omega⟩,if_pos rfl];rfl
  ·rw[if_neg λ z=>e z.1,if_neg e]
 obtain⟨cc,e1,e2,e3,_⟩:=X5 cs (tIn cs s) s.lr s.wa
 have e2:(letM cs s).wa=s.wa++cc:=e2
 -- who has just come in is ready just now
 have new:∀q∈s.lr,rdN cs q<=tIn cs s->rdN cs q=tIn cs s:=λ q hq l=>by
  have h1:=v.lt q hq
  unfold tIn at l ⊢
  split
  ·rename_i x xs ew el
   simp only[ew,el] at l
   have srt:=w.srt
   rw[el] at srt hq
   have:rdN cs x<=rdN cs q:=by
    rcases Z2.mp hq with rfl|hq
    ·exact Zap _
    ·exact(ZaB.mp srt).1 q hq
   split at l
   ·rw[if_pos (by assumption)]
    omega
   ·rw[if_neg (by assumption)]
    omega
  ·rename_i h
   split at l
   ·rename_i x xs ew el
    exact absurd el (h _ _ ew)
   ·omega
 have sub:∀q∈(doM rs cs (letM cs s) p n).wa,q∈(letM cs s).wa:=λ q hq=>by
  have hq:q∈if s.ds.getD p 0+n=lnN cs p then(letM cs s).wa.erase p else(letM cs s).wa:=hq
  split at hq
  ·exact ZeY hq
  ·exact hq
 -- nobody who waits is due ahead of p
 have due:∀q∈(letM cs s).wa,duN rs cs p<=duN rs cs q:=λ q hq=>by
  have h:=ip.2 q hq
  change ltL [duN rs cs q,1,(q:Int)] [duN rs cs p,1,(p:Int)]=Zm at h
  unfold ltL at h
  by_cases e:duN rs cs q=duN rs cs p
  ·omega
  ·rw[if_neg e,decide_eq_false_iff_not] at h
   omega
 have nn:∀q,q<cs.length->0<=s.ds.getD q 0/\s.ds.getD q 0<=lnN cs q:=λ q lq=>by
  by_cases m:q∈s.lr++s.wa
  ·have:=w.z q m
   omega
  ·have h:=w.dn q lq m
   have z:=l1 q lq
   omega
 -- the step keeps those due by d, or ends their time
 have key:∀d,duN rs cs p<=d->∃b,(∃c,c<cs.length/\rdN cs c=b)/\b<=rdN cs p/\tIn cs s+n-b<=dnS rs cs b d (λ q=>(doM rs cs (letM cs s) p n).ds.getD q 0)/\∀q∈(letM cs s).wa,duN rs cs q<=d->b<=rdN cs q:=λ d dp=>by
  have add:∀b,b<=rdN cs p->dnS rs cs b d (λ q=>(doM rs cs (letM cs s) p n).ds.getD q 0)=dnS rs cs b d (λ q=>s.ds.getD q 0)+n:=λ b hb=>by
   refine Jme _ Zd0 (ZR.mpr lp) (λ q _ nq=>?_) ?_
   ·dsimp only
    rw[gd,if_neg (ZO nq)]
   ·dsimp only
    rw[gd,if_pos rfl,if_pos ⟨hb,dp⟩,if_pos ⟨hb,dp⟩]
  by_cases h:∃q∈s.wa,duN rs cs q<=d
  ·have t0:tIn cs s=s.t:=by
    unfold tIn
    split
    ·rename_i ew _
     obtain⟨q,hq,_⟩:=h
     rw[ew] at hq
     cases hq
    ·rfl
   obtain⟨b,⟨c,lc,ec⟩,le,al⟩:=v.bz d h
   have al':∀q∈(letM cs s).wa,duN rs cs q<=d->b<=rdN cs q:=λ q hq dq=>by
    rw[e2] at hq
    rcases Zah.mp hq with hq|hq
    ·exact al q hq dq
    ·have:=new q (by rw[e1];exact ZY _ hq) (e3 q hq)
     have:b<=s.t:=by
      obtain⟨x,hx,dx⟩:=h
      have:=al x hx dx
      have:=w.rw x hx
      omega
     omega
   have bp:=al' p hp dp
   refine⟨b,⟨c,lc,ec⟩,bp,?_,al'⟩
   rw[add b bp,t0]
   omega
  ·have nw:∀q∈(letM cs s).wa,duN rs cs q<=d->rdN cs q=tIn cs s:=λ q hq dq=>by
    rw[e2] at hq
    rcases Zah.mp hq with hq|hq
    ·exact absurd ⟨q,hq,dq⟩ h
    ·exact new q (by rw[e1];exact ZY _ hq) (e3 q hq)
   have ep:=nw p hp dp
   refine⟨tIn cs s,⟨p,lp,ep⟩,by omega,?_,λ q hq dq=>by rw[nw q hq dq];exact Zap _⟩
   rw[add _ (by omega)]
   have:0<=dnS rs cs (tIn cs s) d (λ q=>s.ds.getD q 0):=by
    have z:=Jjc (f:=λ _=>0) (g:=λ q=>if tIn cs s<=rdN cs q/\duN rs cs q<=d then s.ds.getD q 0 else 0) (Z9 cs.length) λ q hq=>by
     have:=nn q (ZR.mp hq)
     split<;>omega
    have e0:∀l:List Nat,(l.map λ _=>(0:Int)).sum=0:=λ l=>by induction l with|nil=>rfl|cons a l ih=>rw[Z7,Zaw,ih];rfl
    rw[e0] at z
    exact z
   omega
 have same:∀a r,s.sr=a::r->a.1=p->a.2.2=tIn cs s:=λ a r e z=>by
  have h1:=v.tl a r e
  have h2:=(v.ea a (by rw[e];simp)).2.2.2
  rw[z] at h2
  rw[h1]
  unfold tIn
  split
  ·rename_i ew el
   have hp:p∈(letM cs s).wa:=hp
   rw[e2,ew,ZaD] at hp
   have:=w.z0 p (by rw[e1];exact ZY _ hp)
   omega
  ·rfl
 have pr:=v.pw
 have tl:=v.tl
 have ea:=v.ea
 have sm:=v.sm
 obtain⟨b,r,es,sb,b1,b2,p1,p2,s1,s2⟩:∃b r,Vd p (tIn cs s) (tIn cs s+n) s.sr=(p,b,tIn cs s+n)::r/\(∀c∈r,c∈s.sr)/\b<=tIn cs s/\rdN cs p<=b/\r.Pairwise (λ a b=>b.2.2<=a.2.1)/\(∀c∈r,c.2.2<=b)/\sumP p r+(tIn cs s-b)=sumP p s.sr/\∀q,p≠q->sumP q r=sumP q s.sr:=by
  cases e:s.sr with
  | nil=>exact⟨_,[],rfl,λ _ h=>h,Zap _,rp,.nil,(λ _ h=>by cases h),by omega,λ _ _=>rfl⟩
  | cons a r =>
   rw[e] at pr
   obtain⟨q1,q2⟩:=ZaB.mp pr
   have t1:=tl a r e
   have ha:=ea a (by rw[e];simp)
   by_cases z:a.1=p
   ·have sa:=same a r e z
    exact⟨a.2.1,r,if_pos z,λ _ h=>Zi _ h,by omega,by rw[<- z];exact ha.2.1,q2,q1,by rw[Qr,if_pos z];omega,λ q nq=>by rw[Qr,if_neg (by rw[z];exact nq)];omega⟩
   ·refine⟨_,a::r,if_neg z,λ _ h=>h,Zap _,rp,pr,λ c hc=>?_,by omega,λ _ _=>rfl⟩
    rcases Z2.mp hc with rfl|hc
    ·omega
    ·have:=q1 c hc
     omega
 have es:(doM rs cs (letM cs s) p n).sr=(p,b,tIn cs s+n)::r:=es
 refine⟨λ a r' z=>?_,λ a ha=>?_,by rw[es];exact ZaB.mpr ⟨p2,p1⟩,λ q lq=>?_,λ q hq=>?_,λ d ⟨q,hq,dq⟩=>?_,λ no a ha=>?_⟩
 ·rw[es] at z
  cases z
  rfl
 ·rw[es] at ha
  rw[gd]
  rcases Z2.mp ha with rfl|ha
  ·exact⟨lp,b2,by show b<tIn cs s+n;omega,by rw[if_pos rfl];omega⟩
  ·have:=ea a (sb a ha)
   refine⟨this.1,this.2.1,this.2.2.1,?_⟩
   split<;>omega
 ·rw[es,gd,Qr]
  by_cases z:p=q
  ·subst z
   rw[if_pos rfl,if_pos rfl,<-sm p lq]
   show tIn cs s+n-b+_=_
   omega
  ·rw[if_neg z,if_neg z,s2 q z,sm q lq]
   omega
 ·have:=n2 q hq
  show tIn cs s+n<=_
  omega
 ·have hq:=sub q hq
  obtain⟨b,hc,_,le,al⟩:=key d (Zc5 (due q hq) dq)
  exact⟨b,hc,le,λ x hx dx=>al x (sub x hx) dx⟩
 ·rw[es] at ha
  rcases Z2.mp ha with rfl|ha
  ·obtain⟨b,hc,bp,le,_⟩:=key (duN rs cs p) (Zap _)
   have up:dnS rs cs b (duN rs cs p) (λ q=>(doM rs cs (letM cs s) p n).ds.getD q 0)<=dnS rs cs b (duN rs cs p) (lnN cs):=Jjc _ λ q hq=>by
    have:=nn q (ZR.mp hq)
    dsimp only
    rw[gd]
    split
    ·split
     ·rename_i e;subst e;omega
     ·omega
    ·omega
   show tIn cs s+n<=duN rs cs p
   rcases no b (duN rs cs p) hc with z|z
   ·omega
   ·have:=z p lp bp
    omega
  ·exact v.ot no a (sb a ha)
theorem Jr1 (I:Bs->Prop)(step:∀s,Wf cs s->¬(s.lr=[]/\s.wa=[])->I s->I (Qx rs cs s)):∀(m:Nat)(s:Bs),Wf cs s->mea rs cs s<=m->I s->Wf cs (runM rs cs m s)/\(runM rs cs m s).lr=[]/\(runM rs cs m s).wa=[]/\I (runM rs cs m s)
 | m,s,w,lm,i=>by
  by_cases ne:s.lr=[]/\s.wa=[]
  ·rw[Jm3 ne]
   exact⟨w,ne.1,ne.2,i⟩
  ·obtain⟨w1,lt⟩:=w.step (rs:=rs) ne
   cases m with
   | zero=>omega
   | succ m =>
    rw[show runM rs cs (m+1) s=runM rs cs m (Qx rs cs s) from if_neg ne]
    exact Jr1 I step m _ w1 (by omega) (step s w ne i)
theorem Jv0 (L:Legal rs cs)(six:∀r∈rs,r.2.length<=6):Sv rs cs (finM rs cs)/\∀p,p<cs.length->sumP p (finM rs cs).sr=lnN cs p:=by
 have cm:∀p,p<cs.length->COk rs (cs.getD p cd):=λ p lp=>L.ok _ (by rw[Zg,Zb lp];exact ZB lp)
 have w0:=wf0 (cs:=cs) λ c hc=>(L.ok c hc).n1
 have ri:=Jr1 (rs:=rs) (cs:=cs) (Sv rs cs) (λ s w ne v=>v.step (λ q lq=>(cm q lq).n1) w ne) (8*cs.length) (s0 cs) w0 (mea0 six λ c hc=>(L.ok c hc).at_) ⟨(λ a r e=>by cases e),(λ a ha=>by cases ha),.nil,(λ p lp=>(ds0 cs p).symm),(λ p hp=>by
   have:=cm p (w0.mem p (ZY _ hp))
   have h1:=this.come
   have h2:=this.l0
   show(0:Int)<=(cs.getD p cd).come+(cs.getD p cd).late
   omega),(λ d ⟨q,hq,_⟩=>by cases hq),λ _ a ha=>by cases ha⟩
 obtain⟨wf,el,ew,sv⟩:=ri
 refine⟨sv,λ p lp=>?_⟩
 rw[show sumP p (finM rs cs).sr=_ from sv.sm p lp]
 exact wf.dn p lp (by rw[el,ew];simp)
section
seal L4.run L4.WS
def endP (p:Nat):List St3->Option Int
 | []=>Zd
 | a::l=>match endP p l with
  | some e=>Za e
  | none=>if a.1=p then Za a.2.2 else Zd
theorem Jkb:∀{l:List St3},endP p (l++[a])=if a.1=p then Za a.2.2 else endP p l
 | []=>by simp[endP]
 | b::l=>by
  rw[Za6,endP,Jkb,endP]
  by_cases e:a.1=p
  ·rw[if_pos e,if_pos e]
  ·rw[if_neg e,if_neg e]
theorem Jqh {l:List St3}{n p:Nat}(e:l[n]?=Za a):endP p (l.take (n+1))=if a.1=p then Za a.2.2 else endP p (l.take n):=by
 have hn:=(Zt.mp e).1
 rw[ZbR hn,Jkb,(Zt.mp e).2]
theorem Ju5:sumP p (l++m)=sumP p l+sumP p m:=by simp[sumP]
theorem Jnh:∀{l:List St3},sumP p l.reverse=sumP p l
 | []=>rfl
 | a::l=>by
  rw[ZbL,Ju5,Jnh,Qr,Qr]
  show _+(_+0)=_
  omega
theorem Jgm:∀{l:List St3},endP p l=Zd->sumP p l=0
 | [],_=>rfl
 | a::l,e=>by
  rw[endP] at e
  cases q:endP p l with
  | some z=>rw[q] at e;cases e
  | none =>
   rw[q] at e
   by_cases ea:a.1=p
   ·simp[ea] at e
   ·rw[Qr,Jgm q,if_neg ea];rfl
def Q8 (rs:List RH)(cs:List Cm):List Int:=(Z9 cs.length).map λ p=>(endP p (finM rs cs).sr.reverse).getD 0
theorem Jwf (L:Legal rs cs)(six:∀r∈rs,r.2.length<=6):(∀a∈(finM rs cs).sr.reverse,a.1<cs.length)/\(∀p,p<cs.length->(endP p (finM rs cs).sr.reverse).isSome=Zj)/\(finM rs cs).sr.reverse.length<=8*cs.length:=by
 obtain⟨sv,sm⟩:=Jv0 L six
 have ls:=Jxf (rs:=rs) (cs:=cs)
 refine⟨λ a ha=>(sv.ea a (Zb0.mp ha)).1,λ p lp=>?_,by rw[ZcD];exact ls⟩
 cases q:endP p (finM rs cs).sr.reverse with
 | some z=>rfl
 | none =>
  have z:=Jgm q
  rw[Jnh,sm p lp] at z
  have n1:=(L.ok (cs.getD p cd) (by rw[Zg,Zb lp];exact ZB lp)).n1
  unfold lnN at z
  omega
theorem Jug (kvs:List (Key×IV))(k:Key)(v:IV):(putD kvs k v).length<=kvs.length+1:=by
 unfold putD
 split<;>simp
def endF (ss:List St3)(v:IV):IV:=match v with
 | .int x=>.int ((endP x.toNat ss).getD 0)
 | _=>.non
theorem Jth (ss:List St3)(n:Nat):(rngI 0 (n:Int)).map (endF ss)=((Z9 n).map λ p=>(endP p ss).getD 0).map .int:=by
 rw[Zak]
 refine Zbx (by rw[Zn,Qw,Zn,ZaX];omega) λ i h1 h2=>?_
 rw[Zam,Vu,Zam,ZcU]
 simp[endF]
section
variable {k:Nat}{h:IH}{rs:List RH}{cs:List Cm}{O R:Nat}
theorem Jxd (g:Bg h rs cs O R)(t0:h[2]?=Za (.tab "Bench.__init__"))(L:Legal rs cs)(n64:cs.length<64) :
  WR (Jpj (k+8) [.ref O,.ref R] h) λ v h'=>∃j,v=.ref j/\h.length<=j/\h'[j]?=Za (.lst ((Q8 rs cs).map .int))/\Ex h h':=by
 have hb:=J9
 obtain⟨_,sp,ls⟩:=Jwf L g.l6
 rw[Jxj]
 refine xfin (xseq (xset (Je rfl (xseq (xfor ?_)))))
 rw[Qy]
 have x1:Ex h (h++[IX.dct []]):=.one _ _
 have g1:(h++[IX.dct []])[h.length]?=Za (.dct []):=grown
 have l1:(h++[IX.dct []]).length=h.length+1:=by simp
 generalize h++[IX.dct []]=hA at x1 g1 l1
 refine xb (Je (arg2 rfl rfl) (WR.mono (J08 (k:=k) ⟨g.o.kp x1.kp,x1.get g.r,g.c,g.l6,x1.get g.p1,g.n⟩ (x1.get t0) L n64) ?_))
 rintro _ h2 ⟨F,rfl,lF,gF,x2⟩
 unfold Q8
 generalize (finM rs cs).sr.reverse=ss at sp ls gF ⊢
 refine(Qb _).mpr ⟨_,gF,?_⟩
 have gR2:=x2.get (x1.get g.r)
 have lR:=J8 g.r
 refine QG (λ n σ h'=>∃a kvs,σ=[Za (.ref O),Za (.ref R),Za (.ref h.length),a]/\h'[h.length]?=Za (.dct kvs)/\kvs.length<=n/\KpB h.length h2 h'/\∀p:Nat,valI kvs (.inl (p:Int))=(endP p (ss.take n)).map .int) (λ n σ h' ⟨_,_,_,_,_,kb,_⟩=>kb _ _ (by omega) gF) ?_ ?_ ⟨_,[],rfl,x2.get g1,Zr _,λ _ _ _ e=>e,λ p=>rfl⟩
 ·rintro n hn _ h3 ⟨a,kvs,rfl,gd,ld,kb,ev⟩
  have hn:n<ss.length:=by simpa using hn
  have en:ss[n]?=Za ss[n]:=Zb hn
  have st:∀p,endP p (ss.take (n+1))=_:=λ p=>Jqh en
  rw[Zam]
  generalize ss[n]=b at en st
  refine xnx rfl ((VD ..).mpr (Je (ixtE rfl rfl Vn) ?_))
  rw[Jsy]
  refine Je rfl (Je (ixtE rfl rfl Qi) ?_)
  rw[Joc gd (by omega)]
  refine⟨_,_,rfl,QA gd,Zaf (Jug ..) (by omega),λ j o nj e=>J6 (kb j o nj e) (ZO nj),λ p=>?_⟩
  rw[Jnr,st,ev]
  by_cases e:b.1=p
  ·rw[if_pos e,if_pos (by rw[e])];rfl
  ·rw[if_neg e,if_neg λ z=>e (by cases z;rfl)]
 ·rintro _ h4 ⟨a,kvs,rfl,gd,ld,kb,ev⟩
  rw[Zn,Ze3] at ev
  have gR4:=kb _ _ (show R≠h.length by omega) gR2
  have x4:Ex h h4:=Jzp λ j o e=>kb j o (by have:=J8 e;omega) (x2.get (x1.get e))
  refine xret (WR.mono (QQ (h:=h4) (xs:=rngI 0 (cs.length:Int)) (chk:=λ _=>True) (f:=endF ss) ?_ (by rw[Qw];omega) (λ _ _=>trivial) ?_) ?_)
  ·rw[Vy]
   refine Je (arg1 (lenE rfl gR4)) ?_
   rw[Xf,Zn]
   exact⟨by omega,rfl,rfl,rfl⟩
  ·intro x hx h5 q
   obtain⟨n,hn,rfl⟩:=ZF.mp hx
   rw[Vu,show(0+(n:Int))=(n:Int) by omega]
   rw[Qw] at hn
   have sn:=sp n (by omega)
   cases eq:endP n ss with
   | none=>rw[eq] at sn;cases sn
   | some e =>
    have ev:=ev n
    rw[eq] at ev
    unfold Jhr
    refine Je ((binE rfl rfl).trans (Jq (by rw[Jws (q _ _ gd) ev];exact⟨rfl,rfl⟩))) ⟨?_,.refl _⟩
    show _=IV.int ((endP (Zct n) ss).getD 0)
    rw[show Zct (n:Int)=n by omega,eq]
    rfl
  ·rintro _ _ ⟨rfl,gg,rfl⟩
   exact⟨_,rfl,x4.len,by rw[Jz,Jth],x4.trans (.cons _ _ _)⟩
def Yj (rs:List RH)(cs:List Cm):List Int:=((Z9 cs.length).filter λ p=>decide (duC rs (cs.getD p cd)<(Q8 rs cs).getD p 0)).map λ (n:Nat)=>(n:Int)
def cmE (cs:List Cm)(n:Nat):IV:=.tup [.int (n:Int),tupC (cs.getD n cd)]
theorem Jfv (cs:List Cm):Qe 0 (cs.map tupC)=(Z9 cs.length).map (cmE cs):=by
 refine Zb9 λ i=>?_
 rw[Jeg,Zy,Zy]
 by_cases li:i<cs.length
 ·rw[Zb li,ZcC li]
  simp[cmE,li]
 ·rw[Zay (by omega),Zay (by simpa using li)]
  rfl
noncomputable def stE (v:IV):ISt:=match v with
 | .tup [i,c]=>[Za i,Za c]
 | _=>[]
def fsE (v:IV):IV:=match v with
 | .tup [i,_]=>i
 | _=>.non
def J21 (rs:List RH)(cs:List Cm)(v:IV):Bool:=match v with
 | .tup [.int i,_]=>decide (duC rs (cs.getD i.toNat cd)<(Q8 rs cs).getD i.toNat 0)
 | _=>Zm
theorem Jxc (hn:n<cs.length):atI ((Q8 rs cs).map IV.int) (n:Int)=Za (.int ((Q8 rs cs).getD n 0)):=by
 have l:n<(Q8 rs cs).length:=by simpa [Q8] using hn
 exact JQ (by rw[Zy,Zb l,Zg,Zb l];rfl)
theorem Jrj (g:Bg h rs cs O R)(t0:h[2]?=Za (.tab "Bench.__init__"))(L:Legal rs cs)(n64:cs.length<64) :
  WR (Jhz (k+9) [.ref O,.ref R] h) λ v h'=>∃j,v=.ref j/\h.length<=j/\h'[j]?=Za (.lst ((Yj rs cs).map .int))/\Ex h h':=by
 have hb:=J9
 rw[Jqp]
 refine xfin (xseq (xset (xb (Je (arg2 rfl rfl) (WR.mono (Jxd (k:=k) g t0 L n64) ?_)))))
 rintro _ h2 ⟨E,rfl,lE,gE,x2⟩
 have gR2:=x2.get g.r
 refine xret (WR.mono (Jjl (h:=h2) (xs:=Qe 0 (cs.map tupC)) (chk:=λ h'=>h'[R]?=Za (.lst (cs.map tupC))) (n:=2) (st:=stE) (p:=J21 rs cs) (f:=fsE) ?_ (by rw[VR,Zn];omega) (λ h3 q=>q _ _ gR2) ?_ ?_ ?_) ?_)
 ·rw[Vy]
  exact Je (arg1 rfl) ((Jmg _).mpr ⟨_,gR2,rfl,rfl,rfl⟩)
 ·intro x hx ls h3 l2
  rw[Jfv] at hx
  obtain⟨n,_,rfl⟩:=ZD.mp hx
  match ls,l2 with
  | [a,b],_=>exact⟨rfl,rfl⟩
 ·intro x hx h3 q
  rw[Jfv] at hx
  obtain⟨n,hn,rfl⟩:=ZD.mp hx
  have hn:=ZR.mp hn
  obtain⟨Du,du,fd⟩:=Jl2 ((g.o.kp x2.kp).kp q)
  have ec:cs.getD n cd∈cs:=by rw[Zg,Zb hn];exact ZB hn
  unfold Jfc
  refine Je (gtE (ixlE rfl rfl (q _ _ gE) (Jxc hn)) (Qd (arg2 (fd _ _ rfl) rfl) (Jqe (k:=k+6) du (g.c _ ec)))) ⟨?_,.refl _⟩
  show _=decide (duC rs (cs.getD (Zct n) cd)<(Q8 rs cs).getD (Zct n) 0)
  rw[show Zct (n:Int)=n by omega]
 ·intro x hx _ h3 q
  rw[Jfv] at hx
  obtain⟨n,_,rfl⟩:=ZD.mp hx
  exact Je rfl ⟨rfl,.refl _⟩
 ·rintro _ _ ⟨rfl,gg,rfl⟩
  refine⟨_,rfl,x2.len,?_,x2.trans (.cons _ _ _)⟩
  rw[Jz,Jfv,ZeP,Zak,Yj,Zak]
  rfl
end
end
section
variable (rs:List RH)(b:Int)
def fuG:Int->List Cm->Option Int
 | _,[]=>Zd
 | s,c::r=>if b<=rdC c then(if duC rs c-b<s+c.len then Za (duC rs c) else fuG (s+c.len) r) else fuG s r
def inB (l:Int)(c:Cm):Bool:=decide (b<=rdC c)&&decide (duC rs c<=l)
def Qq (l:Int)(cs:List Cm):Int:=((cs.filter (inB rs b l)).map (·.len)).sum
end
section
variable {rs:List RH}{b l:Int}
theorem QC (c:Cm)(cs:List Cm):Qq rs b l (c::cs)=(if inB rs b l c=Zj then c.len else 0)+Qq rs b l cs:=by
 unfold Qq
 by_cases q:inB rs b l c=Zj
 ·rw[Ze5 q,if_pos q,Z7,Zaw]
 ·rw[Ze6 q,if_neg q,Zdp]
theorem Je0 {as bs:List Cm}(p:as.Perm bs):Qq rs b l as=Qq rs b l bs:=by
 induction p with
 | nil=>rfl
 | cons x _ ih=>rw[QC,QC,ih]
 | swap x y r=>rw[QC,QC,QC,QC];omega
 | trans _ _ i1 i2=>rw[i1,i2]
theorem Jnf:∀{cs:List Cm},(∀c∈cs,1<=c.len)->0<=Qq rs b l cs
 | [],_=>Zap _
 | c::cs,q=>by
  have ih:=Jnf (cs:=cs) λ c hc=>q c (Zi _ hc)
  have:=q c Z0
  rw[QC]
  split<;>omega
theorem Jng:∀{cs:List Cm},(∀c∈cs,inB rs b l c=Zm)->Qq rs b l cs=0
 | [],_=>rfl
 | c::cs,q=>by
  rw[QC,Jng λ c hc=>q c (Zi _ hc),if_neg (by rw[q c Z0];exact Zs)]
  rfl
abbrev Sd (rs:List RH)(cs:List Cm):Prop:=cs.Pairwise λ x y=>duC rs x<=duC rs y
theorem Jls:∀{cs:List Cm}{s u:Int},Sd rs cs->(∀c∈cs,1<=c.len)->fuG rs b s cs=Za u->(∃c∈cs,b<=rdC c/\duC rs c=u)/\u-b<s+Qq rs b u cs
 | [],s,u,_,_,e=>by cases e
 | c::cs,s,u,sd,q,e=>by
  obtain⟨h1,h2⟩:=ZaB.mp sd
  have q':∀c∈cs,1<=c.len:=λ c hc=>q c (Zi _ hc)
  unfold fuG at e
  rw[QC]
  by_cases cb:b<=rdC c
  ·rw[if_pos cb] at e
   split at e
   ·rename_i lt
    cases e
    have:=Jnf (rs:=rs) (b:=b) (l:=duC rs c) q'
    exact⟨⟨c,Z0,cb,rfl⟩,by rw[if_pos (by simp[inB,cb])];omega⟩
   ·obtain⟨⟨x,hx,x1,x2⟩,lt⟩:=Jls h2 q' e
    have:=h1 x hx
    refine⟨⟨x,Zi _ hx,x1,x2⟩,?_⟩
    rw[if_pos (by simp[inB,cb];omega)]
    omega
  ·rw[if_neg cb] at e
   obtain⟨⟨x,hx,x1,x2⟩,lt⟩:=Jls h2 q' e
   refine⟨⟨x,Zi _ hx,x1,x2⟩,?_⟩
   rw[if_neg (by simp[inB,cb])]
   omega
theorem Jlr:∀{cs:List Cm}{s:Int},Sd rs cs->fuG rs b s cs=Zd->(∃c∈cs,inB rs b l c=Zj)->s+Qq rs b l cs<=l-b
 | [],s,_,_,⟨c,hc,_⟩=>by cases hc
 | c::cs,s,sd,e,⟨x,hx,xi⟩=>by
  obtain⟨h1,h2⟩:=ZaB.mp sd
  unfold fuG at e
  rw[QC]
  by_cases cb:b<=rdC c
  ·rw[if_pos cb] at e
   split at e
   ·cases e
   ·rename_i nlt
    by_cases dl:duC rs c<=l
    ·rw[if_pos (by simp[inB,cb,dl])]
     by_cases more:∃c∈cs,inB rs b l c=Zj
     ·have:=Jlr h2 e more
      omega
     ·have:=Jng (rs:=rs) (b:=b) (l:=l) (cs:=cs) λ c hc=>by
       cases q:inB rs b l c with
       | false=>rfl
       | true=>exact absurd ⟨c,hc,q⟩ more
      omega
    ·exfalso
     have xd:duC rs x<=l:=by simp only[inB,Zp,decide_eq_true_eq] at xi;exact xi.2
     rcases Z2.mp hx with rfl|hx
     ·exact dl xd
     ·have:=h1 x hx
      omega
  ·rw[if_neg cb] at e
   rw[if_neg (by simp[inB,cb])]
   have more:∃c∈cs,inB rs b l c=Zj:=by
    rcases Z2.mp hx with rfl|hx
    ·exfalso
     simp only[inB,Zp,decide_eq_true_eq] at xi
     exact cb xi.1
    ·exact⟨x,hx,xi⟩
   have:=Jlr h2 e more
   omega
end
def oV (o:Option Int):IV:=match o with
 | some x=>.int x
 | none=>.non
section
variable {k:Nat}{h:IH}
theorem J15 (op:ZcJ)(i:Nat)(e:E1):WS (sAug op i e σ h) N R=WR (Ja i σ h) λ x h1=>WR (e σ h1) λ y h2=>WR (ipI op x y h2) λ z h3=>N (σ.set i (Za z)) h3:=by
 unfold sAug
 rw[JY]
 congr 1
 funext x h1
 rw[JY]
 congr 1
 funext y h2
 rw[JY]
 rfl
theorem Jvi (i j:Int):WR (ipI .Add (.int i) (.int j) h) Q=Q (.int (i+j)) h:=rfl
theorem Ju9 {bs:List Cm}{b:Int}(hd:IsDu h D rs)(gB:h[B]?=Za (.lst (bs.map tupC)))(ok:∀c∈bs,c.at_<rs.length) :
  WR (Jb9 (k+3) [.ref D,.ref B,.int b] h) λ v h'=>v=oV (fuG rs b 0 bs)/\h=h':=by
 generalize hF:fuG rs b 0 bs=F
 rw[Jim]
 simp! [Jc3,Jc4,Qb,gB]
 refine QG (λ n σ h'=>h=h'/\∃s a,σ=[Za (.ref D),Za (.ref B),Za (.int b),Za (.int s),a]/\F=fuG rs b s (bs.drop n)) (λ _ _ _ q=>by obtain⟨rfl,_⟩:=q;exact gB) ?_ ?_ ⟨rfl,0,Zd,rfl,hF.symm⟩
 ·rintro n hn _ _ ⟨rfl,s,a,rfl,e⟩
  have hn':n<bs.length:=by simpa using hn
  rw[Zam]
  have ed:bs.drop n=bs[n]::bs.drop (n+1):=Za9 hn'
  rw[ed] at e
  unfold fuG at e
  have ca:=ok _ (ZB hn')
  generalize bs[n]=c at e ca
  simp! [Jco,Jf0,J15,Jvi,Jqe (k:=k) hd ca,decide_eq_true_eq,decide_eq_false_iff_not]
  refine⟨λ z=>?_,λ z=>?_⟩
  ·rw[if_pos z] at e
   refine⟨λ y=>?_,λ y=>?_⟩
   ·rw[if_pos (by omega)] at e
    rw[e]
    rfl
   ·rw[if_neg (by omega)] at e
    exact⟨_,_,rfl,e⟩
  ·rw[if_neg (by omega)] at e
   exact⟨_,_,rfl,e⟩
 ·rintro _ _ ⟨rfl,s,a,rfl,e⟩
  rw[Zn,Zdn (Zr _)] at e
  simp! [Jc5]
  rw[e]
  rfl
end
section
variable {mk:IV->IH->Res IV}{kf:IV->Int}{h:IH}
theorem Jn3:∀(ys:List IV)(ks:List Int)(h':IH),Ex h h'->(∀y∈ys,∀h',Ex h h'->WR (mk y h') λ v h2=>v=.int (kf y)/\Ex h' h2)->WR (Qn mk ys ks h') λ v h2=>v=ks++ys.map kf/\Ex h' h2
 | [],ks,h',x,_=>⟨by simp,.refl _⟩
 | y::ys,ks,h',x,q=>by
  obtain⟨v,h2,e,rfl,x2⟩:=(q y Z0 h' x).eq
  show WR ((mk y h').nx.bind _) _
  rw[e]
  exact WR.mono (Jn3 ys (ks++[kf y]) h2 (x.trans x2) λ y hy=>q y (Zi _ hy)) λ v h3 ⟨a,b⟩=>⟨by rw[a];simp,x2.trans b⟩
theorem Jsw (hi:h[i]?=Za (.lst ys))(l64:ys.length<64)(hm:∀y∈ys,∀h',Ex h h'->WR (mk y h') λ v h2=>v=.int (kf y)/\Ex h' h2) :
  WR (XC mk i h) λ v h'=>∃h2,Ex h h2/\v=.ref h2.length/\h'=h2++[.lst ((ordK (ys.map kf) ys.length).map λ i=>ys.getD i .non)]:=by
 unfold XC
 rw[hi]
 dsimp only
 rw[if_pos l64]
 obtain⟨v,h2,e,rfl,x2⟩:=(Jn3 ys [] h (.refl _) hm).eq
 rw[e]
 exact⟨h2,x2,rfl,rfl⟩
theorem Jvp {js:List Nat}{m:E1}{Q:IV->IH->Prop}(hj:h[j]?=Za (.tab q))(hi:σ[i]?=Za (Za (.ref a))) :
  WR (Xr q j js (Jb (Ja i) Jd) m σ h) Q=WR (XC (λ v h'=>m (Za v::js.map λ j=>(σ[j]?).join) h') a h) Q:=by
 have e:Jb (Ja i) Jd σ h=.ok [.ref a] h:=by
  unfold Jb Ja Jd
  rw[hi]
  rfl
 unfold Xr
 rw[e]
 show WR (match h[j]? with|some (.tab q')=>_|_=>_) Q=_
 rw[hj]
 dsimp only
 rw[if_pos rfl]
theorem Jph {ns:List Int}(he:WR (e σ h) λ v h1=>∃i,v=.ref i/\h1[i]?=Za (.lst (ns.map .int))/\Ex h h1)(l64:ns.length<64) :
  WR (XZ (Jb e Jd) σ h) λ v h'=>∃h1,Ex h h1/\v=.ref h1.length/\h'=h1++[.lst ((Vc (ddN (Qm ns) ns.length)).map .int)]:=by
 obtain⟨v,h1,q,i,rfl,gi,x1⟩:=he.eq
 unfold XZ Jb Jd
 rw[q]
 show WR (match h1[i]? with|some (.lst ys)=>_|_=>_) _
 rw[gi]
 dsimp only
 rw[QX]
 dsimp only
 rw[if_pos l64]
 exact⟨h1,x1,rfl,rfl⟩
end
def bsOf (rs:List RH)(cs:List Cm):List Cm:=(ordK (cs.map (duC rs)) cs.length).map λ i=>cs.getD i cd
def zsOf (cs:List Cm):List Int:=Vc (ddN (Qm (cs.map rdC)) cs.length)
theorem Jlm (rs:List RH)(cs:List Cm):(bsOf rs cs).Perm cs:=by
 unfold bsOf
 have e:(Z9 cs.length).map (λ i=>cs.getD i cd)=cs:=by
  refine Zbx (by simp) λ i h1 h2=>?_
  simp[Zg,h2]
 rcases Zcl cs.length with z|z
 ·rw[Zal z]
  show(List.map _ (ordK _ 0)).Perm []
  rw[Yo]
  exact .nil
 ·have:=(Jel (cs.map (duC rs)) z).map λ i=>cs.getD i cd
  rwa [e] at this
theorem Jzf (rs:List RH)(cs:List Cm):Sd rs (bsOf rs cs):=by
 unfold bsOf
 rw[Sd,ZbP]
 refine(Jm0 (cs.map (duC rs)) cs.length).imp_of_mem λ {i j} hi hj q=>?_
 have li:=V9 _ i hi
 have lj:=V9 _ j hj
 simpa [Zg,Zb li,Zb lj] using q
theorem J18:x∈zsOf cs↔∃c∈cs,x=rdC c:=by
 unfold zsOf Vc
 rw[(List.mergeSort_perm _ _).mem_iff,Jp6]
 constructor
 ·rintro⟨j,hj,rfl⟩
  exact⟨cs[j],ZB hj,by simp[Qm,Zg,hj]⟩
 ·rintro⟨c,hc,rfl⟩
  obtain⟨j,hj,rfl⟩:=ZF.mp hc
  exact⟨j,hj,by simp[Qm,Zg,hj]⟩
def tfG (rs:List RH)(cs:List Cm)(b:Int):Option (Int×Int):=(fuG rs b 0 (bsOf rs cs)).map λ u=>(b,u)
def tfO (rs:List RH)(cs:List Cm):Option (Int×Int):=(zsOf cs).findSome? (tfG rs cs)
def tfV (o:Option (Int×Int)):IV:=match o with
 | some (b,u)=>.tup [.int b,.int u]
 | none=>.non
def dueV (rs:List RH)(v:IV):Int:=match v with
 | .tup [.int a,.int b,_,_]=>b+(rs.getD a.toNat rd).1.due
 | _=>0
def rdV (v:IV):IV:=match v with
 | .tup [_,.int b,.int c,_]=>.int (b+c)
 | _=>.non
section
variable {k:Nat}{h:IH}
theorem J1v {cs:List Cm}(h0:h[1]?=Za (.tab "too_full"))(hd:IsDu h D rs)(gR:h[R]?=Za (.lst (cs.map tupC)))(L:Legal rs cs)(hl:cs.length<=60) :
  WR (Jer (k+6) [.ref D,.ref R] h) λ v h'=>v=tfV (tfO rs cs)/\Ex h h':=by
 have hb:=J9
 generalize hF:tfO rs cs=F
 rw[Jlw]
 dsimp! [Je8]
 refine WR.mono (Jvt (k:=k) hd gR L (by omega)) ?_
 rintro _ h1 ⟨rfl,x1⟩
 simp! [Je9]
 rw[Jvp (x1.get h0) rfl]
 refine WR.mono (Jsw (kf:=dueV rs) (x1.get gR) (by rw[Zn];omega) ?_) ?_
 ·intro y hy h' x'
  obtain⟨c,hc,rfl⟩:=ZD.mp hy
  simp only[Z7,Zb5,Zbd,Zbe,Zc7]
  simp! [Jc9,Jqe (k:=k+3) (hd.kp (x1.trans x').kp) (L.ok c hc).at_]
  exact⟨rfl,.refl _⟩
 rintro _ _ ⟨h2,x2,rfl,rfl⟩
 have ek:(cs.map tupC).map (dueV rs)=cs.map (duC rs):=by
  rw[Zak]
  rfl
 have eb:((ordK ((cs.map tupC).map (dueV rs)) (cs.map tupC).length).map λ i=>(cs.map tupC).getD i .non)=(bsOf rs cs).map tupC:=by
  rw[ek,Zn]
  unfold bsOf
  rw[Zak]
  refine ZaH λ i hi=>?_
  have:=V9 _ i hi
  simp[Zg,Zb this]
 rw[eb]
 have x3:=(x1.trans x2).trans (.one h2 (IX.lst ((bsOf rs cs).map tupC)))
 have gB:(h2++[IX.lst ((bsOf rs cs).map tupC)])[h2.length]?=Za (.lst ((bsOf rs cs).map tupC)):=grown
 generalize h2++[IX.lst ((bsOf rs cs).map tupC)]=h3 at x3 gB ⊢
 generalize h2.length=B at gB ⊢
 simp! [Jfa]
 refine WR.mono (Jph (ns:=cs.map rdC) ?_ (by rw[Zn];omega)) ?_
 ·refine WR.mono (QQ (h:=h3) (xs:=cs.map tupC) (chk:=λ h'=>h'[R]?=Za (.lst (cs.map tupC))) (f:=rdV) ?_ (by rw[Zn];omega) (λ h2 q=>q _ _ (x3.get gR)) ?_) ?_
  ·simp! [Qb,x3.get gR]
  ·intro v hv h4 q
   obtain⟨c,hc,rfl⟩:=ZD.mp hv
   simp! [Jda,Jf0]
   exact⟨rfl,.refl _⟩
  ·rintro _ _ ⟨rfl,g,rfl⟩
   refine⟨_,rfl,?_,.cons _ _ _⟩
   rw[Jz,Zak,Zak]
   rfl
 rintro _ _ ⟨h4,x4,rfl,rfl⟩
 rw[Zn]
 have ez:Vc (ddN (Qm (cs.map rdC)) cs.length)=zsOf cs:=rfl
 rw[ez]
 have x5:=(x3.trans x4).trans (.one h4 (IX.lst ((zsOf cs).map IV.int)))
 have gB5:(h4++[IX.lst ((zsOf cs).map IV.int)])[B]?=_:=grow (x4.get gB)
 have gZ:(h4++[IX.lst ((zsOf cs).map IV.int)])[h4.length]?=Za (.lst ((zsOf cs).map IV.int)):=grown
 generalize h4++[IX.lst ((zsOf cs).map IV.int)]=h5 at x5 gB5 gZ ⊢
 generalize h4.length=Z at gZ ⊢
 have bok:∀c∈bsOf rs cs,c.at_<rs.length:=λ c hc=>(L.ok c ((Jlm rs cs).mem_iff.mp hc)).at_
 simp! [Qb,gZ]
 refine QG (λ n σ h'=>h5=h'/\∃a b,σ=[Za (.ref D),Za (.ref R),Za (.ref B),a,b]/\F=((zsOf cs).drop n).findSome? (tfG rs cs)) (λ _ _ _ q=>by obtain⟨rfl,_⟩:=q;exact gZ) ?_ ?_ ⟨rfl,Zd,Zd,rfl,hF.symm⟩
 ·rintro n hn _ _ ⟨rfl,a,b,rfl,e⟩
  have hn':n<(zsOf cs).length:=by simpa using hn
  rw[Zam]
  have ed:(zsOf cs).drop n=(zsOf cs)[n]::(zsOf cs).drop (n+1):=Za9 hn'
  rw[ed,List.findSome?_cons] at e
  generalize (zsOf cs)[n]=z at e
  simp! [Jek]
  refine WR.mono (Ju9 (k:=k+2) (b:=z) (hd.kp x5.kp) gB5 bok) ?_
  rintro _ _ ⟨rfl,rfl⟩
  cases ef:fuG rs z 0 (bsOf rs cs) with
  | none =>
   have eg:tfG rs cs z=Zd:=by unfold tfG;rw[ef];rfl
   rw[eg] at e
   simp! [oV,Jny,isI]
   exact⟨_,_,rfl,e⟩
  | some u =>
   have eg:tfG rs cs z=Za (z,u):=by unfold tfG;rw[ef];rfl
   rw[eg] at e
   simp! [oV,Jny,isI,ZN,Zbm]
   exact⟨by omega,by rw[e];rfl,x5⟩
 ·rintro _ _ ⟨rfl,a,b,rfl,e⟩
  rw[Zn,Zdn (Zr _)] at e
  simp! [Jfb]
  exact⟨by rw[e];rfl,x5⟩
end
theorem Jyy (e:tfO rs cs=Zd):∀c∈cs,fuG rs (rdC c) 0 (bsOf rs cs)=Zd:=λ c hc=>by
 unfold tfO at e
 rw[List.findSome?_eq_none_iff] at e
 have:=e _ (J18.mpr ⟨c,hc,rfl⟩)
 unfold tfG at this
 cases q:fuG rs (rdC c) 0 (bsOf rs cs) with
 | none=>rfl
 | some u=>rw[q] at this;cases this
theorem Jyz (e:tfO rs cs=Za (b,u)):fuG rs b 0 (bsOf rs cs)=Za u:=by
 unfold tfO at e
 obtain⟨l1,z,l2,_,q,_⟩:=List.findSome?_eq_some_iff.mp e
 unfold tfG at q
 obtain⟨u',h1,h2⟩:=Z8.mp q
 cases h2
 exact h1
def VS (rs:List RH)(cs:List Cm)(b l:Int):Bool:=!(cs.filter (inB rs b l)).isEmpty&&decide (l-b<Qq rs b l cs)
theorem Jkd (L:Legal rs cs)(e:tfO rs cs=Za (b,u)):VS rs cs b u=Zj:=by
 have p:=Jlm rs cs
 obtain⟨⟨c,hc,c1,c2⟩,lt⟩:=Jls (Jzf rs cs) (λ c hc=>(L.ok c (p.mem_iff.mp hc)).n1) (Jyz e)
 rw[Je0 p] at lt
 have hin:c∈cs.filter (inB rs b u):=Za0.mpr ⟨p.mem_iff.mp hc,by simp[inB,c1,c2]⟩
 unfold VS
 rw[Zp,decide_eq_true_eq,ZaV]
 refine⟨?_,by omega⟩
 cases q:cs.filter (inB rs b u) with
 | nil=>rw[q] at hin;cases hin
 | cons _ _=>rfl
theorem Jqn (e:tfO rs cs=Zd)(hc:c∈cs):VS rs cs (rdC c) l=Zm:=by
 have p:=Jlm rs cs
 unfold VS
 cases q:cs.filter (inB rs (rdC c) l) with
 | nil=>rfl
 | cons x r =>
  have hx:x∈cs.filter (inB rs (rdC c) l):=by rw[q];exact Z0
  obtain⟨h1,h2⟩:=Za0.mp hx
  have:=Jlr (l:=l) (Jzf rs cs) (Jyy e c hc) ⟨x,p.mem_iff.mpr h1,h2⟩
  rw[Je0 p] at this
  have n:¬l-rdC c<Qq rs (rdC c) l cs:=by omega
  simp[n]
theorem Jvy:dnS rs cs b d (lnN cs)=Qq rs b d cs:=by
 have e:(Z9 cs.length).map (λ q=>if b<=rdN cs q/\duN rs cs q<=d then lnN cs q else 0)=cs.map λ c=>if b<=rdC c/\duC rs c<=d then c.len else 0:=by
  refine Zbx (by simp) λ i h1 h2=>?_
  have li:i<cs.length:=by simpa using h1
  simp only[Zam,ZcU,rdN,duN,lnN]
  rw[show cs.getD i cd=cs[i] by rw[Zg,Zb li];rfl]
 unfold dnS
 rw[e]
 clear e
 induction cs with
 | nil=>rfl
 | cons c cs ih =>
  rw[Z7,Zaw,ih,QC]
  congr 1
  unfold inB
  by_cases h1:b<=rdC c
  ·by_cases h2:duC rs c<=d
   ·rw[if_pos ⟨h1,h2⟩,if_pos (by rw[decide_eq_true h1,decide_eq_true h2];rfl)]
   ·rw[if_neg λ z=>h2 z.2,if_neg (by rw[decide_eq_false h2,Zfe];exact Zs)]
  ·rw[if_neg λ z=>h1 z.1,if_neg (by rw[decide_eq_false h1,ZdR];exact Zs)]
theorem Jig:∀{l:List St3}{e:Int},endP p l=Za e->∃c∈l,c.1=p/\c.2.2=e
 | a::l,e,h=>by
  rw[endP] at h
  cases q:endP p l with
  | some z =>
   rw[q] at h
   cases h
   obtain⟨c,hc,e1⟩:=Jig q
   exact⟨c,Zi _ hc,e1⟩
  | none =>
   rw[q] at h
   by_cases z:a.1=p
   ·simp only[z,if_true,Za3] at h
    exact⟨a,Z0,z,h⟩
   ·simp[z] at h
theorem Jqg:∀{l:List St3},l.Pairwise (λ a b=>a.2.2<=b.2.1)->(∀a∈l,a.2.1<a.2.2)->∀a∈l,a.1=p->a.2.2<=(endP p l).getD 0
 | b::l,pw,ps,a,ha,z=>by
  obtain⟨p1,p2⟩:=ZaB.mp pw
  rw[endP]
  cases q:endP p l with
  | some e =>
   rcases Z2.mp ha with rfl|ha
   ·obtain⟨c,hc,_,e1⟩:=Jig q
    have:=p1 c hc
    have:=ps c (Zi _ hc)
    show _<=e
    omega
   ·have:=Jqg (p:=p) p2 (λ x hx=>ps x (Zi _ hx)) a ha z
    rw[q] at this
    exact this
  | none =>
   rcases Z2.mp ha with rfl|ha
   ·simp[z]
   ·have:=Jgm q
    have nn:∀{l:List St3},(∀a∈l,a.2.1<a.2.2)->(∃a∈l,a.1=p)->0<sumP p l:=λ {l}=>by
     induction l with
     | nil=>intro _ ⟨_,h,_⟩;cases h
     | cons c l ih =>
      intro ps ⟨x,hx,ex⟩
      have h0:0<=sumP p l:=by
       by_cases h:∃a∈l,a.1=p
       ·exact Int.le_of_lt (ih (λ y hy=>ps y (Zi _ hy)) h)
       ·have:∀{l:List St3},(¬ ∃a∈l,a.1=p)->sumP p l=0:=λ {l}=>by
         induction l with
         | nil=>intro _;rfl
         | cons c l ih =>
          intro h
          rw[Qr,if_neg λ e=>h ⟨c,Z0,e⟩,ih λ ⟨x,hx,e⟩=>h ⟨x,Zi _ hx,e⟩]
          rfl
        rw[this h]
        exact Zap _
      have hc:=ps c Z0
      rw[Qr]
      rcases Z2.mp hx with rfl|hx
      ·rw[if_pos ex]
       omega
      ·have:=ih (λ y hy=>ps y (Zi _ hy)) ⟨x,hx,ex⟩
       split<;>omega
    have:=nn (λ x hx=>ps x (Zi _ hx)) ⟨a,ha,z⟩
    omega
theorem Jix [DecidablePred Q]:∀{l:List St3}{U:Int},B<=U->l.Pairwise (λ a b=>b.2.2<=a.2.1)->(∀a∈l,a.2.1<a.2.2/\(Q a.1->B<=a.2.1/\a.2.2<=U))->(l.map λ a=>if Q a.1 then a.2.2-a.2.1 else 0).sum<=U-B
 | [],U,h,_,_=>by show(0:Int)<=_;omega
 | a::l,U,h,pw,q=>by
  obtain⟨p1,p2⟩:=ZaB.mp pw
  rw[Z7,Zaw]
  obtain⟨a1,a2⟩:=q a Z0
  split
  ·rename_i qa
   have:=a2 qa
   have:=Jix (Q:=Q) (U:=a.2.1) (by omega) p2 λ b hb=>⟨(q b (Zi _ hb)).1,λ qb=>⟨((q b (Zi _ hb)).2 qb).1,p1 b hb⟩⟩
   omega
  ·have:=Jix (Q:=Q) h p2 λ b hb=>q b (Zi _ hb)
   omega
theorem swap [DecidablePred Q]:∀{l:List St3},(∀a∈l,a.1<n)->((Z9 n).map λ q=>if Q q then sumP q l else 0).sum=(l.map λ a=>if Q a.1 then a.2.2-a.2.1 else 0).sum
 | [],_=>by
  have:∀m:List Nat,(m.map λ q=>if Q q then sumP q [] else 0).sum=0:=λ m=>by
   induction m with
   | nil=>rfl
   | cons a m ih =>
    rw[Z7,Zaw,ih]
    split<;>rfl
  exact this _
 | a::l,h=>by
  rw[Z7,Zaw,<-swap λ b hb=>h b (Zi _ hb),Int.add_comm]
  refine Jme _ Zd0 (ZR.mpr (h a Z0)) (λ q _ nq=>?_) ?_
  ·rw[Qr,if_neg (ZO nq),Zdp]
  ·rw[Qr,if_pos rfl]
   split<;>omega
theorem edf (L:Legal rs cs)(six:∀r∈rs,r.2.length<=6):Yj rs cs=[]↔tfO rs cs=Zd:=by
 obtain⟨sv,sm⟩:=Jv0 L six
 have pw:=Zdu.mpr sv.pw
 have ps:∀a∈(finM rs cs).sr.reverse,a.2.1<a.2.2:=λ a ha=>(sv.ea a (Zb0.mp ha)).2.2.1
 have la:∀p,p<cs.length->(Q8 rs cs).getD p 0=(endP p (finM rs cs).sr.reverse).getD 0:=λ p lp=>by
  unfold Q8
  rw[Zg,Zy,ZcC lp]
  rfl
 constructor
 ·intro e
  have ot:∀a∈(finM rs cs).sr,a.2.2<=duN rs cs a.1:=λ a ha=>by
   have lp:=(sv.ea a ha).1
   have h:=Jqg (p:=a.1) pw ps a (Zb0.mpr ha) rfl
   have:¬duC rs (cs.getD a.1 cd)<(Q8 rs cs).getD a.1 0:=λ z=>by
    have:((a.1:Nat):Int)∈Yj rs cs:=ZD.mpr ⟨a.1,Za0.mpr ⟨ZR.mpr lp,decide_eq_true z⟩,rfl⟩
    rw[e] at this
    cases this
   rw[la _ lp] at this
   show _<=duC rs (cs.getD a.1 cd)
   omega
  cases t:tfO rs cs with
  | none=>rfl
  | some bu =>
   obtain⟨b,u⟩:=bu
   have f:=Jkd L t
   unfold VS at f
   obtain⟨f1,f2⟩:=Zp .. ▸f
   have f2:=of_decide_eq_true f2
   rw[<- Jvy] at f2
   have e1:dnS rs cs b u (lnN cs)=dnS rs cs b u λ q=>sumP q (finM rs cs).sr:=by
    unfold dnS
    congr 1
    refine ZaH λ q hq=>?_
    dsimp only
    rw[sm q (ZR.mp hq)]
   rw[e1,show dnS rs cs b u (λ q=>sumP q (finM rs cs).sr)=_ from swap (Q:=λ q=>b<=rdN cs q/\duN rs cs q<=u) λ a ha=>(sv.ea a ha).1] at f2
   have bu:b<=u:=by
    have ne:(cs.filter (inB rs b u))≠[]:=λ z=>by rw[z] at f1;cases f1
    obtain⟨c,hc⟩:=ZcB _ ne
    obtain⟨hc,q⟩:=Za0.mp hc
    obtain⟨q1,q2⟩:=Zp .. ▸q
    have q1:=of_decide_eq_true q1
    have q2:=of_decide_eq_true q2
    obtain⟨i,hi,rfl⟩:=ZF.mp hc
    have g:cs.getD i cd=cs[i]:=by rw[Zg,Zb hi];rfl
    have s:=sm i hi
    have n1:=(L.ok _ hc).n1
    have:∃a∈(finM rs cs).sr,a.1=i:=by
     have:∀{l:List St3},sumP i l≠0->∃a∈l,a.1=i:=λ {l}=>by
      induction l with
      | nil=>intro h;exact absurd rfl h
      | cons a l ih =>
       intro h
       by_cases z:a.1=i
       ·exact⟨a,Z0,z⟩
       ·rw[Qr,if_neg z,Zdp] at h
        obtain⟨x,hx,e⟩:=ih h
        exact⟨x,Zi _ hx,e⟩
     exact this (by rw[s];unfold lnN;rw[g];omega)
    obtain⟨a,ha,rfl⟩:=this
    have h1:=sv.ea a ha
    have h2:=ot a ha
    unfold duN at h2
    unfold rdN at h1
    rw[g] at h1 h2
    omega
   have:=Jix (Q:=λ q=>b<=rdN cs q/\duN rs cs q<=u) bu sv.pw λ a ha=>⟨(sv.ea a ha).2.2.1,λ qa=>⟨Zc5 qa.1 (sv.ea a ha).2.1,Zc5 (ot a ha) qa.2⟩⟩
   omega
 ·intro t
  have ot:=sv.ot λ b d ⟨c,lc,ec⟩=>by
   have hc:cs.getD c cd∈cs:=by rw[Zg,Zb lc];exact ZB lc
   have f:=Jqn (l:=d) t hc
   rw[show rdC (cs.getD c cd)=b from ec] at f
   unfold VS at f
   by_cases z:cs.filter (inB rs b d)=[]
   ·refine .inr λ q lq bq=>?_
    have:=ZeJ.mp z (cs.getD q cd) (by rw[Zg,Zb lq];exact ZB lq)
    unfold inB at this
    rw[decide_eq_true (show b<=rdC (cs.getD q cd) from bq),Bool.true_and,decide_eq_true_eq] at this
    show d<duC rs (cs.getD q cd)
    omega
   ·refine .inl ?_
    have:(cs.filter (inB rs b d)).isEmpty=Zm:=by cases h:cs.filter (inB rs b d) with|nil=>exact absurd h z|cons _ _=>rfl
    rw[this,Zcz,Bool.true_and,decide_eq_false_iff_not,<-Jvy] at f
    omega
  unfold Yj
  rw[List.map_eq_nil_iff,ZeJ]
  intro p hp
  have lp:=ZR.mp hp
  rw[decide_eq_true_eq,la p lp]
  obtain⟨_,sp,_⟩:=Jwf L six
  have sp:=sp p lp
  cases q:endP p (finM rs cs).sr.reverse with
  | none=>rw[q] at sp;cases sp
  | some e =>
   obtain⟨c,hc,rfl,rfl⟩:=Jig q
   have:=ot c (Zb0.mp hc)
   show ¬duC rs (cs.getD c.1 cd)<c.2.2
   unfold duN at this
   omega
def nmA (m:Int)(n:Nat):Str:=ZfD (⟨#[97+n]⟩:Str) m
theorem nmA_ok':∀m,m<8->∀n,n<5->IsNm (nmA (1+(m:Nat):Int) n):=by unfold IsNm;decide +kernel
theorem nmA_inj':∀m,m<8->∀n,n<5->∀l,l<5->nmA (1+(m:Nat):Int) n=nmA (1+(m:Nat):Int) l->n=l:=by decide +kernel
theorem Jwc (h1:1<=m)(h8:m<=8)(hn:n<5):IsNm (nmA m n):=by
 have:=nmA_ok' (m-1).toNat (by omega) n hn
 rwa [show(1+((m-1).toNat:Nat):Int)=m by omega] at this
theorem Jx3 (h1:1<=m)(h8:m<=8)(hn:n<5)(hl:l<5)(e:nmA m n=nmA m l):n=l:=by
 have:=nmA_inj' (m-1).toNat (by omega) n hn l hl
 rw[show(1+((m-1).toNat:Nat):Int)=m by omega] at this
 exact this e
section
variable {k:Nat}{h:IH}
theorem cpsA:(ZaO "abcde").cps.toList=(Z9 5).map (97+ ·):=by decide +kernel
theorem lenA:(ZaO "abcde").length=5:=by decide +kernel
theorem a_at {n:Nat}(hn:n<5):WR (Jg (.str "abcde") (.int (n:Int)) h) Q=Q (.str ⟨#[97+n]⟩) h:=by
 have hb:=J9
 have e:atI (ZaO "abcde").cps.toList (n:Int)=Za (97+n):=by
  rw[cpsA]
  refine JQ ?_
  rw[Zy,ZcC hn]
  rfl
 simp only[Jg]
 rw[if_pos (by rw[lenA];omega),e]
 rfl
theorem Jzb (x:Str)(n:Int):WR (JN (.str x) (.int n) h) Q=(MulS x n=Zj/\Q (.str (ZfD x n)) h):=by
 unfold JN
 dsimp only
 rw[QF]
 by_cases hm:MulS x n=Zj<;>simp[hm,WR]
end
structure Cg where
 come:Int
 late:Int
 turns:Int
 due:Int
abbrev tupG (g:Cg):IV:=.tup [.int g.come,.int g.late,.int g.turns,.int g.due]
def gz:Cg:=⟨0,0,0,0⟩
structure Pc (U:Int)(m:Nat)(ps:List St3):Prop where
 lt:∀a∈ps,a.1<m/\4*U<=a.2.1/\a.2.1<a.2.2/\a.2.2<=28*U
 pw:ps.Pairwise λ a b=>a.2.2<=b.2.1
structure GOk (U:Int)(ps:List St3)(k:Nat)(g:Cg):Prop where
 c0:2*U<=g.come
 l0:0<=g.late
 l1:g.late<=U
 d1:1<=g.due
 up:g.come+g.due<=31*U
 tn:g.turns=sumP k ps
 pc:∀a∈ps,a.1=k->g.come+g.late<=a.2.1/\a.2.2<=g.come+g.due
structure Wk (gs:List Cg)(top n:Int)(rs:List RH):Prop where
 len:rs.length=gs.length
 ok:∀(k:Nat) g r,gs[k]?=Za g->rs[k]?=Za r->r.2=[]/\r.1.due=g.due/\g.late<=r.1.late/\r.1.late<=g.late+4/\g.turns<=r.1.len/\1<=r.1.len/\top<=r.1.gap/\r.1.gap<=top+2/\r.1.name=nmA n k
def cmT (gs:List Cg)(most:Int)(k t:Nat):Cm:=⟨k,(gs.getD k gz).come+(t:Int)*most,(gs.getD k gz).late,(gs.getD k gz).turns⟩
def rowK (gs:List Cg)(most:Int)(again:Nat)(k:Nat):List Cm:=if 0<(gs.getD k gz).turns then(Z9 (1+again)).map (cmT gs most k) else[]
def rowL (gs:List Cg)(most:Int)(again:Nat)(n:Nat):List Cm:=(Z9 n).flatMap (rowK gs most again)
theorem Jni {f:Nat->Nat->Int}:∀(A B:List Nat),(A.map λ a=>(B.map λ b=>f a b).sum).sum=(B.map λ b=>(A.map λ a=>f a b).sum).sum
 | [],B=>by
  induction B with
  | nil=>rfl
  | cons b B ih=>rw[Z7,Zaw,<-ih];rfl
 | a::A,B=>by
  rw[Z7,Zaw,Jni A B]
  induction B with
  | nil=>rfl
  | cons b B ih=>simp only[Z7,Zaw] at ih ⊢;omega
theorem Jjb {α:Type}{f:Nat->List α}{F:α->Int}:∀(A:List Nat),((A.flatMap f).map F).sum=(A.map λ a=>((f a).map F).sum).sum
 | []=>rfl
 | a::A=>by rw[List.flatMap_cons,ZbC,List.sum_append,Jjb A,Z7,Zaw]
theorem Jsh:∀{l:List St3},(∀a∈l,a.2.1<a.2.2)->0<=sumP k l
 | [],_=>Zap _
 | a::l,h=>by
  have:=Jsh (k:=k) λ b hb=>h b (Zi _ hb)
  have:=h a Z0
  rw[Qr]
  split<;>omega
def shf (most:Int)(t:Nat)(a:St3):St3:=(t*5+a.1,a.2.1+(t:Int)*most,a.2.2+(t:Int)*most)
def allT (ps:List St3)(most:Int)(again:Nat):List St3:=(Z9 (1+again)).reverse.flatMap λ t=>ps.reverse.map (shf most t)
section
variable {U top most:Int}{m again:Nat}{ps:List St3}{gs:List Cg}{rs:List RH}{n:Int}
theorem Jze (hU:0<=U)(hm:∀a∈ps,a.2.2<=most)(m0:0<=most)(P:Pc U m ps):(allT ps most again).Pairwise λ a b=>b.2.2<=a.2.1:=by
 refine ZeZ.mpr ⟨λ t _=>ZbP.mpr ((Zdu.mpr P.pw).imp λ {a b} h=>by show _+_<=_+_;omega),Zdu.mpr (List.pairwise_lt_range.imp λ {t1 t2} lt x hx y hy=>?_)⟩
 obtain⟨a,ha,rfl⟩:=ZD.mp hx
 obtain⟨b,hb,rfl⟩:=ZD.mp hy
 have h1:=P.lt a (Zb0.mp ha)
 have h2:=hm b (Zb0.mp hb)
 show b.2.2+(t1:Int)*most<=a.2.1+(t2:Int)*most
 have:((t1:Int)+1)*most<=(t2:Int)*most:=Zcg (by omega) m0
 rw[Zd8,Int.one_mul] at this
 omega
theorem Jui (h5:gs.length<=5)(P:Pc U gs.length ps)(hg:∀(k:Nat) g,gs[k]?=Za g->GOk U ps k g)(W:Wk gs top n rs)(hU:0<=U)(hm:∀a∈ps,a.2.2<=most)(m0:0<=most){b u:Int}(bu:b<=u):Qq rs b u (rowL gs most again gs.length)<=u-b:=by
 have e0:∀cs:List Cm,Qq rs b u cs=(cs.map λ c=>if b<=rdC c/\duC rs c<=u then c.len else 0).sum:=λ cs=>by
  induction cs with
  | nil=>rfl
  | cons c cs ih =>
   rw[Z7,Zaw,<-ih,QC]
   congr 1
   unfold inB
   by_cases h1:b<=rdC c
   ·by_cases h2:duC rs c<=u
    ·rw[if_pos (by rw[decide_eq_true h1,decide_eq_true h2];rfl),if_pos ⟨h1,h2⟩]
    ·rw[if_neg (by rw[decide_eq_false h2,Zfe];exact Zs),if_neg λ z=>h2 z.2]
   ·rw[if_neg (by rw[decide_eq_false h1,ZdR];exact Zs),if_neg λ z=>h1 z.1]
 have get:∀k,k<gs.length->GOk U ps k (gs.getD k gz):=λ k lk=>hg k _ (by rw[Zg,Zb lk];rfl)
 -- who counts
 let Q:Nat->Prop:=λ i=>b<=rdC (cmT gs most (i%5) (i/5))/\duC rs (cmT gs most (i%5) (i/5))<=u
 have key:(( rowL gs most again gs.length).map λ c=>if b<=rdC c/\duC rs c<=u then c.len else 0).sum=((allT ps most again).map λ a=>if Q a.1 then a.2.2-a.2.1 else 0).sum:=by
  unfold rowL allT
  rw[Jjb,Jjb]
  have e1:∀k∈Z9 gs.length,((rowK gs most again k).map λ c=>if b<=rdC c/\duC rs c<=u then c.len else 0).sum=((Z9 (1+again)).map λ t=>if b<=rdC (cmT gs most k t)/\duC rs (cmT gs most k t)<=u then sumP k ps else 0).sum:=λ k hk=>by
   have g:=get k (ZR.mp hk)
   unfold rowK
   split
   ·rw[Zak]
    congr 1
    refine ZaH λ t _=>?_
    show(if _ then(gs.getD k gz).turns else 0)=_
    rw[g.tn]
   ·rename_i z
    have s0:sumP k ps=0:=by
     have:=Jsh (k:=k) (λ a ha=>(P.lt a ha).2.2.1)
     have:=g.tn
     omega
    have:∀l:List Nat,(l.map λ t=>if b<=rdC (cmT gs most k t)/\duC rs (cmT gs most k t)<=u then sumP k ps else 0).sum=0:=λ l=>by
     induction l with
     | nil=>rfl
     | cons t l ih =>
      rw[Z7,Zaw,ih,s0]
      split<;>rfl
    rw[this]
    rfl
  rw[ZaH e1,Jni]
  have e2:∀t∈Z9 (1+again),((Z9 gs.length).map λ k=>if b<=rdC (cmT gs most k t)/\duC rs (cmT gs most k t)<=u then sumP k ps else 0).sum=((ps.reverse.map (shf most t)).map λ a=>if Q a.1 then a.2.2-a.2.1 else 0).sum:=λ t _=>by
   rw[swap (Q:=λ k=>b<=rdC (cmT gs most k t)/\duC rs (cmT gs most k t)<=u) λ a ha=>(P.lt a ha).1,<-List.sum_reverse,<-Ze4,Zak]
   congr 1
   refine ZaH λ a ha=>?_
   have l5:=(P.lt a (Zb0.mp ha)).1
   show _=if Q (t*5+a.1) then a.2.2+(t:Int)*most-(a.2.1+(t:Int)*most) else 0
   rw[show a.2.2+(t:Int)*most-(a.2.1+(t:Int)*most)=a.2.2-a.2.1 by omega]
   show _=if b<=rdC (cmT gs most ((t*5+a.1)%5) ((t*5+a.1)/5))/\duC rs (cmT gs most ((t*5+a.1)%5) ((t*5+a.1)/5))<=u then a.2.2-a.2.1 else 0
   rw[show(t*5+a.1)%5=a.1 by omega,show(t*5+a.1)/5=t by omega]
  rw[ZaH e2,<-List.sum_reverse,<-Ze4]
 rw[e0,key]
 refine Jix (Q:=Q) bu (Jze hU hm m0 P) λ a ha=>?_
 obtain⟨t,_,ha⟩:=List.mem_flatMap.mp ha
 obtain⟨x,hx,rfl⟩:=ZD.mp ha
 have hx:=Zb0.mp hx
 obtain⟨lx,x1,x2,_⟩:=P.lt x hx
 refine⟨by show x.2.1+_<x.2.2+_;omega,λ q=>?_⟩
 have q:b<=rdC (cmT gs most ((t*5+x.1)%5) ((t*5+x.1)/5))/\duC rs (cmT gs most ((t*5+x.1)%5) ((t*5+x.1)/5))<=u:=q
 rw[show(t*5+x.1)%5=x.1 by omega,show(t*5+x.1)/5=t by omega] at q
 have g:=(get x.1 lx).pc x hx rfl
 have eg:gs[x.1]?=Za (gs.getD x.1 gz):=by rw[Zg,Zb lx];rfl
 have lr:x.1<rs.length:=by rw[W.len];exact lx
 have wd:=(W.ok x.1 _ _ eg (Zb lr)).2.1
 obtain⟨q1,q2⟩:=q
 have q1:b<=(gs.getD x.1 gz).come+(t:Int)*most+(gs.getD x.1 gz).late:=q1
 have q2:(gs.getD x.1 gz).come+(t:Int)*most+(rs.getD x.1 rd).1.due<=u:=q2
 rw[Xs lr,wd] at q2
 show b<=x.2.1+(t:Int)*most/\x.2.2+(t:Int)*most<=u
 omega
end
section
seal L4.run L4.WS
theorem Ju6 (f:Nat->Int):∀(n j:Nat),j<n->f j<=JG f n
 | 0,j,h=>by omega
 | 1,j,h=>by
  have:j=0:=by omega
  subst this
  exact Zap _
 | n+2,j,h=>by
  rw[Je1 f (by omega:0<n+1)]
  by_cases e:j=n+1
  ·subst e
   split<;>omega
  ·have:=Ju6 f (n+1) j (by omega)
   split<;>omega
def stJ (v:IV):ISt:=match v with
 | .tup [a,b,c]=>[Za a,Za b,Za c]
 | _=>[]
def fJ (f:St3->Int)(v:IV):IV:=match v with
 | .tup [.int a,.int b,.int c]=>.int (f (a.toNat,b,c))
 | _=>.non
section
variable {k:Nat}{h:IH}
theorem xaug (e1:Ja i σ h=.ok (.int a) h)(e2:e σ h=.ok (.int b) h1)(q:N (σ.set i (Za (.int (a+b)))) h1):WS (sAug .Add i e σ h) N R:=by
 unfold sAug
 rw[e1]
 simp only[rS,e2,L4.ipI]
 exact J4d q
theorem nilX (hi:h[i]?=Za (.lst xs))(hj:h[j]?=Za (.lst []))(q:∀x∈xs,Pl x):cEq (.ref i) (.ref j) h=.ok (.bl xs.isEmpty) h:=by
 have e2:toD h 6 (.ref j)=Za (.list []):=by rw[Jsk hj];rfl
 have e3:QU (.ref i) (.ref j) h=Za xs.isEmpty:=by
  unfold QU
  rw[Jw7 hi q,e2]
  dsimp only
  rw[if_pos ⟨by rw[Zcf];exact Jrc q,by rw[Zcf,ZaY]⟩,Zcj]
  cases xs with
  | nil=>rw[Zb5,Zd4];rfl
  | cons a as=>rw[Z7,Zd4];rfl;all_goals intros;simp_all
 unfold cEq
 rw[show VZ (.ref i) (.ref j)=Zd from rfl]
 dsimp only
 rw[e3]
theorem J3m (ps:List St3):∀x∈ps.map tupS,Pl x:=λ x hx=>by
 obtain⟨a,_,rfl⟩:=ZD.mp hx
 exact .inr ⟨[a.1,a.2.1,a.2.2],rfl⟩
theorem Jrr {ns:List Int}{m:Nat}(hU:1<=U) :
  WR (Jcb (k+1) [.rol (ns.map .int),.int U,.int (m:Int)] h) λ v h'=>∃j ps,v=.ref j/\h'[j]?=Za (.lst (ps.map tupS))/\Pc U m ps/\ps.length<=24/\Ex h h':=by
 have hb:=J9
 rw[Jio]
 refine xfin (xseq (xset (Je rfl (xseq (xset (Je (mulE rfl rfl (.inl (by decide))) (xseq (xfor ?_))))))))
 rw[Qy]
 refine Je (show eSl slI _ _ _ _ _=.ok (.ref (h++[IX.lst []]).length) (h++[IX.lst []]++[.lst (cutI (ns.map IV.int) (Za 2) (Za 26))]) from rfl) ((Qb _).mpr ⟨_,grown,?_⟩)
 have ec:cutI (ns.map IV.int) (Za 2) (Za 26)=((ns.take 26).drop 2).map IV.int:=by
  rw[show(Za (2:Int))=Za ((2:Nat):Int) from rfl,show(Za (26:Int))=Za ((26:Nat):Int) from rfl,Jw6,List.map_drop,List.map_take]
 rw[ec,Zag]
 have lc:((ns.take 26).drop 2).length<=24:=by rw[List.length_drop,Zc3];omega
 have gC:∀{ps:List IV},(h++IX.lst ps::[IX.lst (((ns.take 26).drop 2).map IV.int)])[(h++[IX.lst []]).length]?=Za (.lst (((ns.take 26).drop 2).map IV.int)):=λ {ps}=>by
  have:(h++[IX.lst ps]++[IX.lst (((ns.take 26).drop 2).map IV.int)])[(h++[IX.lst ps]).length]?=Za (.lst (((ns.take 26).drop 2).map IV.int)):=grown
  rw[Zag] at this
  rw[show(h++[IX.lst []]).length=(h++[IX.lst ps]).length by rw[Z1,Z1];rfl]
  exact this
 generalize (ns.take 26).drop 2=cells at lc gC
 refine QG (λ n σ h'=>∃ps T a b,σ=[Za (.rol (ns.map .int)),Za (.int U),Za (.int (m:Int)),Za (.ref h.length),Za (.int T),a,b]/\h'=h++.lst (ps.map tupS)::[.lst (cells.map IV.int)]/\ps.length<=n/\4*U<=T/\T<=4*U+n*U/\Pc U m ps/\∀a∈ps,a.2.2<=T) (λ _ _ _ ⟨_,_,_,_,_,e,_⟩=>by rw[e];exact gC) ?_ ?_ ⟨[],4*U,Zd,Zd,rfl,rfl,Zr _,Zap _,by omega,⟨(λ a ha=>by cases ha),.nil⟩,λ a ha=>by cases ha⟩
 ·rintro n hn _ _ ⟨ps,T,a,b,rfl,rfl,lp,t1,t2,P,up⟩
  have hn:n<cells.length:=by simpa using hn
  rw[Zam]
  generalize cells[n]=c
  have d0:=Zbq (c/6) (b:=U) (by omega)
  have d1:=ZaM (c/6) (b:=U) (by omega)
  have n24:(n:Int)*U+U<=24*U:=by
   have:((n:Int)+1)*U<=24*U:=Zcg (by omega) (by omega)
   rw[Zd8,Int.one_mul] at this
   exact this
  have n1:((n+1:Nat):Int)*U=n*U+U:=by rw[ZeO,Zd8];omega
  refine xnx rfl (xseq (xset (Je (addE rfl (modE (QW rfl rfl (by decide) (by decide)) rfl (by omega))) ?_)))
  generalize hd:1+c/6%U=d
  refine xseq (xifd (ltE (modE rfl rfl (by decide)) rfl) (λ l=>?_) λ l=>?_)
  ·refine QH (Vh rfl Jz VN (Je (arg1 (tupE (arg3 (modE rfl rfl (by decide)) rfl (addE rfl rfl)) rfl)) (xapp Jz (by rw[Zn];omega) ?_)))
   rw[Ji8]
   refine xaug rfl rfl ⟨ps++[((c%6).toNat,T,T+d)],T+d,_,_,rfl,?_,by rw[Z1,ZaI];omega,by omega,by omega,⟨λ x hx=>?_,?_⟩,λ x hx=>?_⟩
   ·have eq:tupS ((c%6).toNat,T,T+d)=.tup [.int (c%6),.int T,.int (T+d)]:=by
     show IV.tup [IV.int (((c%6).toNat:Nat):Int),_,_]=_
     rw[show(((c%6).toNat:Nat):Int)=c%6 by omega]
    rw[ZbC,List.map_singleton,eq]
   ·rcases Zah.mp hx with hx|hx
    ·exact P.lt x hx
    ·rw[Z5.mp hx]
     exact⟨by show(c%6).toNat<m;omega,t1,by show T<T+d;omega,by show T+d<=28*U;omega⟩
   ·refine Zb7.mpr ⟨P.pw,List.pairwise_singleton _ _,λ x hx y hy=>?_⟩
    rw[Z5.mp hy]
    exact up x hx
   ·rcases Zah.mp hx with hx|hx
    ·have:=up x hx
     omega
    ·rw[Z5.mp hx]
     exact Zap _
  ·refine xnil (xaug rfl rfl ⟨ps,T+d,_,_,rfl,rfl,by omega,by omega,by omega,P,λ x hx=>?_⟩)
   have:=up x hx
   omega
 ·rintro _ _ ⟨ps,T,a,b,rfl,rfl,lp,t1,t2,P,up⟩
  rw[Zn] at lp
  exact xret (Je rfl ⟨_,ps,rfl,Jz,P,by omega,.cons _ _ _⟩)
theorem cmp3 {ms:List St3}(ee:e σ h=.ok (.ref M) h)(gM:h[M]?=Za (.lst (ms.map tupS)))(lm:ms.length<=100)(he:∀a∈ms,∀h2,e' [Za (.int (a.1:Int)),Za (.int a.2.1),Za (.int a.2.2)] h2=.ok (.int (f a)) h2) :
  ∃gg,Jx (Ju e) 3 [] (gTp 3 (gC (gNm 0) (gC (gNm 1) (gC (gNm 2) gN)))) J7 e' σ h=.ok (.ref h.length) (h++.lst ((ms.map f).map .int)::gg):=by
 have hb:=J9
 obtain⟨_,_,e1,rfl,gg,rfl⟩:=(Jjl (it:=Ju e) (g:=gTp 3 (gC (gNm 0) (gC (gNm 1) (gC (gNm 2) gN)))) (t:=J7) (e:=e') (js:=[]) (σ:=σ) (h0:=h) (h:=h) (xs:=ms.map tupS) (chk:=λ h'=>h'[M]?=Za (.lst (ms.map tupS))) (n:=3) (st:=stJ) (p:=λ _=>Zj) (f:=fJ f)
  (by rw[Qy];exact Je ee ((Qb _).mpr ⟨_,gM,rfl,rfl,rfl⟩)) (by rw[Zn];omega) (λ h3 z=>z _ _ gM) (by
   intro x hx ls h3 l2
   obtain⟨a,_,rfl⟩:=ZD.mp hx
   match ls,l2 with
   | [a,b,c],_=>exact⟨rfl,rfl⟩) (λ x hx h3 q=>⟨rfl,.refl _⟩) (by
   intro x hx _ h3 q
   obtain⟨a,ha,rfl⟩:=ZD.mp hx
   refine Je (he a ha h3) ⟨?_,.refl _⟩
   show _=IV.int (f (Zct (a.1:Int),a.2.1,a.2.2))
   rw[Za7])).eq
 refine⟨gg,e1.trans ?_⟩
 rw[ZdE.mpr λ _ _=>rfl,Zak,Zak]
 congr 4
def isK (q:Nat)(v:IV):Bool:=match v with
 | .tup (.int x::_)=>decide (x=q)
 | _=>Zm
theorem Jp2 {P q:Nat}{cell U:Int}{ps:List St3}(hU:1<=U)(gP:h[P]?=Za (.lst (ps.map tupS)))(pc:Pc U m ps)(l24:ps.length<=24) :
  WR (Jca (k+2) [.ref P,.int (q:Int),.int cell,.int U] h) λ v h'=>(∃g,v=tupG g/\GOk U ps q g)/\Ex h h':=by
 have hb:=J9
 rw[Jin]
 obtain⟨_,_,e1,rfl,gg,rfl⟩:=(Jjk (it:=Ju (Ja 0)) (js:=[1]) (t:=Jb2 (k+1)) (e:=Jb1 (k+1)) (σ:=[Za (.ref P),Za (.int (q:Int)),Za (.int cell),Za (.int U),Zd,Zd,Zd,Zd,Zd,Zd,Zd,Zd]) (h0:=h) (h:=h) (xs:=ps.map tupS) (chk:=λ h'=>h'[P]?=Za (.lst (ps.map tupS))) (p:=isK q) (f:=λ v=>v)
  (by rw[Qy];exact Je rfl ((Qb _).mpr ⟨_,gP,rfl,rfl,rfl⟩)) (by rw[Zn];omega) (λ h3 z=>z _ _ gP) (by
   intro v hv h3 z
   obtain⟨a,_,rfl⟩:=ZD.mp hv
   exact Je (eqE (ixtE rfl rfl Qi) rfl) ⟨rfl,.refl _⟩) (by
   intro v hv _ h3 z
   exact Je rfl ⟨rfl,.refl _⟩)).eq
 have em:(List.filter (isK q) (ps.map tupS)).map (λ v=>v)=(ps.filter λ a=>decide (a.1=q)).map tupS:=by
  rw[List.map_id',ZeP]
  congr 1
  refine List.filter_congr λ a _=>?_
  show decide (((a.1:Nat):Int)=q)=_
  by_cases z:a.1=q
  ·rw[decide_eq_true z,decide_eq_true (by rw[z])]
  ·rw[decide_eq_false z,decide_eq_false (by omega)]
 rw[em] at e1
 have mem:∀a∈ps,a.1=q->a∈ps.filter λ a=>decide (a.1=q):=λ a ha z=>Za0.mpr ⟨ha,decide_eq_true z⟩
 have sub:∀a∈ps.filter (λ a=>decide (a.1=q)),a∈ps:=λ a ha=>(Za0.mp ha).1
 have sm:((ps.filter λ a=>decide (a.1=q)).map λ a=>a.2.2-a.2.1).sum=sumP q ps:=by
  clear e1 em mem sub gP pc l24
  induction ps with
  | nil=>rfl
  | cons a ps ih =>
   rw[Qr]
   by_cases z:a.1=q
   ·rw[Ze5 (p:=λ a:St3=>decide (a.1=q)) (decide_eq_true z),Z7,Zaw,ih,if_pos z]
   ·rw[Ze6 (by simpa using z),ih,if_neg z,Zdp]
 have lf:(ps.filter λ a=>decide (a.1=q)).length<=24:=Zaf (Zbu ..) l24
 have x1:Ex h (h++IX.lst ((ps.filter λ a=>decide (a.1=q)).map tupS)::gg):=.cons _ _ _
 have g1:(h++IX.lst ((ps.filter λ a=>decide (a.1=q)).map tupS)::gg)[h.length]?=Za (.lst ((ps.filter λ a=>decide (a.1=q)).map tupS)):=Jz
 refine xfin (xseq (xset (Je e1 ?_)))
 generalize ps.filter (λ a=>decide (a.1=q))=fs at x1 g1 mem sub sm lf
 generalize h++IX.lst (fs.map tupS)::gg=h1 at x1 g1
 generalize h.length=M1 at g1
 -- Jz the choice
 suffices go:∀(h2:IH)(M:Nat)(ms:List St3),Ex h1 h2->h2[M]?=Za (.lst (ms.map tupS))->ms≠[]->ms.length<=24->(∀a∈ms,4*U<=a.2.1/\a.2.1<=28*U/\a.2.2<=28*U)->(ms.map λ a=>a.2.2-a.2.1).sum=sumP q ps->(∀a∈ps,a.1=q->a∈ms)->WS (Jc6 (k+1) [Za (.ref P),Za (.int (q:Int)),Za (.int cell),Za (.int U),Za (.ref M),Zd,Zd,Zd,Zd,Zd,Zd,Zd] h2) (λ _ _=>False) λ v h'=>(∃g,v=tupG g/\GOk U ps q g)/\Ex h h' by
  have x2:Ex h1 (h1++[.lst []]):=.one _ _
  refine xseq (xif (Je (tofE ((binE rfl (lstE rfl rfl)).trans (nilX (x2.get g1) grown (J3m fs)))) ⟨λ z=>?_,λ z=>?_⟩))
  ·have fz:fs=[]:=by
    cases fs with
    | nil=>rfl
    | cons a l=>cases z
   subst fz
   refine xset (Je (lstE (arg1 (tupE (arg3 rfl (mulE rfl rfl (.inl (by decide))) (mulE rfl rfl (.inl (by decide)))) rfl)) rfl) ?_)
   refine WS.mono (go _ _ [(q,4*U,4*U)] (x2.trans (.one _ _)) grown (by simp) (by simp) (λ a ha=>?_) ?_ λ a ha z=>by cases mem a ha z) (λ _ _ z=>z.elim) λ _ _ z=>z
   ·rw[Z5.mp ha]
    exact⟨Zap _,by show 4*U<=28*U;omega,by show 4*U<=28*U;omega⟩
   ·rw[<- sm]
    show 4*U-4*U+0=0
    omega
  ·refine xnil (WS.mono (go _ _ fs x2 (x2.get g1) (λ e=>by rw[e] at z;cases z) lf (λ a ha=>?_) sm mem) (λ _ _ z=>z.elim) λ _ _ z=>z)
   have:=pc.lt a (sub a ha)
   exact⟨this.2.1,by omega,this.2.2.2⟩
 intro h2 M ms x2 gM ne lm bd sm mem
 have x02:=x1.trans x2
 obtain⟨g3,e3⟩:=cmp3 (h:=h2) (e:=Ja 4) (e':=Jb3 (k+1)) (σ:=[Za (.ref P),Za (.int (q:Int)),Za (.int cell),Za (.int U),Za (.ref M),Zd,Zd,Zd,Zd,Zd,Zd,Zd]) (f:=λ a=>a.2.1) rfl gM (by omega) λ a _ h2=>rfl
 have ne1:ms.map (λ a=>a.2.1)≠[]:=by simpa using ne
 obtain⟨F,eF,f1,f2,f3⟩:∃F,JL (λ i=>(ms.map λ a=>a.2.1).getD i 0) (ms.map λ a=>a.2.1).length=F/\(∀a∈ms,F<=a.2.1)/\4*U<=F/\F<=28*U:=by
  refine⟨_,rfl,λ a ha=>?_,?_⟩
  ·obtain⟨i,hi,rfl⟩:=ZF.mp ha
   have:=Jpy (λ i=>(ms.map λ a=>a.2.1).getD i 0) (ms.map λ a=>a.2.1).length i (by simpa using hi)
   simpa [Zg,hi] using this
  ·obtain⟨j,hj,e⟩:=Jll (λ i=>(ms.map λ a=>a.2.1).getD i 0) (ms.map λ a=>a.2.1).length (ZcE.mpr ne1)
   have hj':j<ms.length:=by simpa using hj
   have:=bd _ (ZB hj')
   rw[e]
   simp only[Zg,Zy,Zb hj',ZcN,Zbz]
   omega
 refine xseq (xset (Je ((cbE (arg1 e3)).trans (Jq (by rw[Vg,Jsv Jz ne1,eF];exact⟨rfl,rfl⟩))) ?_))
 have x3:Ex h2 (h2++IX.lst ((ms.map λ a=>a.2.1).map .int)::g3):=.cons _ _ _
 generalize h2++IX.lst ((ms.map λ a=>a.2.1).map IV.int)::g3=h3 at x3
 obtain⟨g4,e4⟩:=cmp3 (h:=h3) (e:=Ja 4) (e':=Jb4 (k+1)) (σ:=[Za (.ref P),Za (.int (q:Int)),Za (.int cell),Za (.int U),Za (.ref M),Za (.int F),Zd,Zd,Zd,Zd,Zd,Zd]) (f:=λ a=>a.2.2) rfl (x3.get gM) (by omega) λ a _ h2=>rfl
 have ne2:ms.map (λ a=>a.2.2)≠[]:=by simpa using ne
 obtain⟨Z,eZ,z1,z2⟩:∃Z,JG (λ i=>(ms.map λ a=>a.2.2).getD i 0) (ms.map λ a=>a.2.2).length=Z/\(∀a∈ms,a.2.2<=Z)/\Z<=28*U:=by
  refine⟨_,rfl,λ a ha=>?_,?_⟩
  ·obtain⟨i,hi,rfl⟩:=ZF.mp ha
   have:=Ju6 (λ i=>(ms.map λ a=>a.2.2).getD i 0) (ms.map λ a=>a.2.2).length i (by simpa using hi)
   simpa [Zg,hi] using this
  ·refine Jnk _ _ _ (ZcE.mpr ne2) λ j hj=>?_
   have hj':j<ms.length:=by simpa using hj
   have:=bd _ (ZB hj')
   simp only[Zg,Zy,Zb hj',ZcN,Zbz]
   omega
 refine xseq (xset (Je ((cbE (arg1 e4)).trans (Jq (by rw[Vg,Jmh Jz ne2,eZ];exact⟨rfl,rfl⟩))) ?_))
 have x4:Ex h3 (h3++IX.lst ((ms.map λ a=>a.2.2).map .int)::g4):=.cons _ _ _
 generalize h3++IX.lst ((ms.map λ a=>a.2.2).map IV.int)::g4=h4 at x4
 obtain⟨g5,e5⟩:=cmp3 (h:=h4) (e:=Ja 4) (e':=Jb5 (k+1)) (σ:=[Za (.ref P),Za (.int (q:Int)),Za (.int cell),Za (.int U),Za (.ref M),Za (.int F),Za (.int Z),Zd,Zd,Zd,Zd,Zd]) (f:=λ a=>a.2.2-a.2.1) rfl (x4.get (x3.get gM)) (by omega) λ a _ h2=>subE rfl rfl
 refine xseq (xset (Je ((cbE (arg1 e5)).trans (Jq (by rw[Vg,Jsx];exact⟨_,Jz,_,QX _,by rw[sm],rfl⟩))) ?_))
 have x5:Ex h4 (h4++IX.lst ((ms.map λ a=>a.2.2-a.2.1).map .int)::g5):=.cons _ _ _
 generalize h4++IX.lst ((ms.map λ a=>a.2.2-a.2.1).map IV.int)::g5=h5 at x5
 obtain⟨_,h6,e6,i,xs,rfl,_,hi,lx,_,x6⟩:=(Jsf (k:=k) (h:=h5) cell 5 (by decide)).eq
 have at_:∀n:Nat,n<5->∃x,atI (xs.map IV.int) (n:Int)=Za (.int x):=λ n hn=>⟨xs[n],JQ (by rw[Zy,Zb (by omega)];rfl)⟩
 obtain⟨y0,e0⟩:=at_ 0 (by decide)
 obtain⟨y1,e1⟩:=at_ 1 (by decide)
 obtain⟨y2,e2⟩:=at_ 2 (by decide)
 obtain⟨y3,ey3⟩:=at_ 3 (by decide)
 obtain⟨y4,ey4⟩:=at_ 4 (by decide)
 refine xseq (xset (Je (Qd (arg2 rfl rfl) e6) ?_))
 have a1:=Zbq y0 (b:=1+U) (by omega)
 have a2:=ZaM y0 (b:=1+U) (by omega)
 obtain⟨L,hL,eL⟩:=pk (n:=2) (y:=y1) [0,y0%(1+U)] rfl (by decide)
 have hL:0<=L/\L<=U:=by simp only[Z2,ZL,or_false] at hL;omega
 refine xseq (xset (Je (pkE (arg2 rfl (modE (ixlE rfl rfl hi e0) (addE rfl rfl) (by omega))) rfl (modE (ixlE rfl rfl (grow hi) e1) rfl (by decide)) eL) ?_))
 have x7:Ex h6 (h6++[IX.lst [IV.int 0,IV.int (y0%(1+U))]]):=.one _ _
 generalize h6++[IX.lst [IV.int 0,IV.int (y0%(1+U))]]=h7 at x7
 have hi7:=x7.get hi
 have b1:=Zbq y2 (b:=1+U) (by omega)
 have b2:=ZaM y2 (b:=1+U) (by omega)
 obtain⟨C,hC,eC'⟩:=pk (n:=2) (y:=y1/2) [0,y2%(1+U)] rfl (by decide)
 have hC:0<=C/\C<=U:=by simp only[Z2,ZL,or_false] at hC;omega
 refine xseq (xset (Je (subE (subE rfl rfl) (pkE (arg2 rfl (modE (ixlE rfl rfl hi7 e2) (addE rfl rfl) (by omega))) rfl (modE (QW (ixlE rfl rfl (grow hi7) e1) rfl (by decide) (by decide)) rfl (by decide)) eC')) ?_))
 have x8:Ex h7 (h7++[IX.lst [IV.int 0,IV.int (y2%(1+U))]]):=.one _ _
 generalize h7++[IX.lst [IV.int 0,IV.int (y2%(1+U))]]=h8 at x8
 have hi8:=x8.get hi7
 have d1:=Zbq y3 (b:=1+2*U) (by omega)
 have d2:=ZaM y3 (b:=1+2*U) (by omega)
 obtain⟨Y,hY,eY⟩:=pk (n:=2) (y:=y4) [0,y3%(1+2*U)] rfl (by decide)
 have hY:0<=Y/\Y<=2*U:=by simp only[Z2,ZL,or_false] at hY;omega
 refine xseq (xset (Je (addE (subE rfl rfl) (pkE (arg2 rfl (modE (ixlE rfl rfl hi8 ey3) (addE rfl (mulE rfl rfl (.inl (by decide)))) (by omega))) rfl (modE (ixlE rfl rfl (grow hi8) ey4) rfl (by decide)) eY)) ?_))
 refine xret (Je (tupE (arg4 rfl rfl rfl (maxE rfl rfl)) rfl) ⟨⟨⟨F-L-C,L,sumP q ps,if Z-(F-L-C)+Y>1 then Z-(F-L-C)+Y else 1⟩,rfl,⟨?_,hL.1,hL.2,?_,?_,rfl,λ a ha z=>?_⟩⟩,(((x02.trans x3).trans (x4.trans x5)).trans (x6.trans x7)).trans (x8.trans (.one _ _))⟩)
 ·show 2*U<=F-L-C
  omega
 ·show 1<=if Z-(F-L-C)+Y>1 then Z-(F-L-C)+Y else 1
  split<;>omega
 ·show F-L-C+(if Z-(F-L-C)+Y>1 then Z-(F-L-C)+Y else 1)<=31*U
  split<;>omega
 ·have h1:=f1 a (mem a ha z)
  have h2:=z1 a (mem a ha z)
  show F-L-C+L<=a.2.1/\a.2.2<=F-L-C+(if Z-(F-L-C)+Y>1 then Z-(F-L-C)+Y else 1)
  refine⟨by omega,?_⟩
  split<;>omega
end
end
section
seal L4.run L4.WS
noncomputable def stG (v:IV):ISt:=match v with
 | .tup [a,b,c,d]=>[Za a,Za b,Za c,Za d]
 | _=>[]
def fG (v:IV):IV:=match v with
 | .tup [.int a,_,_,.int d]=>.int (a+d)
 | _=>.non
theorem AllH.snoc (w:AllH h vs rs)(x:h[j]?=Za (wo r)):AllH h (vs++[.ref j]) (rs++[r]):=by
 have wl:=w.len
 refine⟨by simp[wl],λ i u e a b=>?_⟩
 by_cases hi:i<vs.length
 ·rw[ZH hi] at a
  rw[ZH (by omega)] at b
  exact w.at_ i u e a b
 ·have li:=(Zt.mp a).1
  rw[Z1,ZaI] at li
  obtain rfl:i=vs.length:=by omega
  rw[ZA (Zr _),Zdo] at a
  rw[wl,ZA (Zr _),Zdo] at b
  cases a
  cases b
  exact⟨j,rfl,x⟩
section
variable {k:Nat}{h:IH}
theorem at_g {gs:List Cg}(hn:n<gs.length):atI (gs.map tupG) (n:Int)=Za (tupG gs[n]):=JQ (by rw[Zy,Zb hn];rfl)
theorem Jvb {cell U:Int}{gs:List Cg}(hU:1<=U)(gG:h[G]?=Za (.lst (gs.map tupG)))(ne:gs≠[])(l5:gs.length<=5)(ok:∀(k:Nat) g,gs[k]?=Za g->GOk U ps k g) :
  WR (Jdg (k+6) [.ref G,.int cell] h) λ v h'=>∃W vs rs T,v=.ref W/\h'[W]?=Za (.lst vs)/\AllH h' vs rs/\Wk gs T (1+cell%8) rs/\(∀g∈gs,g.come+g.due<=T)/\T<=31*U/\Ex h h':=by
 have hb:=J9
 have all:∀g∈gs,2*U<=g.come/\1<=g.due/\g.come+g.due<=31*U:=λ g hg=>by
  obtain⟨i,hi,rfl⟩:=ZF.mp hg
  have:=ok i _ (Zb hi)
  exact⟨this.c0,this.d1,this.up⟩
 rw[Jkk]
 obtain⟨_,_,e1,rfl,gg,rfl⟩:=(Jjl (it:=Ju (Ja 0)) (g:=gTp 4 (gC (gNm 0) (gC (gNm 1) (gC (gNm 2) (gC (gNm 3) gN))))) (t:=J7) (e:=Jci (k+5)) (js:=[]) (σ:=[Za (.ref G),Za (.int cell),Zd,Zd,Zd,Zd,Zd,Zd,Zd,Zd,Zd]) (h0:=h) (h:=h) (xs:=gs.map tupG) (chk:=λ h'=>h'[G]?=Za (.lst (gs.map tupG))) (n:=4) (st:=stG) (p:=λ _=>Zj) (f:=fG)
  (by rw[Qy];exact Je rfl ((Qb _).mpr ⟨_,gG,rfl,rfl,rfl⟩)) (by rw[Zn];omega) (λ h3 z=>z _ _ gG) (by
   intro x hx ls h3 l2
   obtain⟨a,_,rfl⟩:=ZD.mp hx
   match ls,l2 with
   | [a,b,c,d],_=>exact⟨rfl,rfl⟩) (λ x hx h3 q=>⟨rfl,.refl _⟩) (by
   intro x hx _ h3 q
   obtain⟨a,ha,rfl⟩:=ZD.mp hx
   exact Je (addE rfl rfl) ⟨rfl,.refl _⟩)).eq
 have em:((gs.map tupG).filter λ _=>Zj).map fG=(gs.map λ g=>g.come+g.due).map .int:=by
  rw[ZdE.mpr λ _ _=>rfl,Zak,Zak]
  rfl
 rw[em] at e1
 have ne1:gs.map (λ g=>g.come+g.due)≠[]:=by simpa using ne
 obtain⟨T,eT,t1,t2⟩:∃T,JG (λ i=>(gs.map λ g=>g.come+g.due).getD i 0) (gs.map λ g=>g.come+g.due).length=T/\(∀g∈gs,g.come+g.due<=T)/\T<=31*U:=by
  refine⟨_,rfl,λ g hg=>?_,?_⟩
  ·obtain⟨i,hi,rfl⟩:=ZF.mp hg
   have:=Ju6 (λ i=>(gs.map λ g=>g.come+g.due).getD i 0) (gs.map λ g=>g.come+g.due).length i (by simpa using hi)
   simpa [Zg,hi] using this
  ·refine Jnk _ _ _ (ZcE.mpr ne1) λ j hj=>?_
   have hj':j<gs.length:=by simpa using hj
   have:=all _ (ZB hj')
   simp only[Zg,Zy,Zb hj',ZcN,Zbz]
   omega
 refine xfin (xseq (xset (Je ((cbE (arg1 e1)).trans (Jq (by rw[Vg,Jmh Jz ne1,eT];exact⟨rfl,rfl⟩))) (xseq (xset (Je (lstE rfl rfl) ?_))))))
 have x2:Ex h (h++IX.lst ((gs.map λ g=>g.come+g.due).map .int)::gg++[.lst []]):=(Ex.cons _ _ _).trans (.one _ _)
 have g2:(h++IX.lst ((gs.map λ g=>g.come+g.due).map IV.int)::gg++[IX.lst []])[(h++IX.lst ((gs.map λ g=>g.come+g.due).map IV.int)::gg).length]?=Za (.lst []):=grown
 have lW:h.length<=(h++IX.lst ((gs.map λ g=>g.come+g.due).map IV.int)::gg).length:=by rw[Z1];omega
 generalize (h++IX.lst ((gs.map λ g=>g.come+g.due).map IV.int)::gg).length=W at g2 lW
 generalize h++IX.lst ((gs.map λ g=>g.come+g.due).map IV.int)::gg++[IX.lst []]=h2 at x2 g2
 refine xseq (xrng (lenE rfl (x2.get gG)) (by rw[Zn];omega) ?_)
 refine QG (λ n σ h'=>(∃a4 a5 a6 a7 a8 a9 a10,σ=[Za (.ref G),Za (.int cell),Za (.int T),Za (.ref W),a4,a5,a6,a7,a8,a9,a10])/\∃vs rs,h'[W]?=Za (.lst vs)/\AllH h' vs rs/\Wk (gs.take n) T (1+cell%8) rs/\Ex h h') (λ _ _ _ _=>trivial) ?_ ?_ ⟨⟨_,_,_,_,_,_,_,rfl⟩,[],[],g2,⟨rfl,λ i v r a=>by cases a⟩,⟨rfl,λ k g r a=>by cases a⟩,x2⟩
 ·rintro n hn _ h3 ⟨⟨a4,a5,a6,a7,a8,a9,a10,rfl⟩,vs,rs,gW,wA,wk,x3⟩
  have hn:n<gs.length:=by simpa [rngI] using hn
  rw[Vu,show(0:Int)+(n:Int)=n by omega]
  have ag:=at_g hn
  have og:=ok n _ (Zb hn)
  have tg:=t1 _ (ZB hn)
  have tk:gs.take (n+1)=gs.take n++[gs[n]]:=ZbR hn
  rw[tk]
  generalize gs[n]=g at ag og tg
  have lw:(gs.take n).length=n:=by rw[Zc3];omega
  have lv:vs.length=n:=by rw[wA.len,wk.len,lw]
  have s1:=og.c0
  have s2:=og.l0
  have s3:=og.d1
  have m0:0<=cell/(3+(n:Int))%5/\cell/(3+(n:Int))%5<=4:=by omega
  have p0:0<=(cell/7+(n:Int))%3/\(cell/7+(n:Int))%3<=2:=by omega
  refine xnx rfl (xseq ((VD ..).mpr (Je (ixlE rfl rfl (x3.get gG) ag) (xnx rfl (xseq (xset (Je (modE (QW rfl (addE rfl rfl) (by omega) (Jmu (b:=9) (by omega) (by decide))) rfl (by decide)) (xseq (xset (Je (addE rfl (modE (addE (QW rfl rfl (by decide) (by decide)) rfl) rfl (by decide))) ?_))))))))))
  generalize cell/(3+(n:Int))%5=more at m0
  generalize (cell/7+(n:Int))%3=plus at p0
  have en:∀{σ:ISt},σ[4]?=Za (Za (.int (n:Int)))->σ[1]?=Za (Za (.int cell))->Jc JN (Jc Jg (eC (.str "abcde")) (Ja 4)) (Jc Jn (eC (.int 1)) (Jc J2 (Ja 1) (eC (.int 8)))) σ h3=.ok (.str (nmA (1+cell%8) n)) h3:=λ {σ} q1 q2=>by
   have v4:Ja 4 σ h3=.ok (.int (n:Int)) h3:=by unfold Ja;rw[q1]
   have v1:Ja 1 σ h3=.ok (.int cell) h3:=by unfold Ja;rw[q2]
   refine(binE ((binE rfl v4).trans (Jq (by rw[a_at (by omega)];exact⟨rfl,rfl⟩))) (addE rfl (modE v1 rfl (by decide)))).trans (Jq ?_)
   rw[Jzb]
   exact⟨by simp only[MulS,decide_eq_true_eq];exact⟨by show 1<=1000;omega,by omega,by omega⟩,rfl,rfl⟩
  have mk:WR (Q5 "Work" (XL (k+5)) [.non] (Jb (Jc JN (Jc Jg (eC (.str "abcde")) (Ja 4)) (Jc Jn (eC (.int 1)) (Jc J2 (Ja 1) (eC (.int 8))))) (Jb (Ja 10) (Jb (Jc Jn (eCB (on2 maxI) (Jb (eC (.int 1)) (Jb (Ja 7) Jd))) (Ja 9)) (Jb (Ja 8) (Jb (Jc Jn (Ja 6) (Ja 9)) Jd))))) [Za (.ref G),Za (.int cell),Za (.int T),Za (.ref W),Za (.int (n:Int)),Za (.int g.come),Za (.int g.late),Za (.int g.turns),Za (.int g.due),Za (.int more),Za (.int (T+plus))] h3) λ v h'=>v=.ref h3.length/\∃gg,h'=h3++.ins "Work" (wfs (nmA (1+cell%8) n) (T+plus) ((if g.turns>1 then g.turns else 1)+more) g.due (g.late+more) [])::gg:=by
   rw[VC]
   refine Je (argC (en rfl rfl) (argC rfl (argC (addE (maxE rfl rfl) rfl) (argC rfl (arg1 (addE rfl rfl)))))) ?_
   refine WR.mono (Jxy (k:=k) (hs:=[]) (Jwc (by omega) (by omega) (by omega)) (by omega) (by split<;>omega) (by omega) (λ h1=>Jo3 s3 (by omega)) λ h1 z=>Je (Jiv _) ⟨rfl,.refl _⟩) ?_
   rintro _ h4 ⟨rfl,gg,rfl⟩
   exact⟨rfl,rfl,gg,rfl⟩
  obtain⟨_,_,e4,rfl,gg,rfl⟩:=mk.eq
  have x4:Ex h3 (h3++.ins "Work" (wfs (nmA (1+cell%8) n) (T+plus) ((if g.turns>1 then g.turns else 1)+more) g.due (g.late+more) [])::gg):=.cons _ _ _
  have gw:(h3++IX.ins "Work" (wfs (nmA (1+cell%8) n) (T+plus) ((if g.turns>1 then g.turns else 1)+more) g.due (g.late+more) [])::gg)[h3.length]?=Za (wo ⟨⟨nmA (1+cell%8) n,T+plus,(if g.turns>1 then g.turns else 1)+more,g.due,g.late+more⟩,[]⟩):=Jz
  have lWh:=J8 gW
  refine QH (Vh rfl gW VN (Je (arg1 e4) (xapp (x4.get gW) (by omega) ⟨⟨_,_,_,_,_,_,_,rfl⟩,vs++[.ref h3.length],rs++[⟨⟨nmA (1+cell%8) n,T+plus,(if g.turns>1 then g.turns else 1)+more,g.due,g.late+more⟩,[]⟩],?_,?_,?_,?_⟩)))
  ·exact ZZ (J8 (x4.get gW))
  ·refine AllH.snoc ⟨wA.len,λ i u y a b=>?_⟩ ?_
   ·obtain⟨j,e,g⟩:=wA.at_ i u y a b
    refine⟨j,e,?_⟩
    rw[Zad λ z=>by rw[z,g] at gW;cases gW]
    exact x4.get g
   ·rw[Zad (by omega)]
    exact gw
  ·refine⟨by rw[Z1,Z1,wk.len];rfl,λ i g' r' a b=>?_⟩
   by_cases li:i<n
   ·rw[ZH (by omega)] at a
    rw[ZH (by rw[wk.len];omega)] at b
    exact wk.ok i g' r' a b
   ·have l1:=(Zt.mp a).1
    rw[Z1,ZaI,lw] at l1
    obtain rfl:i=n:=by omega
    rw[ZA (by omega),lw,Zdo] at a
    rw[ZA (by rw[wk.len];omega),wk.len,lw,Zdo] at b
    cases a
    cases b
    refine⟨rfl,rfl,?_,?_,?_,?_,?_,?_,rfl⟩
    ·show g.late<=g.late+more;omega
    ·show g.late+more<=g.late+4;omega
    ·show g.turns<=(if g.turns>1 then g.turns else 1)+more
     split<;>omega
    ·show 1<=(if g.turns>1 then g.turns else 1)+more
     split<;>omega
    ·show T<=T+plus;omega
    ·show T+plus<=T+2;omega
  ·exact QV (x3.trans x4) lW
 ·rintro _ h3 ⟨⟨a4,a5,a6,a7,a8,a9,a10,rfl⟩,vs,rs,gW,wA,wk,x3⟩
  have e:(rngI 0 ((gs.map tupG).length:Int)).length=gs.length:=by simp[rngI]
  rw[e,Ze3] at wk
  exact xret (Je rfl ⟨W,vs,rs,T,rfl,gW,wA,wk,t1,t2,x3⟩)
def gapF (h:IH)(v:IV):IV:=match v with
 | .ref j=>(match h[j]? with
  | some (.ins _ fs)=>(fs.lookup ("gap":Str)).getD .non
  | _=>.non)
 | _=>.non
theorem J07 {G W again:Nat}{gs:List Cg}{vs:List IV}{rs:List RH}{T n:Int}(gG:h[G]?=Za (.lst (gs.map tupG)))(gW:h[W]?=Za (.lst vs))(wA:AllH h vs rs)(wk:Wk gs T n rs)(ne:gs≠[])(l5:gs.length<=5)(a2:again<=2) :
  WR (Jf8 (k+1) [.ref G,.ref W,.int (again:Int)] h) λ v h'=>∃R most,v=.ref R/\h'[R]?=Za (.lst ((rowL gs most again gs.length).map tupC))/\(∀r∈rs,r.1.gap<=most)/\Ex h h':=by
 have hb:=J9
 have wl:=wA.len
 have kl:=wk.len
 rw[Jon]
 obtain⟨_,_,e1,rfl,gg,rfl⟩:=(QQ (it:=Ju (Ja 1)) (e:=Jd7 k) (js:=[]) (σ:=[Za (.ref G),Za (.ref W),Za (.int (again:Int)),Zd,Zd,Zd,Zd,Zd,Zd,Zd,Zd]) (h0:=h) (h:=h) (xs:=vs) (chk:=λ h'=>h'[W]?=Za (.lst vs)) (f:=gapF h)
  (by rw[Qy];exact Je rfl ((Qb _).mpr ⟨_,gW,rfl,rfl,rfl⟩)) (by omega) (λ h3 z=>z _ _ gW) (by
   intro v hv h3 q
   obtain⟨i,hi,rfl⟩:=ZF.mp hv
   obtain⟨j,ej,gj⟩:=wA.at_ i _ _ (Zb hi) (Zb (show i<rs.length by omega))
   rw[ej]
   refine Je (fldE rfl (q _ _ gj) fl1) ⟨?_,.refl _⟩
   unfold gapF
   simp only[gj,fl1,Zbz])).eq
 have em:vs.map (gapF h)=(rs.map λ r=>r.1.gap).map .int:=by
  refine Zbx (by simp[wl]) λ i h1 h2=>?_
  rw[Zn] at h1
  obtain⟨j,ej,gj⟩:=wA.at_ i _ _ (Zb h1) (Zb (show i<rs.length by omega))
  rw[Zam,ej,Zam,Zam]
  unfold gapF
  simp only[gj,fl1,Zbz]
 rw[em] at e1
 have lg:0<gs.length:=ZcE.mpr ne
 have ne1:rs.map (λ r=>r.1.gap)≠[]:=λ z=>by rw[List.map_eq_nil_iff.mp z,Zbm] at kl;omega
 obtain⟨M,eM,t1⟩:∃M,JG (λ i=>(rs.map λ r=>r.1.gap).getD i 0) (rs.map λ r=>r.1.gap).length=M/\∀r∈rs,r.1.gap<=M:=by
  refine⟨_,rfl,λ r hr=>?_⟩
  obtain⟨i,hi,rfl⟩:=ZF.mp hr
  have:=Ju6 (λ i=>(rs.map λ r=>r.1.gap).getD i 0) (rs.map λ r=>r.1.gap).length i (by simpa using hi)
  simpa [Zg,hi] using this
 refine xfin (xseq (xset (Je ((cbE (arg1 e1)).trans (Jq (by rw[Vg,Jmh Jz ne1,eM];exact⟨rfl,rfl⟩))) (xseq (xset (Je (lstE rfl rfl) ?_))))))
 have x1:Ex h (h++IX.lst ((rs.map λ r=>r.1.gap).map .int)::gg):=.cons _ _ _
 generalize h++IX.lst ((rs.map λ r=>r.1.gap).map IV.int)::gg=h1 at x1
 have gG1:=x1.get gG
 refine xseq (xrng (lenE rfl (grow gG1)) (by rw[Zn];omega) ?_)
 have lrow:∀n,n<=5->(rowL gs M again n).length<=3*n:=λ n _=>by
  unfold rowL
  induction n with
  | zero=>exact Zr _
  | succ n ih =>
   have ih:=ih (by omega)
   rw[ZcO,ZdF,Zdq,Z1]
   have:(rowK gs M again n).length<=3:=by
    unfold rowK
    split
    ·rw[Zn,ZaX];omega
    ·exact ZK _
   omega
 refine QG (λ n σ h'=>(∃a5 a6 a7 a8 a9 a10,σ=[Za (.ref G),Za (.ref W),Za (.int (again:Int)),Za (.int M),Za (.ref h1.length),a5,a6,a7,a8,a9,a10])/\h'=h1++[.lst ((rowL gs M again n).map tupC)]) (λ _ _ _ _=>trivial) ?_ ?_ ⟨⟨_,_,_,_,_,_,rfl⟩,rfl⟩
 ·rintro n hn _ _ ⟨⟨a5,a6,a7,a8,a9,a10,rfl⟩,rfl⟩
  have hn:n<gs.length:=by simpa [rngI] using hn
  rw[Vu,show(0:Int)+(n:Int)=n by omega]
  have ag:=at_g hn
  have eg:gs.getD n gz=gs[n]:=by rw[Zg,Zb hn];rfl
  have l3:=lrow n (by omega)
  have es:rowL gs M again (n+1)=rowL gs M again n++rowK gs M again n:=by unfold rowL;rw[ZcO,ZdF,Zdq]
  rw[es]
  unfold rowK cmT
  rw[eg]
  generalize gs[n]=g at ag
  generalize rowL gs M again n=cs0 at l3
  refine xnx rfl (xseq ((VD ..).mpr (Je (ixlE rfl rfl (grow gG1) ag) (xnx rfl (xrng (n:=1+again) (okc (addE rfl rfl) (by rw[ZeO];rfl)) (by omega) ?_)))))
  refine QG (λ t σ h'=>(∃a10,σ=[Za (.ref G),Za (.ref W),Za (.int (again:Int)),Za (.int M),Za (.ref h1.length),Za (.int (n:Int)),Za (.int g.come),Za (.int g.late),Za (.int g.turns),Za (.int g.due),a10])/\h'=h1++[.lst ((cs0++if 0<g.turns then(Z9 t).map (λ (t:Nat)=>(⟨n,g.come+(t:Int)*M,g.late,g.turns⟩:Cm)) else[]).map tupC)]) (λ _ _ _ _=>trivial) ?_ ?_ ⟨⟨_,rfl⟩,by congr 3;split<;>simp⟩
  ·rintro t ht _ _ ⟨⟨a10,rfl⟩,rfl⟩
   rw[Vu,show(0:Int)+(t:Int)=t by omega]
   rw[Qw] at ht
   refine xnx rfl (xifd (gtE rfl rfl) (λ l=>?_) λ l=>?_)
   ·have l':0<g.turns:=l
    have er:cs0++(Z9 (t+1)).map (λ (t:Nat)=>(⟨n,g.come+(t:Int)*M,g.late,g.turns⟩:Cm))=cs0++(Z9 t).map (λ (t:Nat)=>(⟨n,g.come+(t:Int)*M,g.late,g.turns⟩:Cm))++[⟨n,g.come+(t:Int)*M,g.late,g.turns⟩]:=by
     rw[ZcO,ZbC,Zag]
     rfl
    have lc:(cs0++(Z9 t).map (λ (t:Nat)=>(⟨n,g.come+(t:Int)*M,g.late,g.turns⟩:Cm))).length<=1000:=by
     rw[Z1,Zn,ZaX]
     omega
    rw[if_pos l',if_pos l',er]
    generalize cs0++(Z9 t).map (λ (t:Nat)=>(⟨n,g.come+(t:Int)*M,g.late,g.turns⟩:Cm))=cs1 at lc
    refine QH (Vh rfl grown VN (Je (arg1 (tupE (arg4 rfl (addE rfl (mulE rfl rfl (.inl (by omega)))) rfl rfl) rfl)) (xapp grown (by rw[Zn];omega) ⟨⟨_,rfl⟩,?_⟩)))
    rw[XB,ZbC]
    rfl
   ·have l':¬0<g.turns:=l
    rw[if_neg l',if_neg l']
    exact xnil ⟨⟨_,rfl⟩,rfl⟩
  ·rintro _ _ ⟨⟨a10,rfl⟩,rfl⟩
   rw[Qw]
   exact⟨⟨_,_,_,_,_,_,rfl⟩,rfl⟩
 ·rintro _ _ ⟨⟨a5,a6,a7,a8,a9,a10,rfl⟩,rfl⟩
  have e:(rngI 0 ((gs.map tupG).length:Int)).length=gs.length:=by simp[rngI]
  rw[e]
  exact xret (Je rfl ⟨_,M,rfl,grown,t1,x1.trans (.one _ _)⟩)
end
end
section
seal L4.run L4.WS
def Far (rs:List RH)(a b:Cm):Prop:=a.at_=b.at_->∀r,rs[a.at_]?=Za r->a.come+r.1.gap<=b.come
theorem Jmt (ok:∀c∈cs,COk rs c)(pw:cs.Pairwise (Far rs)):Legal rs cs:=⟨ok,λ i j a b ij ea eb=>by
 obtain⟨hi,rfl⟩:=Zt.mp ea
 obtain⟨hj,rfl⟩:=Zt.mp eb
 exact ZcA.mp pw i j hi hj ij⟩
section
variable {U T most n:Int}{again:Nat}{ps:List St3}{gs:List Cg}{rs:List RH}
theorem Jry (hc:c∈rowL gs most again gs.length):∃k t,k<gs.length/\t<1+again/\0<(gs.getD k gz).turns/\c=cmT gs most k t:=by
 obtain⟨k,hk,hc⟩:=List.mem_flatMap.mp hc
 unfold rowK at hc
 split at hc
 ·rename_i z
  obtain⟨t,ht,rfl⟩:=ZD.mp hc
  exact⟨k,t,ZR.mp hk,ZR.mp ht,z,rfl⟩
 ·cases hc
theorem Jrx (hU:1<=U)(ok:∀(k:Nat) g,gs[k]?=Za g->GOk U ps k g)(wk:Wk gs T n rs)(up:∀r∈rs,r.1.gap<=most)(m0:0<=most):(∀c∈rowL gs most again gs.length,COk rs c)/\(rowL gs most again gs.length).Pairwise (Far rs):=by
 have eg:∀k,k<gs.length->gs[k]?=Za (gs.getD k gz):=λ k lk=>by rw[Zg,Zb lk];rfl
 refine⟨λ c hc=>?_,ZeZ.mpr ⟨λ k hk=>?_,List.pairwise_lt_range.imp λ {k1 k2} lt x hx y hy e=>?_⟩⟩
 ·obtain⟨k,t,lk,lt,z,rfl⟩:=Jry hc
  have lr:k<rs.length:=by rw[wk.len];exact lk
  have g:=ok k _ (eg k lk)
  have w:=wk.ok k _ _ (eg k lk) (Zb lr)
  have c0:=g.c0
  have:0<=(t:Int)*most:=Int.mul_nonneg (by omega) m0
  exact⟨lr,by show 0<=(gs.getD k gz).come+(t:Int)*most;omega,g.l0,w.2.2.1,z,w.2.2.2.2.1⟩
 ·unfold rowK
  split
  ·refine ZbP.mpr (List.pairwise_lt_range.imp λ {t1 t2} lt _ r er=>?_)
   have:=up r (ZbK er)
   show(gs.getD k gz).come+(t1:Int)*most+r.1.gap<=(gs.getD k gz).come+(t2:Int)*most
   have:((t1:Int)+1)*most<=(t2:Int)*most:=Zcg (by omega) m0
   rw[Zd8,Int.one_mul] at this
   omega
  ·exact .nil
 ·have at_:∀{k:Nat}{c:Cm},c∈rowK gs most again k->c.at_=k:=λ {k c} h=>by
   unfold rowK at h
   split at h
   ·obtain⟨t,_,rfl⟩:=ZD.mp h
    rfl
   ·cases h
  rw[at_ hx,at_ hy] at e
  omega
theorem good (hU:1<=U)(hU2:U<=10^40)(n1:1<=n/\n<=8)(ok:∀(k:Nat) g,gs[k]?=Za g->GOk U ps k g)(ne:gs≠[])(l5:gs.length<=5)(wk:Wk gs T n rs)(t1:∀g∈gs,g.come+g.due<=T)(t2:T<=31*U):Gd T rs:=by
 have wl:=wk.len
 have pos:2*U+1<=T:=by
  obtain⟨g,hg⟩:=ZcB _ ne
  obtain⟨i,hi,rfl⟩:=ZF.mp hg
  have o:=ok i _ (Zb hi)
  have:=t1 _ hg
  have h1:=o.c0
  have h2:=o.d1
  omega
 have t45:T<=10^45:=by
  have e:(10:Int)^45=100000*10^40:=by decide +kernel
  rw[e]
  generalize (10:Int)^40=y at hU2
  omega
 refine⟨by omega,t45,by omega,λ r hr=>?_,?_⟩
 ·obtain⟨i,hi,rfl⟩:=ZF.mp hr
  have hg:i<gs.length:=by omega
  have o:=ok i _ (Zb hg)
  obtain⟨w1,w2,w3,w4,w5,w6,w7,w8,w9⟩:=wk.ok i _ _ (Zb hg) (Zb hi)
  have tg:=t1 _ (ZB hg)
  have o1:=o.c0
  have o2:=o.l0
  have o3:=o.l1
  have o4:=o.d1
  refine⟨by rw[w9];exact Jwc n1.1 n1.2 (by omega),w7,by omega,w6,by omega,by omega,by omega,by omega,?_⟩
  rw[w1]
  exact⟨by simp,by simp,λ m n hm hn=>absurd hn (by simp)⟩
 ·have e:(rs.map λ r=>r.1.name)=(Z9 rs.length).map (nmA n):=by
   refine Zbx (by simp) λ i h1 h2=>?_
   have hi:i<rs.length:=by simpa using h1
   have hg:i<gs.length:=by omega
   simp only[Zam,ZcU]
   exact(wk.ok i _ _ (Zb hg) (Zb hi)).2.2.2.2.2.2.2.2
  rw[e,List.Nodup,ZbP]
  refine(Zd0 (n:=rs.length)).imp_of_mem λ {a b} ha hb hne z=>hne ?_
  exact Jx3 n1.1 n1.2 (by have:=ZR.mp ha;omega) (by have:=ZR.mp hb;omega) z
theorem free (hU:1<=U)(l5:gs.length<=5)(P:Pc U gs.length ps)(ok:∀(k:Nat) g,gs[k]?=Za g->GOk U ps k g)(wk:Wk gs T n rs)(t1:∀g∈gs,g.come+g.due<=T)(tm:T<=most)(L:Legal rs cs)(pm:cs.Perm (rowL gs most again gs.length)):tfO rs cs=Zd:=by
 have eg:∀k,k<gs.length->gs[k]?=Za (gs.getD k gz):=λ k lk=>by rw[Zg,Zb lk];rfl
 have mx:∀a∈ps,a.2.2<=most:=λ a ha=>by
  have lk:=(P.lt a ha).1
  have h1:=((ok _ _ (eg _ lk)).pc a ha rfl).2
  have h2:=t1 _ (ZbK (eg _ lk))
  omega
 cases t:tfO rs cs with
 | none=>rfl
 | some bu =>
  obtain⟨b,u⟩:=bu
  have f:=Jkd L t
  unfold VS at f
  obtain⟨f1,f2⟩:=Zp .. ▸f
  have f2:=of_decide_eq_true f2
  rw[Je0 pm] at f2
  have nf:cs.filter (inB rs b u)≠[]:=λ z=>by rw[z] at f1;cases f1
  obtain⟨c,hc⟩:=ZcB _ nf
  obtain⟨hc,q⟩:=Za0.mp hc
  obtain⟨q1,q2⟩:=Zp .. ▸q
  have q1:=of_decide_eq_true q1
  have q2:=of_decide_eq_true q2
  obtain⟨k,t',lk,_,z,rfl⟩:=Jry (pm.mem_iff.mp hc)
  have g:=ok k _ (eg k lk)
  have own:∃a∈ps,a.1=k:=by
   have:∀{l:List St3},sumP k l≠0->∃a∈l,a.1=k:=λ {l}=>by
    induction l with
    | nil=>intro h;exact absurd rfl h
    | cons a l ih =>
     intro h
     by_cases z:a.1=k
     ·exact⟨a,Z0,z⟩
     ·rw[Qr,if_neg z,Zdp] at h
      obtain⟨x,hx,e⟩:=ih h
      exact⟨x,Zi _ hx,e⟩
   exact this (by rw[<- g.tn];omega)
  obtain⟨a,ha,ea⟩:=own
  have pa:=g.pc a ha ea
  have la:=P.lt a ha
  have lr:k<rs.length:=by rw[wk.len];exact lk
  have wd:=(wk.ok k _ _ (eg k lk) (Zb lr)).2.1
  have q1:b<=(gs.getD k gz).come+(t':Int)*most+(gs.getD k gz).late:=q1
  have q2:(gs.getD k gz).come+(t':Int)*most+(rs.getD k rd).1.due<=u:=q2
  rw[Xs lr,wd] at q2
  have:=Jui (again:=again) l5 P ok wk (by omega) mx (by have:=mx a ha;omega) (show b<=u by omega)
  omega
end
theorem Jyx {P:Nat->Cg->Prop}:∀{ys:List IV},(∀(i:Nat) y,ys[i]?=Za y->∃g,y=tupG g/\P i g)->∃gs:List Cg,ys=gs.map tupG/\∀(i:Nat) g,gs[i]?=Za g->P i g:=λ {ys}=>by
 induction ys generalizing P with
 | nil=>exact λ _=>⟨[],rfl,λ i g e=>by cases e⟩
 | cons y ys ih =>
  intro h
  obtain⟨g,rfl,pg⟩:=h 0 y rfl
  obtain⟨gs,rfl,q⟩:=ih (P:=λ i=>P (i+1)) λ i y e=>h (i+1) y e
  refine⟨g::gs,rfl,λ i g' e=>?_⟩
  cases i with
  | zero=>cases e;exact pg
  | succ i=>exact q i g' e
def oddV (b:Int)(v:IV):Bool:=match v with
 | .tup (.int x::_)=>decide (x%2=b)
 | _=>Zm
section
variable {k:Nat}{h:IH}
theorem Jqq {cs:List Cm}(gR:h[R]?=Za (.lst (cs.map tupC)))(lc:cs.length<=100)(es:σ[8]?=Za (Za (.ref R)))(ht:∀c h2,t [Za (tupC c)] h2=.ok (decide ((c.at_:Int)%2=b)) h2) :
  ∃gg,Jx (Ju (Ja 8)) 1 [] (gNm 0) t (Ja 0) σ h=.ok (.ref h.length) (h++.lst ((cs.filter λ c=>decide ((c.at_:Int)%2=b)).map tupC)::gg):=by
 have hb:=J9
 obtain⟨_,_,e1,rfl,gg,rfl⟩:=(Jjk (it:=Ju (Ja 8)) (js:=[]) (t:=t) (e:=Ja 0) (σ:=σ) (h0:=h) (h:=h) (xs:=cs.map tupC) (chk:=λ h'=>h'[R]?=Za (.lst (cs.map tupC))) (p:=oddV b) (f:=λ v=>v)
  (by rw[Qy];exact Je (show Ja 8 σ h=.ok (.ref R) h by unfold Ja;rw[es]) ((Qb _).mpr ⟨_,gR,rfl,rfl,rfl⟩)) (by rw[Zn];omega) (λ h3 z=>z _ _ gR) (by
   intro v hv h3 z
   obtain⟨c,_,rfl⟩:=ZD.mp hv
   exact Je (ht c h3) ⟨rfl,.refl _⟩) (by
   intro v hv _ h3 z
   exact Je rfl ⟨rfl,.refl _⟩)).eq
 refine⟨gg,e1.trans ?_⟩
 rw[List.map_id',ZeP]
 rfl
theorem J2j {e:E1}{js:List Nat}(D:IV->IV->IH->Prop)(hit:WR (it σ h0) λ J h1=>J.xs=xs/\J.chk=chk/\h1=h)(hl:xs.length<sizeLine) 
  (mono:∀x y h2 h3,KpB h.length h2 h3->D x y h2->D x y h3)(hc:∀h2:IH,Kp h h2->chk h2)
  (he:∀x∈xs,∀h2:IH,Kp h h2->h.length<h2.length->WR (e (Za x::js.map λ j=>(σ[j]?).join) h2) λ v h3=>Ex h2 h3/\D x v h3) :
  ∃v h3,Jx it 1 js (gNm 0) J7 e σ h0=.ok v h3/\v=.ref h.length/\∃ys,h3[h.length]?=Za (.lst ys)/\ys.length=xs.length/\Kp h h3/\∀(i:Nat) x y,xs[i]?=Za x->ys[i]?=Za y->D x y h3 :=
 (Jvd D hit hl mono hc he).eq
theorem J05 {σ:ISt}{e:E1}{n:Nat}(ee:e σ h=.ok (.int (n:Int)) h)(l:n<1000):WR (iRg JZ (Jb e Jd) σ h) λ J h1=>J.xs=rngI 0 (n:Int)/\J.chk=(λ _=>True)/\h1=h:=by
 rw[Vy]
 refine Je (arg1 ee) ?_
 rw[Xf]
 exact⟨by omega,rfl,rfl,rfl⟩
theorem nilE {ns:List Int}(hi:h[i]?=Za (.lst (ns.map .int)))(hj:h[j]?=Za (.lst []))(e:ns=[]):cEq (.ref i) (.ref j) h=.ok (.bl Zj) h:=by
 subst e
 exact nilX hi hj λ x hx=>by cases hx
theorem Jt2 (ns:List Int)(hl:ns.length<=63):∃h',Xj 16 [.rol (ns.map IV.int)] [.tab "Order.pick",.tab "too_full",.tab "Bench.__init__"]=.ok (.bl Zj) h':=by
 suffices h:WR (Xj 16 [.rol (ns.map IV.int)] [.tab "Order.pick",.tab "too_full",.tab "Bench.__init__"]) λ v _=>v=.bl Zj by
  obtain⟨v,h',e,rfl⟩:=h.eq
  exact⟨h',e⟩
 have hb:=J9
 have t0:([.tab "Order.pick",.tab "too_full",.tab "Bench.__init__"]:IH)[2]?=Za (.tab "Bench.__init__"):=rfl
 have t1:([.tab "Order.pick",.tab "too_full",.tab "Bench.__init__"]:IH)[0]?=Za (.tab "Order.pick"):=rfl
 have t2:([.tab "Order.pick",.tab "too_full",.tab "Bench.__init__"]:IH)[1]?=Za (.tab "too_full"):=rfl
 generalize ([.tab "Order.pick",.tab "too_full",.tab "Bench.__init__"]:IH)=h at t0 t1 t2 ⊢
 rw[Jzs]
 have c0:=λ (h:IH)=>Jp1 (k:=14) (h:=h) ns 0 (by decide)
 have c1:=λ (h:IH)=>Jp1 (k:=14) (h:=h) ns 1 (by decide)
 generalize ns.getD (Zct 0) 0=x0 at c0
 generalize ns.getD (Zct 1) 0=y1 at c1
 obtain⟨V,hV,eV⟩:=pk (n:=3) (y:=x0) [4,10^15,10^40] rfl (by decide)
 have hV:0<V/\V<=10^40:=by
  simp only[Z2,ZL,or_false] at hV
  rcases hV with rfl|rfl|rfl<;>decide +kernel
 have u0:=Zbq (x0/3) (b:=V) (by omega)
 have u1:=ZaM (x0/3) hV.1
 have E:∀{σ:ISt}{hh:IH},Jb (eC (.int 4)) (Jb (Jc JF (eC (.int 10)) (eC (.int 15))) (Jb (Jc JF (eC (.int 10)) (eC (.int 40))) Jd)) σ hh=.ok [IV.int 4,IV.int (10^15),IV.int (10^40)] hh:=λ {σ hh}=>arg3 rfl (e15 σ hh) (e40 σ hh)
 refine xfin (xseq (xset (Je (Qd (arg2 rfl rfl) (c0 _)) (xseq (xset (Je (Qd (arg2 rfl rfl) (c1 _)) (xseq (xset ?_))))))))
 refine Je (addE rfl (modE (QW rfl rfl (by decide) (by decide)) (pkE E rfl (modE rfl rfl (by decide)) eV) hV.1)) ?_
 have xA:Ex h (h++[IX.lst [IV.int 4,IV.int (10^15),IV.int (10^40)]]):=.one _ _
 generalize h++[IX.lst [IV.int 4,IV.int (10^15),IV.int (10^40)]]=hA at xA
 have hx:x0/3%V<10^40:=Int.lt_of_lt_of_le u1 hV.2
 generalize hu:1+x0/3%V=U
 have hU:1<=U:=by omega
 have hU2:U<=10^40:=by
  clear eV hV
  generalize (10:Int)^40=y at hx
  omega
 obtain⟨m,em,m1,m5⟩:∃m:Nat,1+y1%5=(m:Int)/\1<=m/\m<=5:=⟨(1+y1%5).toNat,by omega,by omega,by omega⟩
 refine xseq (xset (Je (okc (addE rfl (modE rfl rfl (by decide))) (congrArg IV.int em)) (xseq (xset (xb (Je (arg3 rfl rfl rfl) (WR.mono (Jrr (k:=14) (ns:=ns) (m:=m) hU) ?_)))))))
 rintro _ h1 ⟨P,ps,rfl,gP,pc,l24,x1⟩
 obtain⟨σ5,hσ⟩:∃σ5:ISt,σ5=[Za (.rol (ns.map IV.int)),Za (.int x0),Za (.int y1),Za (.int U),Za (.int (m:Int)),Za (.ref P),Zd,Zd,Zd,Zd,Zd,Zd]:=⟨_,rfl⟩
 have q2:σ5[2]?=Za (Za (.int y1)):=by rw[hσ];rfl
 have q3:σ5[3]?=Za (Za (.int U)):=by rw[hσ];rfl
 have q4:σ5[4]?=Za (Za (.int (m:Int))):=by rw[hσ];rfl
 have q5:σ5[5]?=Za (Za (.ref P)):=by rw[hσ];rfl
 obtain⟨_,h2,e2,rfl,ys,gY,ly,k2,dd⟩:=J2j (it:=iRg JZ (Jb (Ja 4) Jd)) (e:=Jgj 15) (js:=[5,2,3]) (σ:=σ5) (h0:=h1) (h:=h1) (xs:=rngI 0 (m:Int)) (chk:=λ _=>True) (λ x y _=>∀q:Nat,x=.int (q:Int)->∃g,y=tupG g/\GOk U ps q g)
  (J05 (by unfold Ja;rw[q4]) (by omega)) (by rw[Qw];omega) (λ _ _ _ _ _ z=>z) (λ _ _=>trivial) (by
   intro x hx h2 k2 _
   obtain⟨i,hi,rfl⟩:=ZF.mp hx
   rw[Vu,show(0:Int)+(i:Int)=i by omega]
   simp only[Z7,Zb5,q5,q2,q3,Zc7]
   unfold Jgj
   refine xb (Je (arg4 rfl rfl (addE (QW rfl rfl (by decide) (by decide)) (mulE rfl rfl (.inl (by decide)))) rfl) (WR.mono (Jp2 (k:=13) (q:=i) hU (k2 _ _ gP) pc l24) ?_))
   rintro _ h3 ⟨⟨g,rfl,ok⟩,x3⟩
   exact⟨x3,λ q e=>⟨g,rfl,by cases e;exact ok⟩⟩)
 rw[hσ] at e2
 refine xseq (xset ?_)
 simp only[Zcn,Zby]
 rw[e2]
 refine xok ?_
 rw[Qw] at ly
 have x2:=Jzp k2
 obtain⟨gs,rfl,ok⟩:=Jyx (P:=λ i g=>GOk U ps i g) (ys:=ys) λ i y e=>dd i _ y (by
  have li:i<m:=by have:=(Zt.mp e).1;omega
  rw[Zb (show i<(rngI 0 (m:Int)).length by rw[Qw];omega),Vu]) e i (by rw[Zdp])
 rw[Zn] at ly
 have lm:gs.length=m:=by omega
 subst lm
 have ne:gs≠[]:=λ z=>by rw[z] at m1;simp at m1
 generalize h1.length=G at gY
 obtain⟨_,h3,e3,W,vs,rs,T,rfl,gW,wA,wk,tg,tU,x3⟩:=(Jvb (k:=9) (cell:=y1/3%1000003) hU gY ne m5 ok).eq
 refine xseq (xset (Je (Qd (arg2 rfl (modE (QW rfl rfl (by decide) (by decide)) rfl (by decide))) e3) ?_))
 obtain⟨a,ea,a2⟩:∃a:Nat,x0/7%3=(a:Int)/\a<=2:=⟨(x0/7%3).toNat,by omega,by omega⟩
 obtain⟨_,h4,e4,R,most,rfl,gR,up,x4⟩:=(J07 (k:=14) (again:=a) (x3.get gY) gW wA wk ne m5 a2).eq
 refine xseq (xset (Je (Qd (arg3 rfl rfl (okc (modE (QW rfl rfl (by decide) (by decide)) rfl (by decide)) (congrArg IV.int ea))) e4) ?_))
 have wl:=wk.len
 have nn:0<=(y1/3%1000003)%8/\(y1/3%1000003)%8<8:=by omega
 have Gg:=good hU hU2 ⟨by omega,by omega⟩ ok ne m5 wk tg tU
 have six:∀r∈rs,r.2.length<=6:=λ r hr=>(Gg.f r hr).ok.few
 have no:∀r∈rs,r.2=[]:=λ r hr=>by
  obtain⟨i,hi,rfl⟩:=ZF.mp hr
  exact(wk.ok i _ _ (Zb (show i<gs.length by omega)) (Zb hi)).1
 have tm:T<=most:=by
  have hi:0<rs.length:=by omega
  have h1:=(wk.ok 0 _ _ (Zb (show 0<gs.length by omega)) (Zb hi)).2.2.2.2.2.2.1
  have h2:=up _ (ZB hi)
  omega
 have T1:=Gg.u1
 obtain⟨cok,cpw⟩:=Jrx (again:=a) hU ok wk up (by omega)
 have lrow:(rowL gs most a gs.length).length<=15:=by
  have:∀n,(rowL gs most a n).length<=3*n:=λ n=>by
   unfold rowL
   induction n with
   | zero=>exact Zr _
   | succ n ih =>
    rw[ZcO,ZdF,Zdq,Z1]
    have:(rowK gs most a n).length<=3:=by
     unfold rowK
     split
     ·rw[Zn,ZaX];omega
     ·exact ZK _
    omega
  have:=this gs.length
  omega
 have x14:=x2.trans (x3.trans x4)
 have xh4:=xA.trans (x1.trans x14)
 -- Jz the order of the row
 suffices go:∀(h5:IH)(R:Nat)(cs:List Cm),Ex h4 h5->h5[R]?=Za (.lst (cs.map tupC))->cs.Perm (rowL gs most a gs.length)->Legal rs cs->WS (Jpu 15 [Za (.rol (ns.map IV.int)),Za (.int x0),Za (.int y1),Za (.int U),Za (.int (gs.length:Int)),Za (.ref P),Za (.ref G),Za (.ref W),Za (.ref R),Zd,Zd,Zd] h5) (λ _ _=>False) λ v _=>v=.bl Zj by
  refine xseq (xifd (eqE (modE (QW rfl rfl (by decide) (by decide)) rfl (by decide)) rfl) (λ _=>?_) λ _=>xnil (WS.mono (go h4 R _ (.refl _) gR (.refl _) (Jmt cok cpw)) (λ _ _ z=>z.elim) λ _ _ z=>z))
  obtain⟨g1,f1⟩:=Jqq (h:=h4) (b:=1) (t:=Jj1 15) (σ:=[Za (.rol (ns.map IV.int)),Za (.int x0),Za (.int y1),Za (.int U),Za (.int (gs.length:Int)),Za (.ref P),Za (.ref G),Za (.ref W),Za (.ref R),Zd,Zd,Zd]) gR (by omega) rfl λ c h2=>eqE (modE (ixtE rfl rfl Qi) rfl (by decide)) rfl
  have y1':Ex h4 (h4++.lst (((rowL gs most a gs.length).filter λ c=>decide ((c.at_:Int)%2=1)).map tupC)::g1):=.cons _ _ _
  obtain⟨g2,f2⟩:=Jqq (h:=h4++.lst (((rowL gs most a gs.length).filter λ c=>decide ((c.at_:Int)%2=1)).map tupC)::g1) (b:=0) (t:=Jj2 15) (σ:=[Za (.rol (ns.map IV.int)),Za (.int x0),Za (.int y1),Za (.int U),Za (.int (gs.length:Int)),Za (.ref P),Za (.ref G),Za (.ref W),Za (.ref R),Zd,Zd,Zd]) (y1'.get gR) (by omega) rfl λ c h2=>eqE (modE (ixtE rfl rfl Qi) rfl (by decide)) rfl
  have ef:((rowL gs most a gs.length).filter λ c=>decide ((c.at_:Int)%2=0))=(rowL gs most a gs.length).filter λ c=>!decide ((c.at_:Int)%2=1):=List.filter_congr λ c _=>by
   by_cases z:(c.at_:Int)%2=1
   ·rw[decide_eq_true z,decide_eq_false (by omega)];rfl
   ·rw[decide_eq_false z,decide_eq_true (by omega)];rfl
  have l1:=Zbu (λ c:Cm=>decide ((c.at_:Int)%2=1)) (rowL gs most a gs.length)
  have l2:=Zbu (λ c:Cm=>decide ((c.at_:Int)%2=0)) (rowL gs most a gs.length)
  refine xset (xb (Je f1 (xb (Je f2 ((Jsp ..).mpr ⟨_,(Ex.cons _ _ _).get Jz,_,Jz,by rw[Zn,Zn];omega,?_⟩)))))
  rw[<- ZbC]
  refine WS.mono (go _ _ _ (y1'.trans ((Ex.cons _ _ _).trans (.one _ _))) grown (by rw[ef];exact List.filter_append_perm _ _) (Jmt (λ c hc=>?_) (Zb7.mpr ⟨cpw.filter _,cpw.filter _,λ x hx y hy e=>?_⟩))) (λ _ _ z=>z.elim) λ _ _ z=>z
  ·rcases Zah.mp hc with hc|hc
   ·exact cok c (Za0.mp hc).1
   ·exact cok c (Za0.mp hc).1
  ·have p1:=of_decide_eq_true (Za0.mp hx).2
   have p2:=of_decide_eq_true (Za0.mp hy).2
   rw[e] at p1
   omega
 intro h5 R cs x5 gR pm L
 have lcs:cs.length<=15:=by rw[pm.length_eq];exact lrow
 have tf:=free hU m5 pc ok wk tg tm L pm
 refine xseq (xset ?_)
 rw[VC]
 refine Je (arg1 rfl) (WR.mono (J2l (k:=12) ((x4.trans x5).get gW) (wA.kp (x4.trans x5).kp) Gg) ?_)
 rintro _ h6 ⟨rfl,x6,d6⟩
 refine⟨rfl,?_⟩
 generalize h5.length=Dd at d6
 have gR6:=x6.get gR
 refine xseq (xset (Je (J23 rfl gR6) ?_))
 have x7:Ex h6 (h6++[.lst (cs.map tupC)]):=.one _ _
 have gH:(h6++[IX.lst (cs.map tupC)])[h6.length]?=Za (.lst (cs.map tupC)):=grown
 generalize h6.length=Hh at gH
 generalize h6++[IX.lst (cs.map tupC)]=h7 at x7 gH
 have o:WR (Q5 "ByDue" (Jay 15) [] (Jb (Ja 9) Jd) [Za (.rol (ns.map IV.int)),Za (.int x0),Za (.int y1),Za (.int U),Za (.int (gs.length:Int)),Za (.ref P),Za (.ref G),Za (.ref W),Za (.ref R),Za (.ref Dd),Za (.ref Hh),Zd] h7) λ v h'=>∃O,v=.ref O/\Ex h7 h'/\IsOr h' O rs:=by
  rw[VC]
  refine Je (arg1 rfl) (WR.mono (Jte (k:=11) (d6.kp x7.kp) (by omega) no) ?_)
  rintro _ h8 ⟨rfl,x8,o⟩
  exact⟨rfl,_,rfl,x8,o⟩
 obtain⟨_,h8,e8,O,rfl,x8,o⟩:=o.eq
 have xt:=xh4.trans (x5.trans (x6.trans (x7.trans x8)))
 obtain⟨_,h9,e9,M,rfl,_,gM,x9⟩:=(Jrj (k:=6) (R:=Hh) ⟨o,x8.get gH,λ c hc=>(L.ok c hc).at_,six,xt.get t1,by omega⟩ (xt.get t0) L (by omega)).eq
 rw[(edf L six).mpr tf] at gM
 refine xseq (xset (Je (Qd (arg2 e8 rfl) e9) (xret ?_)))
 have x79:=x8.trans x9
 have xA9:Ex h9 (h9++[.lst []]):=.one _ _
 have x69:=x7.trans (x79.trans xA9)
 obtain⟨_,h10,e10,rfl,x10⟩:=(J1v (k:=9) (h:=h9++[.lst []]) ((xt.trans (x9.trans xA9)).get t2) (d6.kp x69.kp) (x69.get gR6) L (by omega)).eq
 rw[tf] at e10
 exact Je (Jxb ((binE rfl (lstE rfl rfl)).trans (nilE (ns:=[]) (xA9.get gM) grown rfl)) (Jxb ((binE rfl rfl).trans (Jxe ((x79.trans xA9).get gH) (x69.get gR6) (J3l cs))) ((binE (Qd (arg2 rfl rfl) e10) rfl).trans rfl))) rfl
end
end
end LW
end
namespace LW
open PySem L2 L3 L4
section
local macro_rules | `(tactic| bv_omega) => `(tactic| exact ⟨scOk.of (by decide +kernel), rfl, rfl, λ _ _ _ _ _ _ => by first | exact len1 λ _ => rfl | exact len2 λ _ _ => rfl | exact len3 λ _ _ _ => rfl | exact len4 λ _ _ _ _ => rfl⟩)
variable {K:W.Frag}{h:Zar}{mg:Str->Option Zh}{a:Zq}{oc kV dc pm cd ct:Zh}{od an:Option Zq}{sl:Array (Option Zh)}
theorem Jl9:FnB "is_whole" "is_whole" Jct:=by bv_omega
theorem Jfo:FnB "is_whole_from" "is_whole_from" Jaf:=by bv_omega
theorem Jk9:FnB "rounds_up" "rounds_up" Jbu:=by bv_omega
theorem Jul:FnB "ready" "ready" Jic:=by bv_omega
theorem Jr3:FnB "due_at" "due_at" Jfs:=by bv_omega
theorem Jk3:FnB "is_coming" "is_coming" Jbo:=by bv_omega
theorem Jhl:FnB "first_wrong" "first_wrong" Jaq:=by bv_omega
theorem Jo4:FnB "checked" "checked" Jd9:=by bv_omega
theorem Jo6:FnB "is_name" "is_name" Jeb:=by bv_omega
theorem Jo5:FnB "is_hold" "is_hold" Jea:=by bv_omega
theorem Jk5:FnB "lie_apart" "lie_apart" Jbq:=by bv_omega
theorem Jo8:FnB "lies_in" "lies_in" Jed:=by bv_omega
theorem Jhm:FnB "go_together" "go_together" Jar:=by bv_omega
theorem Jeo:FnB "all_go_together" "all_go_together" Jac:=by bv_omega
theorem Jk7:FnB "own_holds" "own_holds" Jbs:=by bv_omega
theorem Jo9:FnB "own_due" "own_due" Jee:=by bv_omega
theorem Jk2:FnScope Qj.N Qj.ps (JK Qj.st):=scOk.of (by decide +kernel)
theorem Jkt {C:Zq}{T:Zq}{ox:Zh}{oy:Option Zq}{nx:Nat}{sx:Array (Option Zh)}{tk1:Tok}(ha:W.findIn K (.ref C) "__init__"=Za (Za (.ref a)))(hi:W.isFn K (.ref a)=Zj)(hl:K.lookup a=Za ⟨oc,od,.func (W.fnOf "__init__" "Work.__init__" (QJ Qj.st) (Qk Qj.st) (JK Qj.st) (.ref T) kV dc pm an cd ct),sl⟩)(hc:W.codeIn K cd "Work.__init__"=Zj)(hk:W.keepIn K (.ref a)=Zj)(hd:K.lookup T=Za ⟨ox,oy,.seq #[.none,.int 0 tk1,.none] nx,sx⟩)(hm:W.makesIn K C=Zj)(hq:W.keepIn K (.ref C)=Zj):∃fa fd,Mk K C fa/\DefOk K "__init__" Qj fa fd :=
 ⟨a,_,⟨hm,ha,hi,hq⟩,⟨⟨_,⟨oc,od,kV,dc,pm,an,cd,ct,sl,rfl,hl,hc⟩,hk⟩,Jk2,(by intro j hj;rcases J34 j (show j<=3 from hj) with rfl|rfl|rfl|rfl;exact⟨[.none,.int 0 tk1,.none],λ s us Y hl=>len4 (P:=λ us=>Zdf s _ ⟨us,[]⟩ (Qj.ps.zip (us++[.none,.int 0 tk1,.none]))) (λ _ _ _ _=>.of_defaults rfl (Y T _ hd) rfl rfl rfl) us (show us.length=4 by rw[Z1] at hl;exact Zc0 (m:=3) hl),rfl,[V.non,V.int 0,V.non],.cons rfl (.cons ⟨_,rfl⟩ (.cons rfl (.nil))),λ _ _=>⟨_,_,rfl,rfl,⟨_,_,rfl,rfl,⟨_,_,rfl,rfl,rfl⟩⟩⟩⟩;exact⟨[.int 0 tk1,.none],λ s us Y hl=>len5 (P:=λ us=>Zdf s _ ⟨us,[]⟩ (Qj.ps.zip (us++[.int 0 tk1,.none]))) (λ _ _ _ _ _=>.of_defaults rfl (Y T _ hd) rfl rfl rfl) us (show us.length=5 by rw[Z1] at hl;exact Zc0 (m:=2) hl),rfl,[V.int 0,V.non],.cons ⟨_,rfl⟩ (.cons rfl (.nil)),λ _ _=>⟨_,_,rfl,rfl,⟨_,_,rfl,rfl,rfl⟩⟩⟩;exact⟨[.none],λ s us Y hl=>len6 (P:=λ us=>Zdf s _ ⟨us,[]⟩ (Qj.ps.zip (us++[.none]))) (λ _ _ _ _ _ _=>.of_defaults rfl (Y T _ hd) rfl rfl rfl) us (show us.length=6 by rw[Z1] at hl;exact Zc0 (m:=1) hl),rfl,[V.non],.cons rfl (.nil),λ _ _=>⟨_,_,rfl,rfl,rfl⟩⟩;exact⟨[],λ s us Y hl=>len7 (P:=λ us=>Zdf s _ ⟨us,[]⟩ (Qj.ps.zip (us++[]))) (λ _ _ _ _ _ _ _=>.of_defaults rfl (Y T _ hd) rfl rfl rfl) us (show us.length=7 by rw[Z1] at hl;exact Zc0 (m:=0) hl),rfl,[],.nil,λ _ _=>rfl⟩)⟩⟩
theorem Jk1:FnB "held" "Work.held" Jbn:=by bv_omega
theorem Jk6:FnB "next_stop" "next_stop" Jbr:=by bv_omega
theorem Jiz:FnB "__init__" "Bench.__init__" Ja1:=by bv_omega
theorem Jdo:FnB "next_ready" "Bench.next_ready" Jaa:=by bv_omega
theorem Jg1:FnB "let_in" "Bench.let_in" Jai:=by bv_omega
theorem Jem:FnB "turns_for" "Bench.turns_for" Jab:=by bv_omega
theorem Ji0:FnB "tell" "Bench.tell" Ja2:=by bv_omega
theorem Jhk:FnB "go_on" "Bench.go_on" Jap:=by bv_omega
theorem J1l:FnB "run" "run" Jta:=by bv_omega
theorem Jyl:FnB "ends" "ends" Jmo:=by bv_omega
theorem Jr4:FnB "missed" "missed" Jft:=by bv_omega
theorem Jk8:FnB "own_works" "own_works" Jbt:=by bv_omega
theorem Jl8:FnB "crowd_of" "crowd_of" Jcs:=by bv_omega
theorem Jky:FnB "__init__" "Duty.__init__" Jbk:=by bv_omega
theorem Jkz:FnB "size" "Duty.size" Jbl:=by bv_omega
theorem Jk0:FnB "work" "Duty.work" Jbm:=by bv_omega
theorem Ji2:FnB "crowd" "Duty.crowd" Jcm:=by bv_omega
theorem Ji4:FnB "full_until" "full_until" Ja5:=by bv_omega
theorem Jma:FnB "too_full" "too_full" Jcu:=by bv_omega
theorem Jl7:FnB "ceilings" "ceilings" Jcr:=by bv_omega
theorem Jg2:FnB "refuse_holds" "refuse_holds" Jaj:=by bv_omega
theorem Ji3:FnB "__init__" "Order.__init__" Ja4:=by bv_omega
theorem Jfn:FnB "rank_of" "Order.rank_of" Jax:=by bv_omega
theorem Jdb:FnB "holds" "Order.holds" Xm:=by bv_omega
theorem Jen:FnB "pick" "Order.pick" Xn:=by bv_omega
theorem Jbd:FnB "standing" "Order.standing" Xo:=by bv_omega
theorem Ji1:FnB "__init__" "ByDue.__init__" Ja3:=by bv_omega
theorem Jfm:FnB "rank_of" "ByDue.rank_of" Jae:=by bv_omega
theorem Jhn:FnB "_law_cell_at" "_law_cell_at" Jas:=by bv_omega
theorem Ji7:FnB "_law_stream" "_law_stream" Ja8:=by bv_omega
theorem Ji6:FnB "_law_pieces" "_law_pieces" Ja7:=by bv_omega
theorem Ji5:FnB "_law_coming" "_law_coming" Ja6:=by bv_omega
theorem Jk4:FnB "_law_works" "_law_works" Jbp:=by bv_omega
theorem Jo7:FnB "_law_row" "_law_row" Jec:=by bv_omega
theorem J1k:FnScope QI.N QI.ps (JK QI.st):=scOk.of (by decide +kernel)
theorem J0n (X:K.In h)(G:h.Ns Z4 mg)(ha:W.nsIn K Z4 "law"=Za (Za (.ref a)))(hl:K.lookup a=Za ⟨oc,od,.func (W.fnOf "law" "law" (QJ QI.st) (Qk QI.st) (JK QI.st) .none kV dc pm an cd ct),sl⟩)(hc:W.codeIn K cd "law"=Zj)(hk:W.keepIn K (.ref a)=Zj):∃fa fd,mg "law"=Za (.ref fa)/\DefOk K "law" QI fa fd/\∀(s:Zl) (v:Zh),Zdf s fd ⟨[v],[]⟩ [("_law_script",v)] :=
 ⟨a,_,W.mg_of X G ha,Jvv (d:=QI) hl hc hk J1k rfl (len1 (λ _=>rfl)),λ s v=>.of_eq rfl⟩
theorem Yk (pg:W.plainGet K C Str.empty=Zj)(hd:W.hasDictIn K C=Zj)(po:W.plainOver K C=Zj)(sa:W.findIn K (.ref C) "__setattr__"=Za (Za (.builtin "object.__setattr__")))(h1:W.findIn K (.ref C) "__class__"=Za (Za (.builtin "object.__class__")))(h2:W.specialIn K (.builtin "object.__class__") "__get__"=Za (Za (.builtin "getset_descriptor.__get__")))(h3:W.takesIn K (.builtin "object.__class__")=Za Zj)(h4:W.mroIn K C (.type "object")=Za Zj)(n0:W.findIn K (.ref C) "append"=Za Zd)(n1:W.findIn K (.ref C) "dones"=Za Zd)(n2:W.findIn K (.ref C) "due"=Za Zd)(n3:W.findIn K (.ref C) "duty"=Za Zd)(n4:W.findIn K (.ref C) "gap"=Za Zd)(n5:W.findIn K (.ref C) "hold_tuples"=Za Zd)(n6:W.findIn K (.ref C) "late"=Za Zd)(n7:W.findIn K (.ref C) "later"=Za Zd)(n8:W.findIn K (.ref C) "length"=Za Zd)(n9:W.findIn K (.ref C) "name"=Za Zd)(n10:W.findIn K (.ref C) "order"=Za Zd)(n11:W.findIn K (.ref C) "place"=Za Zd)(n12:W.findIn K (.ref C) "pop"=Za Zd)(n13:W.findIn K (.ref C) "remove"=Za Zd)(n14:W.findIn K (.ref C) "row"=Za Zd)(n15:W.findIn K (.ref C) "setdefault"=Za Zd)(n16:W.findIn K (.ref C) "stretches"=Za Zd)(n17:W.findIn K (.ref C) "turn"=Za Zd)(n18:W.findIn K (.ref C) "waiting"=Za Zd)(n19:W.findIn K (.ref C) "works"=Za Zd):ClsI K C/\All (λ f=>Q0 K C f) T.flds :=
 ⟨⟨⟨pg,hd,po,sa⟩,h1,h2,h3,h4⟩,.cons n0 (.cons n1 (.cons n2 (.cons n3 (.cons n4 (.cons n5 (.cons n6 (.cons n7 (.cons n8 (.cons n9 (.cons n10 (.cons n11 (.cons n12 (.cons n13 (.cons n14 (.cons n15 (.cons n16 (.cons n17 (.cons n18 (.cons n19 (.nil))))))))))))))))))))⟩
theorem J0m (sp:W.specialIn K (.ref C) "__getattribute__"=Za (Za (.builtin "type.__getattribute__")))(rd:W.readsIn K C (.type "type")=Zj)(fi:W.findIn K (.ref C) "__init__"=Za (Za (.ref a)))(fc:W.findCls K (.ref C) (.type "type") "__init__"=Za (.val (.ref a)))(kp:W.keepIn K (.ref a)=Zj):BasK K C:=⟨sp,rd,a,fi,fc,kp⟩
abbrev DfO (K:W.Frag)(mg:Str->Option Zh)(x:Str)(d:D4):Prop:=∃fa fd,mg x=Za (.ref fa)/\DefOk K x d fa fd
abbrev DmO (K:W.Frag)(C:Zq)(x:Str)(d:D4):Prop:=∃fa fd,Meth K C x fa/\DefOk K x d fa fd
theorem fin {prog:ZC}{w:ZU}(X:K.In h)(G:h.Ns Z4 mg)(hfa:mg "law"=Za (.ref fa)){C_Work:Zq}{C_Bench:Zq}{C_Duty:Zq}{C_Order:Zq}{C_ByDue:Zq}{tk_MOST_COMINGS:Tok}{tk_AT:Tok}{tk_COME:Tok}{tk_LATE:Tok}{tk_LENGTH:Tok}{tk_MOST_LETTERS:Tok}{tk_MOST_HOLDS:Tok}{tk_THING:Tok}{tk_START:Tok}{tk_END:Tok}{tk_PLACE:Tok}{tk_FROM:Tok}{tk_UNTIL:Tok}{tk_MOST_WORKS:Tok}{tk_MOST_CROWD:Tok} 
  (aC_Work:W.nsIn K Z4 "Work"=Za (Za (.ref C_Work)))
  (aC_Bench:W.nsIn K Z4 "Bench"=Za (Za (.ref C_Bench)))
  (aC_Duty:W.nsIn K Z4 "Duty"=Za (Za (.ref C_Duty)))
  (aC_Order:W.nsIn K Z4 "Order"=Za (Za (.ref C_Order)))
  (aC_ByDue:W.nsIn K Z4 "ByDue"=Za (Za (.ref C_ByDue)))
  (f_is_whole:DfO K mg "is_whole" Jct)
  (f_is_whole_from:DfO K mg "is_whole_from" Jaf)
  (f_rounds_up:DfO K mg "rounds_up" Jbu)
  (f_ready:DfO K mg "ready" Jic)
  (f_due_at:DfO K mg "due_at" Jfs)
  (f_is_coming:DfO K mg "is_coming" Jbo)
  (f_first_wrong:DfO K mg "first_wrong" Jaq)
  (f_checked:DfO K mg "checked" Jd9)
  (f_is_name:DfO K mg "is_name" Jeb)
  (f_is_hold:DfO K mg "is_hold" Jea)
  (f_lie_apart:DfO K mg "lie_apart" Jbq)
  (f_lies_in:DfO K mg "lies_in" Jed)
  (f_go_together:DfO K mg "go_together" Jar)
  (f_all_go_together:DfO K mg "all_go_together" Jac)
  (f_own_holds:DfO K mg "own_holds" Jbs)
  (f_own_due:DfO K mg "own_due" Jee)
  (f_next_stop:DfO K mg "next_stop" Jbr)
  (f_run:DfO K mg "run" Jta)
  (f_ends:DfO K mg "ends" Jmo)
  (f_missed:DfO K mg "missed" Jft)
  (f_own_works:DfO K mg "own_works" Jbt)
  (f_crowd_of:DfO K mg "crowd_of" Jcs)
  (f_full_until:DfO K mg "full_until" Ja5)
  (f_too_full:DfO K mg "too_full" Jcu)
  (f_ceilings:DfO K mg "ceilings" Jcr)
  (f_refuse_holds:DfO K mg "refuse_holds" Jaj)
  (f_law_cell_at:DfO K mg "_law_cell_at" Jas)
  (f_law_stream:DfO K mg "_law_stream" Ja8)
  (f_law_pieces:DfO K mg "_law_pieces" Ja7)
  (f_law_coming:DfO K mg "_law_coming" Ja6)
  (f_law_works:DfO K mg "_law_works" Jbp)
  (f_law_row:DfO K mg "_law_row" Jec)
  (f_law:∃fa fd,mg "law"=Za (.ref fa)/\DefOk K "law" QI fa fd/\∀(s:Zl) (v:Zh),Zdf s fd ⟨[v],[]⟩ [("_law_script",v)])
  (i_Work:∃fa fd,Mk K C_Work fa/\DefOk K "__init__" Qj fa fd)
  (m_Work_held:DmO K C_Work "held" Jbn)
  (c_Work:ClsI K C_Work/\All (λ f=>Q0 K C_Work f) T.flds)
  (i_Bench:∃fa fd,Mk K C_Bench fa/\DefOk K "__init__" Ja1 fa fd)
  (m_Bench_next_ready:DmO K C_Bench "next_ready" Jaa)
  (m_Bench_let_in:DmO K C_Bench "let_in" Jai)
  (m_Bench_turns_for:DmO K C_Bench "turns_for" Jab)
  (m_Bench_tell:DmO K C_Bench "tell" Ja2)
  (m_Bench_go_on:DmO K C_Bench "go_on" Jap)
  (c_Bench:ClsI K C_Bench/\All (λ f=>Q0 K C_Bench f) T.flds)
  (i_Duty:∃fa fd,Mk K C_Duty fa/\DefOk K "__init__" Jbk fa fd)
  (m_Duty_size:DmO K C_Duty "size" Jbl)
  (m_Duty_work:DmO K C_Duty "work" Jbm)
  (m_Duty_crowd:DmO K C_Duty "crowd" Jcm)
  (c_Duty:ClsI K C_Duty/\All (λ f=>Q0 K C_Duty f) T.flds)
  (i_Order:∃fa fd,Mk K C_Order fa/\DefOk K "__init__" Ja4 fa fd)
  (m_Order_rank_of:DmO K C_Order "rank_of" Jax)
  (m_Order_holds:DmO K C_Order "holds" Xm)
  (m_Order_pick:DmO K C_Order "pick" Xn)
  (m_Order_standing:DmO K C_Order "standing" Xo)
  (c_Order:ClsI K C_Order/\All (λ f=>Q0 K C_Order f) T.flds)
  (i_ByDue:∃fa fd,Mk K C_ByDue fa/\DefOk K "__init__" Ja3 fa fd)
  (m_ByDue_rank_of:DmO K C_ByDue "rank_of" Jae)
  (m_ByDue_holds:DmO K C_ByDue "holds" Xm)
  (m_ByDue_pick:DmO K C_ByDue "pick" Xn)
  (m_ByDue_standing:DmO K C_ByDue "standing" Xo)
  (c_ByDue:ClsI K C_ByDue/\All (λ f=>Q0 K C_ByDue f) T.flds)
  (g_MOST_COMINGS:W.nsIn K Z4 "MOST_COMINGS"=Za (Za (.int 200 tk_MOST_COMINGS)))
  (g_AT:W.nsIn K Z4 "AT"=Za (Za (.int 0 tk_AT)))
  (g_COME:W.nsIn K Z4 "COME"=Za (Za (.int 1 tk_COME)))
  (g_LATE:W.nsIn K Z4 "LATE"=Za (Za (.int 2 tk_LATE)))
  (g_LENGTH:W.nsIn K Z4 "LENGTH"=Za (Za (.int 3 tk_LENGTH)))
  (g_MOST_LETTERS:W.nsIn K Z4 "MOST_LETTERS"=Za (Za (.int 8 tk_MOST_LETTERS)))
  (g_MOST_HOLDS:W.nsIn K Z4 "MOST_HOLDS"=Za (Za (.int 6 tk_MOST_HOLDS)))
  (g_THING:W.nsIn K Z4 "THING"=Za (Za (.int 0 tk_THING)))
  (g_START:W.nsIn K Z4 "START"=Za (Za (.int 1 tk_START)))
  (g_END:W.nsIn K Z4 "END"=Za (Za (.int 2 tk_END)))
  (g_PLACE:W.nsIn K Z4 "PLACE"=Za (Za (.int 0 tk_PLACE)))
  (g_FROM:W.nsIn K Z4 "FROM"=Za (Za (.int 1 tk_FROM)))
  (g_UNTIL:W.nsIn K Z4 "UNTIL"=Za (Za (.int 2 tk_UNTIL)))
  (g_MOST_WORKS:W.nsIn K Z4 "MOST_WORKS"=Za (Za (.int 12 tk_MOST_WORKS)))
  (g_MOST_CROWD:W.nsIn K Z4 "MOST_CROWD"=Za (Za (.int 80 tk_MOST_CROWD)))
  (k_Work_NoneType:W.kitOne K (.type "NoneType") (.ref C_Work)=Za Zm)
  (k_Work_bool:W.kitOne K (.type "bool") (.ref C_Work)=Za Zm)
  (k_Work_int:W.kitOne K (.type "int") (.ref C_Work)=Za Zm)
  (k_Work_str:W.kitOne K (.type "str") (.ref C_Work)=Za Zm)
  (k_Work_list:W.kitOne K (.type "list") (.ref C_Work)=Za Zm)
  (k_Work_tuple:W.kitOne K (.type "tuple") (.ref C_Work)=Za Zm)
  (k_Work_dict:W.kitOne K (.type "dict") (.ref C_Work)=Za Zm)
  (k_Work_Work:W.kitOne K (.ref C_Work) (.ref C_Work)=Za (memS "Work" ["Work"]))
  (k_Work_Bench:W.kitOne K (.ref C_Bench) (.ref C_Work)=Za (memS "Bench" ["Work"]))
  (k_Work_Duty:W.kitOne K (.ref C_Duty) (.ref C_Work)=Za (memS "Duty" ["Work"]))
  (k_Work_Order:W.kitOne K (.ref C_Order) (.ref C_Work)=Za (memS "Order" ["Work"]))
  (k_Work_ByDue:W.kitOne K (.ref C_ByDue) (.ref C_Work)=Za (memS "ByDue" ["Work"]))
  (z_all:W.nsIn K Z4 "all"=Za Zd)
  (z_bool:W.nsIn K Z4 "bool"=Za Zd)
  (z_enumerate:W.nsIn K Z4 "enumerate"=Za Zd)
  (z_int:W.nsIn K Z4 "int"=Za Zd)
  (z_isinstance:W.nsIn K Z4 "isinstance"=Za Zd)
  (z_len:W.nsIn K Z4 "len"=Za Zd)
  (z_list:W.nsIn K Z4 "list"=Za Zd)
  (z_max:W.nsIn K Z4 "max"=Za Zd)
  (z_min:W.nsIn K Z4 "min"=Za Zd)
  (z_range:W.nsIn K Z4 "range"=Za Zd)
  (z_set:W.nsIn K Z4 "set"=Za Zd)
  (z_sorted:W.nsIn K Z4 "sorted"=Za Zd)
  (z_str:W.nsIn K Z4 "str"=Za Zd)
  (z_sum:W.nsIn K Z4 "sum"=Za Zd)
  (z_tuple:W.nsIn K Z4 "tuple"=Za Zd)
  (bs_Order:BasK K C_Order)
  : ∃fd:ZaP,(∀(s:Zl) (v:Zh),Zdf s fd ⟨[v],[]⟩ [("_law_script",v)])/\∀base:Zar,K.In base->base.Ns Z4 mg->Qs mg base->FnOk prog w K mg base (CXI prog w) 64 fa fd ["_law_script"] (XD K "_law_script" (Xj 16)):=by
 obtain⟨fa',fd,hm,ok,hb⟩:=f_law
 have e:=hfa.symm.trans hm
 cases e
 have O:TabOk (ceOf [("Work",C_Work),("Bench",C_Bench),("Duty",C_Duty),("Order",C_Order),("ByDue",C_ByDue)]) T K mg:=J1u _
  (.cons (f_is_whole) (.cons (f_is_whole_from) (.cons (f_rounds_up) (.cons (f_ready) (.cons (f_due_at) (.cons (f_is_coming) (.cons (f_first_wrong) (.cons (f_checked) (.cons (f_is_name) (.cons (f_is_hold) (.cons (f_lie_apart) (.cons (f_lies_in) (.cons (f_go_together) (.cons (f_all_go_together) (.cons (f_own_holds) (.cons (f_own_due) (.cons (f_next_stop) (.cons (f_run) (.cons (f_ends) (.cons (f_missed) (.cons (f_own_works) (.cons (f_crowd_of) (.cons (f_full_until) (.cons (f_too_full) (.cons (f_ceilings) (.cons (f_refuse_holds) (.cons (f_law_cell_at) (.cons (f_law_stream) (.cons (f_law_pieces) (.cons (f_law_coming) (.cons (f_law_works) (.cons (f_law_row) (.cons (⟨_,_,hm,ok⟩) (.nil))))))))))))))))))))))))))))))))))
  (.cons ((let ⟨fa,fd,p,q⟩:=i_Work;⟨C_Work,fa,fd,W.mg_of X G aC_Work,by kernel_rfl,p,q⟩)) (.cons ((let ⟨fa,fd,p,q⟩:=i_Bench;⟨C_Bench,fa,fd,W.mg_of X G aC_Bench,by kernel_rfl,p,q⟩)) (.cons ((let ⟨fa,fd,p,q⟩:=i_Duty;⟨C_Duty,fa,fd,W.mg_of X G aC_Duty,by kernel_rfl,p,q⟩)) (.cons ((let ⟨fa,fd,p,q⟩:=i_Order;⟨C_Order,fa,fd,W.mg_of X G aC_Order,by kernel_rfl,p,q⟩)) (.cons ((let ⟨fa,fd,p,q⟩:=i_ByDue;⟨C_ByDue,fa,fd,W.mg_of X G aC_ByDue,by kernel_rfl,p,q⟩)) (.nil))))))
  (.cons (⟨C_Work,by kernel_rfl,.cons (m_Work_held) (.nil)⟩) (.cons (⟨C_Bench,by kernel_rfl,.cons (m_Bench_next_ready) (.cons (m_Bench_let_in) (.cons (m_Bench_turns_for) (.cons (m_Bench_tell) (.cons (m_Bench_go_on) (.nil)))))⟩) (.cons (⟨C_Duty,by kernel_rfl,.cons (m_Duty_size) (.cons (m_Duty_work) (.cons (m_Duty_crowd) (.nil)))⟩) (.cons (⟨C_Order,by kernel_rfl,.cons (m_Order_rank_of) (.cons (m_Order_holds) (.cons (m_Order_pick) (.cons (m_Order_standing) (.nil))))⟩) (.cons (⟨C_ByDue,by kernel_rfl,.cons (m_ByDue_rank_of) (.cons (m_ByDue_holds) (.cons (m_ByDue_pick) (.cons (m_ByDue_standing) (.nil))))⟩) (.nil))))))
  (.cons (⟨_,.int 200,W.mg_of X G g_MOST_COMINGS,⟨tk_MOST_COMINGS,rfl⟩,λ _ _=>rfl⟩) (.cons (⟨_,.int 0,W.mg_of X G g_AT,⟨tk_AT,rfl⟩,λ _ _=>rfl⟩) (.cons (⟨_,.int 1,W.mg_of X G g_COME,⟨tk_COME,rfl⟩,λ _ _=>rfl⟩) (.cons (⟨_,.int 2,W.mg_of X G g_LATE,⟨tk_LATE,rfl⟩,λ _ _=>rfl⟩) (.cons (⟨_,.int 3,W.mg_of X G g_LENGTH,⟨tk_LENGTH,rfl⟩,λ _ _=>rfl⟩) (.cons (⟨_,.int 8,W.mg_of X G g_MOST_LETTERS,⟨tk_MOST_LETTERS,rfl⟩,λ _ _=>rfl⟩) (.cons (⟨_,.int 6,W.mg_of X G g_MOST_HOLDS,⟨tk_MOST_HOLDS,rfl⟩,λ _ _=>rfl⟩) (.cons (⟨_,.int 0,W.mg_of X G g_THING,⟨tk_THING,rfl⟩,λ _ _=>rfl⟩) (.cons (⟨_,.int 1,W.mg_of X G g_START,⟨tk_START,rfl⟩,λ _ _=>rfl⟩) (.cons (⟨_,.int 2,W.mg_of X G g_END,⟨tk_END,rfl⟩,λ _ _=>rfl⟩) (.cons (⟨_,.int 0,W.mg_of X G g_PLACE,⟨tk_PLACE,rfl⟩,λ _ _=>rfl⟩) (.cons (⟨_,.int 1,W.mg_of X G g_FROM,⟨tk_FROM,rfl⟩,λ _ _=>rfl⟩) (.cons (⟨_,.int 2,W.mg_of X G g_UNTIL,⟨tk_UNTIL,rfl⟩,λ _ _=>rfl⟩) (.cons (⟨_,.int 12,W.mg_of X G g_MOST_WORKS,⟨tk_MOST_WORKS,rfl⟩,λ _ _=>rfl⟩) (.cons (⟨_,.int 80,W.mg_of X G g_MOST_CROWD,⟨tk_MOST_CROWD,rfl⟩,λ _ _=>rfl⟩) (.nil))))))))))))))))
  (.cons (c_Work) (.cons (c_Bench) (.cons (c_Duty) (.cons (c_Order) (.cons (c_ByDue) (.nil))))))
  (.cons (⟨C_Work,W.mg_of X G aC_Work,k_Work_NoneType,k_Work_bool,k_Work_int,k_Work_str,k_Work_list,k_Work_tuple,k_Work_dict,.cons (k_Work_Work) (.cons (k_Work_Bench) (.cons (k_Work_Duty) (.cons (k_Work_Order) (.cons (k_Work_ByDue) (.nil)))))⟩) (.nil))
  (.cons (W.mg_none_of X G z_all) (.cons (W.mg_none_of X G z_bool) (.cons (W.mg_none_of X G z_enumerate) (.cons (W.mg_none_of X G z_int) (.cons (W.mg_none_of X G z_isinstance) (.cons (W.mg_none_of X G z_len) (.cons (W.mg_none_of X G z_list) (.cons (W.mg_none_of X G z_max) (.cons (W.mg_none_of X G z_min) (.cons (W.mg_none_of X G z_range) (.cons (W.mg_none_of X G z_set) (.cons (W.mg_none_of X G z_sorted) (.cons (W.mg_none_of X G z_str) (.cons (W.mg_none_of X G z_sum) (.cons (W.mg_none_of X G z_tuple) (.nil))))))))))))))))
  (.cons (⟨C_Order,W.mg_of X G aC_Order,bs_Order⟩) (.nil))
 exact⟨fd,hb,λ base _ _ B=>Jxv O (λ _=>B) 16 rfl ok⟩
end
end LW
open PySem L2
theorem LW.walk {l:W.OpenLaw}{q:ZC}{loose:List Str}{XP:(Str->Option Zh)->Zar->Prop}{YP:ZU->Zar->Prop}{d:DefRec}{K:Params->W.Frag}{ts:List Zq}(hn:l.most=Za 63)(hdf:d.params.defaults=[]) 
  (hY:∀(w:ZU) (h:Zar),YP w h->(K w.params).In h/\∀p∈ts,h.get? p=Za (W.tabObj #[]))(hc:∀w:ZU,L4.QS (K w.params) ["Order.pick","too_full","Bench.__init__"] ts=Zj)
  (F:∀(w:ZU)(mg:Str->Option Zh)(fa:Zq)(h:Zar),(K w.params).In h->h.Ns Z4 mg->mg d.name=Za (.ref fa) ->
   ∃fd:ZaP,(∀(s:Zl) (u:Zh),Zdf s fd ⟨[u],[]⟩ [("_law_script",u)])/\∀base:Zar,(K w.params).In base->base.Ns Z4 mg->L3.Qs mg base->FnOk l.prog w (K w.params) mg base (L3.CXI l.prog w) 64 fa fd ["_law_script"] (L3.XD (K w.params) "_law_script" (LW.Xj 16))) :
  W.WalkO q loose XP YP l.row.toRowW d [] (λ f vs=>PySem.call f vs) :=
 L4.Jva (n:=63) (k:=64) (x:="_law_script") (f:=LW.Xj 16) (qs:=["Order.pick","too_full","Bench.__init__"]) (ts:=ts) hn (by decide) hdf ⟨rfl,by decide,by decide⟩ hY hc F λ ns hl=>LW.Jt2 ns hl
open PySem PySem.W PyProof.Rows
structure PySem.W.Fast:Prop where (tw13641238011424868824 tw6826927469560958514 tw1669371611056426596 tw1621509309828592693 tw14312844785822840214 tw17346847857214042059 tw7782186866307916392 tw8973461155496801709 tw8990687687035401130 tw1844466754513224071
tw5885415852195183037 tw18142905424548250306 tw1395090852701129634 tw8767662722121949418 tw8606065131470473811 tw18204054793442219741 tw14771768913635202545 tw16251273004274785569 tw10504094770229066379 tw8624089792215235531
tw12679117319327278650 tw13476828708974594098 tw17365067355339894777 tw8655034437915424011 tw8136695259021886921 tw17595794531349046975 tw15844632416721350282 tw14306179719974134972 tw14417402234269445312 tw3270908588608107187
tw12579701088391014353 tw8437142420863808653 tw16855587515954839764 tw4549968688324594327 tw11893203808851145124 tw11096080102405233112 tw7480993793932715752 tw5517702693584401508 tw5983770611854434290 tw16302266348003949857
tw13831508962166174130 tw3449374856500883331 tw12850668564512916412 tw7983757053212127262 tw4923718642650408600 tw6639562826282744968 tw947187489938354970 tw6203527405626103406 tw13505510269661269013 tw3123093349912721007
tw14731911526171185838 tw10298929248796185922 tw15422602033092304780 tw8823900005123636052 tw8894422968532003702 tw6221535495559501007 tw1290473589143093664 tw6376779669225163465 tw12266210816385346592 tw14221203425990648743
tw13052696275452391198 tw13921146874331368234 tw2651757871279497282 tw1088859905806303676 tw16170120516302883647 tw18418487018560688542 tw8041872403438084570 tw13791243367113572611 tw3416728643183908037 tw8111409743362706005
tw4751049750517774682 tw6965906234647049547 tw9373691036545931167 tw2804137446594523852 tw14067244749984333694 tw14909817610786159504 tw7939637626615713705 tw10055210012772580604 tw14232911500610755143 tw946712132926441041
tw4547182172038005509 tw800474042705653927 tw9679104171603297909 tw1024750177490965640 tw11618829246025292104 tw16440101750337694996 tw10287731209909306286 tw3411176712858986522 tw17809639204135423254 tw307614380962373057
tw14325636781758145090 tw15702381455144847385 tw11039812064846439191 tw17493278094971051862 tw9065900953232997262 tw13859139078674650229 tw10038085495409250838 tw8163737000276901808 tw9687783028683852455 tw15959712285719720292
tw11277126855803494372 tw3537716642528593897 tw13187714293515809983 tw3478323727698469558 tw5051689980900924983 tw2226345136246796983 tw16582864269147122718 tw3481019206773399052 tw13355897627113228070 tw12543299471941108814
tw13796161063024859361 tw7150575950062442890 tw7142525362693543295 tw5093686484753119031 tw3258015029201442071 tw13644092589087165126 tw6180934718247537793 tw12421896207791260266 tw12356501839321274706 tw17039230998636079446
tw4917462749359995552 tw10272651529343953533 tw186879849522425403 tw16441744660284202244 tw13630537938172142007 tw5692050347927560713 tw8645192651958103408 tw7288572860261898187 tw8439049781121869906 tw5950782029336825247
tw14197092192002133655 tw12174205691224421627 tw2278183150730756499 tw13815956039364043138 tw17184355953806904168 tw4137703548393296443 tw17330816550531829478 tw4025948099043003544 tw561150866253415718 tw3705642152791765319
tw14782545010741940342 tw10624267061693217257 tw13744283720336152096 tw2436326776644324760 tw5349002930230572279 tw6646309685138237687 tw6999734649147302219 tw13733977412375867426 tw4812301511134189359 tw5108821762806859232
tw16053968699883064291 tw1417812690229644846 tw13128173437352690160 tw3081761387829405215 tw6483709789717406481 tw5750114611615780457 tw1578834173706158511 tw14886874281013531095 tw4988237834935510206 tw2188399023753322403
tw6024375184883047563 tw5109229278748601319 tw15095484674101366301 tw11834597939321630158 tw4709031387698069665 tw8799402385869505851 tw5306917700906862466 tw277557381653707959 tw7320628626558403086 tw4317534084402397967
tw5387871853406925010 tw8066520500875063834 tw16674291827865299682 tw16632872946933653715 tw13684911031850308159 tw18371875016574828681 tw9319954523320003055 tw4741392307282091025 tw14494627860596837753 tw3010749298873352705
tw17780325231728152191 tw1128965080652850538 tw428799303520414658 tw4416512637184579957 tw2527945002708154351 tw3138501458758695703 tw6681857581061003033 tw10252339435626058554 tw9998188282310843497 tw7319551216852511201
tw6677808907259242871 tw8247866318841457878 tw1919676198920102364 tw1838612126342290960 tw7415743049614837750 tw12582700204950137330 tw17850772269972046934 tw5144732018006908970 tw12249375800605023761 tw11502544504737485311
tw14864776817637878049 tw6674957228299751391 tw1773272066555155757 tw7114815763046780695 tw16066298719648014409 tw2009665484873921605 tw3651056732405432530 tw9116641865223263029 tw16385968879774044348 tw13383740566280827509
tw2472869875971453397 tw16266167387155000057 tw1839391407307840677 tw501990180511793089 tw7161791953825405906 tw12965656452098625398 tw16130347013696008578 tw1678599297834316095 tw5518979661212645510 tw2774574010914239287
tw13282417859106930518 tw13313902533493663359 tw17846813771531248192 tw3864325055134639646 tw6140633552741451211 tw6738698680093501298 tw1879874925838399432 tw9515868250492618219 tw16711778106299744800 tw6591228422850724894
tw16515360783176931390 tw18215973211668263716 tw1402510630706756092 tw4366158291093164592 tw8376197462766397054 tw5678091044713611631 tw16696968924549117153 tw2277242318967683188 tw18294077752021809196 tw2290847238312416410
tw5368819379653388020 tw4368325226815065035 tw6133132342151570165 tw10035965316875891837 tw14446458105341828076 tw13980498127766571592 tw3810851419394211577 tw3409550236094938588 tw9165366874688146926 tw17572612213034048334
tw18276306836811070874 tw14412649345807041125 tw16655210390926966571 tw15109199054739455367 tw931327211554068243 tw13962669588179697712 tw11246283323167818583 tw7263694300634624476 tw9595245033538763052 tw12229598052157477974
tw2173870012923159605 tw14924303340701652561 tw10586454329708695605 tw451057645725190120 tw5612827417008900671 tw11124268427619148841 tw14097631004594215888 tw10955222669578874645 tw12540586039256053938 tw14165091693239268163
tw6261325797810953999 tw2764734336253502564 tw7460706376798971505 tw6055780449989745628 tw13240330793150303411 tw13848408661508925032 tw13626776567604087270 tw15003881019928515994 tw17983024142940406001 tw12734215486039288259
tw1996917456384635194 tw8026300589251797506 tw6153032543506142498 tw10359041784650544915 tw1540177182104637835 tw5016512334529800992 tw9674437199528785295 tw16323765105028459938 tw11465830576124452197 tw3559373293165054480
tw585044523840845203 tw5721764728175682271 tw11219984165954515718 tw8462832846756708692 tw52092223103411531 tw15386395862164211301 tw5716046072333132213 tw10601237948280271951 tw12294995524666728651 tw4428673014439239838
tw7188016698037126497 tw3740208498930496501 tw7986427010738406767 tw12887447812580312785 tw12949632284519916234 tw11041972839221133073 tw10567890382456045326 tw15016577587876656190 tw7450392830010877898 tw4153018337778050561
tw16311203158317164761 tw12969366586298181944 tw1676138833895955146 tw13875498622919657524 tw14666783062341180936 tw4892435982484026783 tw5489049936427109552 tw948199806174710786 tw5478554774431499093 tw7586853911918339211
tw1691790020141024164 tw17253586957782913468 tw12123933301148200285 tw16651851415092677928 tw15267251858457944690 tw7449227449079001147 tw10963627256555163541 tw6483118107063230113 tw3277124069663085169 tw14904406224326590882
tw6279082049782308475 tw7919652412980376355 tw8067425869416853836 tw11096775759717485860 tw740443673213849963 tw1062507939201269868 tw7555183994613952205 tw11586176702779256557 tw14084595475030169059 tw10475357640969253998
tw6539751037251643645 tw5433789750168552054 tw8063213324896740109 tw15660568051801837135 tw7389312508469157777 tw3961874207785808910 tw15553275719080250705 tw6613071601237052340 tw9594884095074542266 tw16101701882640285178
tw13737229159137387448:True)
set_option maxRecDepth 100000 in
set_option maxHeartbeats 0 in
theorem PySem.Challenge.cw_dutyproof_k82_whole_nothing_lost_holds : PySem.Challenge.rw_dutyproof_k82_whole_nothing_lost.Holds := by
 w_on;o_law;k_head;(case hw=>w_witness2)
 k_fill
 refine LW.walk (l:=PySem.Challenge.rw_dutyproof_k82_whole_nothing_lost) rfl rfl (λ w h Y=>⟨W.km_in_of Y,W.km_tabs_of Y⟩) ?HC ?F
 case HC=>exact λ w=>by kernel_rfl
 case F =>
  intro w mg fa h KX G hmg
  refine' LW.fin KX G hmg ?aA ?aB ?aD ?aE ?aF ?aG ?aH ?aI ?aJ ?aK ?aL ?aM ?aN ?aO ?aP ?aQ ?aR ?aS ?aT ?aU ?aV ?aW ?aX ?aY ?aZ ?bA ?bB ?bC ?bD ?bE ?bF ?bG ?bH ?bI ?bJ ?bK ?bL ?bM ?bN ?bO ?bP ?bQ ?bR ?bS ?bT ?bU ?bV ?bW ?bX ?bY ?bZ ?cA ?cB ?cC ?cD ?cE ?cF ?cG ?cH ?cI ?cJ ?cL ?cM ?cN ?cO ?cP ?cQ ?cR ?cT ?cU ?cV ?cW ?cX ?cY ?cZ ?dA ?dB ?dC ?dD ?dE ?dF ?dG ?dH ?dI ?dJ ?dK ?dL ?dM ?dN ?dO ?dP ?dQ ?dR ?dS ?dT ?dU ?dV ?dW ?dX ?dY ?dZ ?eA ?eB ?eC ?eD ?eE ?eF ?eG
  (case aA|aB|aD|aE|aF=>k_is)
  (case aG=>exact L4.J1 KX G LW.Jl9)
  (case aH=>exact L4.J1 KX G LW.Jfo)
  (case aI=>exact L4.J1 KX G LW.Jk9)
  (case aJ=>exact L4.J1 KX G LW.Jul)
  (case aK=>exact L4.J1 KX G LW.Jr3)
  (case aL=>exact L4.J1 KX G LW.Jk3)
  (case aM=>exact L4.J1 KX G LW.Jhl)
  (case aN=>exact L4.J1 KX G LW.Jo4)
  (case aO=>exact L4.J1 KX G LW.Jo6)
  (case aP=>exact L4.J1 KX G LW.Jo5)
  (case aQ=>exact L4.J1 KX G LW.Jk5)
  (case aR=>exact L4.J1 KX G LW.Jo8)
  (case aS=>exact L4.J1 KX G LW.Jhm)
  (case aT=>exact L4.J1 KX G LW.Jeo)
  (case aU=>exact L4.J1 KX G LW.Jk7)
  (case aV=>exact L4.J1 KX G LW.Jo9)
  (case aW=>exact L4.J1 KX G LW.Jk6)
  (case aX=>exact L4.J1 KX G LW.J1l)
  (case aY=>exact L4.J1 KX G LW.Jyl)
  (case aZ=>exact L4.J1 KX G LW.Jr4)
  (case bA=>exact L4.J1 KX G LW.Jk8)
  (case bB=>exact L4.J1 KX G LW.Jl8)
  (case bC=>exact L4.J1 KX G LW.Ji4)
  (case bD=>exact L4.J1 KX G LW.Jma)
  (case bE=>exact L4.J1 KX G LW.Jl7)
  (case bF=>exact L4.J1 KX G LW.Jg2)
  (case bG=>exact L4.J1 KX G LW.Jhn)
  (case bH=>exact L4.J1 KX G LW.Ji7)
  (case bI=>exact L4.J1 KX G LW.Ji6)
  (case bJ=>exact L4.J1 KX G LW.Ji5)
  (case bK=>exact L4.J1 KX G LW.Jk4)
  (case bL=>exact L4.J1 KX G LW.Jo7)
  (case bM=>(refine' LW.J0n KX G ?eH ?eI ?eJ ?eK;(case eH|eI|eJ|eK=>k_is)))
  (case bN=>(refine' LW.Jkt ?eL ?eM ?eN ?eO ?eP ?eQ ?eR ?eS;(case eL|eM|eN|eO|eP|eQ|eR|eS=>k_is)))
  (case bO=>exact L4.JX LW.Jk1)
  (case bP=>(refine' LW.Yk ?eT ?eU ?eV ?eW ?eX ?eY ?eZ ?fA ?fB ?fC ?fD ?fE ?fF ?fG ?fH ?fI ?fJ ?fK ?fL ?fM ?fN ?fO ?fP ?fQ ?fR ?fS ?fT ?fU;(case eT|eU|eV|eW|eX|eY|eZ|fA|fB|fC|fD|fE|fF|fG|fH|fI|fJ|fK|fL|fM|fN|fO|fP|fQ|fR|fS|fT|fU=>k_is)))
  (case bQ=>exact L4.Jua LW.Jiz)
  (case bR=>exact L4.JX LW.Jdo)
  (case bS=>exact L4.JX LW.Jg1)
  (case bT=>exact L4.JX LW.Jem)
  (case bU=>exact L4.JX LW.Ji0)
  (case bV=>exact L4.JX LW.Jhk)
  (case bW=>(refine' LW.Yk ?fV ?fW ?fX ?fY ?fZ ?gA ?gB ?gC ?gD ?gE ?gF ?gG ?gH ?gI ?gJ ?gK ?gL ?gM ?gN ?gO ?gP ?gQ ?gR ?gS ?gT ?gU ?gV ?gW;(case fV|fW|fX|fY|fZ|gA|gB|gC|gD|gE|gF|gG|gH|gI|gJ|gK|gL|gM|gN|gO|gP|gQ|gR|gS|gT|gU|gV|gW=>k_is)))
  (case bX=>exact L4.Jua LW.Jky)
  (case bY=>exact L4.JX LW.Jkz)
  (case bZ=>exact L4.JX LW.Jk0)
  (case cA=>exact L4.JX LW.Ji2)
  (case cB=>(refine' LW.Yk ?gX ?gY ?gZ ?iA ?iB ?iC ?iD ?iE ?iF ?iG ?iH ?iI ?iJ ?iK ?iL ?iM ?iN ?iO ?iP ?iQ ?iR ?iS ?iT ?iU ?iV ?iW ?iX ?iY;(case gX|gY|gZ|iA|iB|iC|iD|iE|iF|iG|iH|iI|iJ|iK|iL|iM|iN|iO|iP|iQ|iR|iS|iT|iU|iV|iW|iX|iY=>k_is)))
  (case cC=>exact L4.Jua LW.Ji3)
  (case cD=>exact L4.JX LW.Jfn)
  (case cE=>exact L4.JX LW.Jdb)
  (case cF=>exact L4.JX LW.Jen)
  (case cG=>exact L4.JX LW.Jbd)
  (case cH=>(refine' LW.Yk ?iZ ?jA ?jB ?jC ?jD ?jE ?jF ?jG ?jH ?jI ?jJ ?jK ?jL ?jM ?jN ?jO ?jP ?jQ ?jR ?jS ?jT ?jU ?jV ?jW ?jX ?jY ?jZ ?lA;(case iZ|jA|jB|jC|jD|jE|jF|jG|jH|jI|jJ|jK|jL|jM|jN|jO|jP|jQ|jR|jS|jT|jU|jV|jW|jX|jY|jZ|lA=>k_is)))
  (case cI=>exact L4.Jua LW.Ji1)
  (case cJ=>exact L4.JX LW.Jfm)
  (case cL=>exact L4.JX LW.Jdb)
  (case cM=>exact L4.JX LW.Jen)
  (case cN=>exact L4.JX LW.Jbd)
  (case cO=>(refine' LW.Yk ?lB ?lC ?lD ?lE ?lF ?lG ?lH ?lI ?lJ ?lK ?lL ?lM ?lN ?lO ?lP ?lQ ?lR ?lS ?lT ?lU ?lV ?lW ?lX ?lY ?lZ ?mA ?mB ?mC;(case lB|lC|lD|lE|lF|lG|lH|lI|lJ|lK|lL|lM|lN|lO|lP|lQ|lR|lS|lT|lU|lV|lW|lX|lY|lZ|mA|mB|mC=>k_is)))
  (case cP|cQ|cR|cT|cU|cV|cW|cX|cY|cZ|dA|dB|dC|dD|dE=>k_is)
  (case dF|dG|dH|dI|dJ|dK|dL|dM|dN|dO|dP|dQ=>kernel_rfl)
  (case dR|dS|dT|dU|dV|dW|dX|dY|dZ|eA|eB|eC|eD|eE|eF=>k_is)
  (case eG=>(refine' LW.J0m ?mD ?mE ?mF ?mG ?mH;(case mD|mE|mF|mG|mH=>k_is)))

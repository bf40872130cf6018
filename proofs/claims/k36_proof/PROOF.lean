import PyProof.Rows.All
import Wide.All
import OpenK.AllK
import Wide.FinOn
import Lean
import PyProof.EqAt
import PyProof.EqKinds
import PyProof.TupleCall
import PyProof.ExcBaseAll.ValueError
import PyProof.ExcAttrAll.ValueError
import PyProof.NsDelKeeps
import PySem.Challenge.RW_dutyproof_k36_rows_refused
open Option renaming some→J,none→Zc,map_eq_some_iff→Z3,isSome_iff_exists→ZaR,bind_eq_some_iff→ZdS
open PySem renaming wpAny_bind→Zb,Value→Zh,wpAny_pure→Zk,Shared→Zl,Addr→Zm,mainGlobals→Zn,wpAny→Zv,model→Zy,Program→Z7,starEach→Z9,Around→ZI,wpAny_holding→ZO,wpAny_Call_Name_kw→ZT,World→ZU,wpAny_mono→Zaf,codeAny_builtin→Zai,mem_of_lookup→Zak,Heap→Zam,compareOp→Za0,plainId_quiet→Za7,sizeLine_eq→Za8,rawInt→Za9,wpAny_setField→ZaF,wpAny_tryCatch→ZaG,FuncData→ZaK,assignEach→ZaL,wpAny_pyIter_list→ZaO,eval→ZaQ,wpAny_standAt→ZaS,binaryOp→ZaW,codeAny_call_builtin→ZaX,backTo→Zbh,NameKind→Zbj,Scope→Zbm,Builtin→Zbp,wpAny_truthy_bool→Zbq,scanBound→Zbr,Spec→Zbt,bootBuiltins→Zbu,wpAny_call_entry→Zbw,wpAny_seqItems→Zb1,codeAny_mono→ZbA,wpAny_newObj_type→ZbB,wpAny_letGo→ZbE,wpAny_setState_of→ZbG,codeAny→ZbI,wpAny_setEntries_of→ZbJ,wpAny_getItem_str_slice→ZbL,wpAny_askSetting→ZbN,wpAny_callSpecial?_slot→ZbO,wpAny_updateSeq→ZbT,Arguments→ZbW,wpAny_newList→ZbX,holding→Zcb,foldedSetIterable→Zcd,wpAny_loadPart_at→Zce,Stmt→Zcg,wpAny_field→Zch,keywordEach→Zci,PyData→Zco,attributeBase→Zcq,behindInMarks→Zcs,wpAny_attempt→Zct,ExceptHandler→Zcu,intKind→Zcw,Operator→Zcx,wpAny_loadPart'→Zc0,wpAny_execs_nil→Zc1,sysModules→Zc3,builtinsNs→Zc4,wpAny_call→Zc5,wpAny_rule→Zc8,sliceBounds→ZcB,BindsTo→ZcG,plainObj_wpAny_Assign_Attribute→ZcM,builtinLookup_eq_fast→ZcN,swapsWith→ZcT,letOwnedTupleGo→Zdb,codeAny_of_tree→Zdc,post_val_or_str→Zdf,getMethod→Zdr,pyNext→Zdu,pyIter→Zdv,backToKw→Zdy,wpAny_runValue→Zd0,wpAny_fieldsOf→Zd4,excClassObj→Zd7,fits_of_scanBound→ZdB,strKind→ZdG,GenState→ZdL,codeAmong→ZdO,lastMarks→ZdP,wpAny_isInstance→ZdU,wpAny_pyNext_list_item→Zeb,Result→Zec,Keyword→Zed,getItem→Zef,call_meets→Zeg,standAt→Zeh,assign→Zei,typeOf→Zej,argsOk→Zel,ExcBaseFacts→Zep,setNext→Zes,typeLookup_type→Zex,wpAny_pyNext_list_end→Zey,weight_type_call_type→Ze0,wpAny_loadPart→Ze4,bindArgs→Ze5,seqIndex_of→Ze7,subscripted→Ze8,richCompare→Ze9,wpAny_of_eq→ZeA,intText?→ZeD,hashInt→ZeF,callerA→ZeG,noteFrame→ZeH,setFlight→ZeI,pickOrder→ZeK,assignInOrder→ZeN,typeLookup→ZeR,closureFor→ZeT,intKind_is→ZeU,Within→ZeV,seqIndex_neg→ZeW,valueAt→ZeX,callWith→ZeZ,wpAny_typeOf→Zfa,relayAll→Zfe,IsPart→Zfi,strValues→Zfj,seqItems?→Zfk
open List renaming getElem?_eq_getElem→Zd,length_map→Zj,getElem?_eq_some_iff→Zo,mem_append_right→Zp,mem_cons_of_mem→Zr,getD_eq_getElem?_getD→Zx,length_append→Z0,mem_singleton→Z2,getElem?_map→Z4,getElem_mem→Z5,mem_map→Z6,getElem?_append_left→Z8,mem_cons→ZA,mem_cons_self→ZB,getElem?_set_ne→ZC,replicate→ZD,getElem?_set_self→ZE,getElem?_append_right→ZK,map_cons→ZL,range→ZR,size_toArray→ZV,getElem_map→ZX,mem_append→ZZ,append_assoc→Zaa,mem_iff_getElem→Zab,cons_append→Zac,not_mem_nil→Zad,map_map→Zah,lookup_cons→Zan,all_cons→Zap,length_cons→Zar,eq_nil_of_length_eq_zero→Zat,nil_append→Zav,mem_range→Zaw,mem_append_left→Zax,set_append_left→Za3,drop_eq_getElem_cons→Za4,mapM_cons→Za5,length_singleton→ZaA,getElem?_eq_none→ZaC,toArray→ZaE,length_take→ZaH,all_eq_true→ZaY,take_of_length_le→Zba,length_range→Zbc,take_succ_eq_append_getElem→Zbd,mem_filter→Zbe,length_set→Zbg,length_filter_le→Zbk,ext_getElem→Zbl,ext_getElem?→Zbs,length_replicate→Zb3,findIdx?_eq_none_iff→Zb5,mem_of_getElem?→Zb9,getElem?_replicate→ZbK,length_eq_zero_iff→ZbQ,append_nil→ZbS,map_append→ZbU,any_eq_false→ZbZ,reverse_cons→Zca,any_cons→Zcr,nodup_cons→Zcz,getElem_range→ZcA,findIdx?_eq_some_iff_getElem→ZcE,drop_eq_nil_of_le→ZcI,drop_of_length_le→ZcL,getElem_inj→ZcP,length_drop→ZcQ,any_eq_true→ZcU,filter_cons→ZcV,lookup→ZcY,filterMap_cons→Zdh,getElem?_range→Zdi,length_reverse→Zdk,map_congr_left→Zdl,length_eraseIdx_of_lt→Zd3,set_cons_zero→Zd5,pairwise_map→ZdA,length_erase_of_mem→ZdJ,take_length→ZdW,nodup_range→ZdY,filter_cons_of_pos→ZdZ,filter_cons_of_neg→Zea,pairwise_lt_range→Zer,set_set→Zet,map_nil→Zeu,of_mem_zip→Zew,getElem?_toArray→Zez,dropLast_eq_take→Ze3,map_drop→ZeP,map_take→ZeQ,map_id'→Zfg
open PySem.Heap renaming get?_push_of_some→Ze,get?_push_size→Zs,lt_size→Zu,get?_update_other→Zw,get?_update_self→Zae,SameBut→Zbo,size_push→Zby,get?_none_of_le→Zcf,ExtBut→ZcC,get?_update_ne→Zdj,get?_push_at→Zd8,MadeExcOf→ZeE
open Bool renaming true→Zg,false→Zi,false_ne_true→Zt,and_eq_true→Zz,false_eq_true→Zb0,or_eq_true→Zb8,eq_false_iff→ZbC,not_eq_true'→ZbD,and_eq_true_iff→ZbF,eq_iff_iff→Zcy
open Nat renaming le_refl→Zq,ne_of_lt→Z1,lt_of_lt_of_le→ZF,le_trans→ZM,zero_le→ZN,lt_succ_self→Zau,le_succ→Zay,ne_of_gt→ZaT,lt_succ_of_lt→Zbb,le_of_lt→Zbn,lt_irrefl→ZbV,add_right_cancel→Zcl,eq_zero_or_pos→Zc9,le_of_eq→ZcF,le_of_ble_eq_true→ZcO,succ_le_succ→ZcR,le_of_not_lt→ZcS,lt_of_le_of_lt→Zd2,add_sub_cancel_left→ZdQ,sub_self→Zev,add_assoc→ZeO,lt_trans→ZeY,ble→Zfn
open Int renaming emod_lt_of_pos→ZG,emod_nonneg→ZQ,toNat_natCast→ZaP,toNat→Zbx,ofNat_inj→ZcX,le_refl→ZcZ,mul_le_mul_of_nonneg_left→Zda
open PySem.PyData renaming canLay0→ZH,canLayAll0→ZJ,eqvAll→Zbv,eqv→Zbz,tuple→Zdq,list→Zd6,strOk→Zfh
open Ne renaming symm→ZP
open PySem.Obj renaming data_mapFields→ZS,mapSeq→Zag,mapFields→Zao,isFreed_of_fields→ZaB,cls_mapFields→Zcc
open PySem.Str renaming ofString→ZW,empty→Zb7,length_append→ZdC,length→ZeS
open PyProof.Rows renaming seqObj→ZY,callWith_type1→ZaD,callWith_builtin1→ZaI,IntsAre→ZaZ,get?_update_seq→Zbf,evalAll_cons→Zbi,signs→Zb2,evalAll_nil→ZbH,spliced_more→Zcm,spliced_none→Zcn,listUpdate_at→Zcv,size_push'→Zc7,subscriptTail_builtinR→ZcH,AllBare→Zdm,call_function_entry_kw→Zeq,envOfC→Ze6,callWith_kw→ZeC,subscriptTail→ZeM,plain_sorted→Zfb,entry_sorted→Zfc
open PySem.Value renaming none→Zaj,ref→Zb6,type→Zc2,builtin→ZcW,bool→Zds,int→ZdK
open Array renaming length_toList→Zal,getElem?_eq_some_iff→Za1,getElem?_eq_getElem→Zb4,getElem?_toList→ZbY,getElem?_eq_none→ZcK,getD_eq_getD_getElem?→Zdn,find?_toList→Zdw,getD→Zd1,toList_push→Zd9,all_toList→ZdX
open True renaming intro→Zaq
open Option.some renaming inj→Zas
open PySem.SetTable renaming below→Zaz,grown→ZbM,has→Zfd
open PySem.Around renaming under_plainId→Za2
open PySem.NameKind renaming free→Za6,cell→ZdF
open PySem.F renaming plain_max_loop→ZaJ,plain_list_iadd→ZbP,excBase_ValueError→Zcj,plainAttrs_list→ZcD,entry_max_loop→ZcJ,slot_dict_setdefault→Zde,entry_proto_collect→Zdo,sub_list_frozenset→Zdz,args_tuple_add_2→ZdD,entry_tuple_add→ZdN,entry_type_call→ZdR,entry_list_iadd→ZdV,slot_tuple_add→Zee,typeCall_set_1→Zem,entry_set_init→Zen,slot_set_iter→Ze2
open PyProof.Rows.F renaming entry_set_update_loop→ZaM,plain_set_update_loop→Zcp
open PySem.Heap.SameBut renaming update→ZaN
open ForInStep renaming yield→ZaU
open False renaming elim→ZaV
open PySem.Code renaming quiet_builtin→ZbR
open List.Perm renaming refl→Zck
open PySem.Walks renaming list→Zc6
open PySem.Builtin.Frozenset renaming updateFrom→Zdd
open List.cons renaming injEq→Zdg
open PySem.Builtin.List renaming listExtendWith→Zdp,listTooLong→ZdE,listSameRef→ZdI
open PySem.Calls renaming Name_function_global→Zdt,spliced_cons→Zdx,callWith_builtin→Zek
open PySem.Shared renaming TypeIs→ZdH
open PySem.Builtin.Range renaming rangeSize→ZdM
open PySem.W renaming kas_sort→ZdT
open PySem.Txt renaming slice_le→Zeo,slice→ZeJ
open List.Pairwise renaming sublist→Ze1
open PyProof.Rows.IntsAre renaming int_at→ZeB
open PySem.Paired renaming length→ZeL
open PySem.pickOrder renaming go→Zff
open Sum renaming inl→Zfl,inr→Zfm
noncomputable section
set_option compiler.extract_closed false
set_option bootstrap.genMatcherCode false
set_option genSizeOf false
set_option Elab.async false
set_option linter.all false
set_option maxRecDepth 100000
abbrev CeT:=PySem.Str->Option PySem.Addr
abbrev QvT:=PySem.Value->PySem.Shared->Prop
abbrev PnT:=List<|PySem.Addr×PySem.Obj
theorem Zf{p:Prop}(h:False):p:=h.elim
local macro_rules|`(#[$a,$b,$c,*])=>`(⟨$a,$b,$c,*⟩)|`(#[$a,$b])=>`(⟨$a,$b⟩)
local macro_rules|`(00)=>`(by omega)|`(01)=>`(by decide)|`(02)=>`(by kernel_rfl)|`(03)=>`(by simp)|`(04)=>`(by rfl)|`(05)=>`(by lia)
namespace L2
open PySem PySem.Spec PyProof.Rows
abbrev _root_.Wa:=List<|Nat×Int×Int
abbrev _root_.Wb:=Array<|Option Zh
abbrev _root_.Wc:=Option<|Int×Int
abbrev _root_.Wg:=Option<|Zh×Nat
abbrev _root_.Wh:=List<|Str×Zbj
abbrev _root_.Wi:=List<|Int×Tok
abbrev _root_.Wj:=Array<|Int×Zh
abbrev _root_.Wl:=List<|Str×Zh
abbrev _root_.Wo:=List<|Str×Zm
abbrev _root_.Wp:=List<|Int×Zh
abbrev _root_.Wv:=Option Expr
abbrev _root_.Ww:=Option Bool
abbrev _root_.Wx:=Option Str
abbrev _root_.Wy:=Option Zbj
abbrev _root_.Wz:=Option Int
abbrev _root_.Ta:=Option Nat
abbrev _root_.Tc:=Option Zh
abbrev _root_.Td:=Array ZdL
abbrev _root_.Te:=Option Zm
abbrev _root_.Tf:=List Expr
abbrev _root_.Th:=Array Nat
abbrev _root_.Tk:=Array Zh
abbrev _root_.Tl:=List Str
abbrev _root_.Tn:=List Env
abbrev _root_.To:=List Zcg
abbrev _root_.Tp:=List Zed
abbrev _root_.Tq:=List Int
abbrev _root_.Tr:=List Nat
abbrev _root_.Tt:=List Zcu
abbrev _root_.Tv:=List Zh
abbrev _root_.Tw:=List Zm
abbrev Key:=Sum Int Str
def XG:Key->Zh->Bool|.inl k,v=>Value.isInt k v|.inr x,v=>Value.isStrOf x v
def keyH(w:ZU):Key->Int|.inl k=>ZeF k|.inr x=>hashStr w x
theorem V3:∀{k:Key}{v:Zh},XG k v=Zg->(∃i t,k=Zfl i/\v=ZdK i t)\/(∃x t,k=Zfm x/\v=Value.str x t)|.inl i,v,h=>by obtain⟨t,e⟩:=Value.isInt_shape h;exact .inl #[i,t,rfl,e]|.inr x,v,h=>by obtain⟨t,e⟩:=Value.isStrOf_shape h;exact .inr #[x,t,rfl,e]
theorem Jss(i:Int)(t:Tok):XG (.inl i) (.int i t)=Zg:=by simp[XG,Value.isInt]
theorem Jst(x:Str)(t:Tok):XG (.inr x) (.str x t)=Zg:=by simp[XG,Value.isStrOf]
theorem J3m(a b:Int):decide ((Zfl a:Key)=Zfl b)=(a==b):=05
theorem J3p(a b:Str):decide ((Zfm a:Key)=Zfm b)=decide (a=b):=05
theorem J3n(a:Int)(b:Str):decide ((Zfl a:Key)=Zfm b)=Zi:=decide_eq_false λq=>nomatch q
theorem J3o(a:Str)(b:Int):decide ((Zfm a:Key)=Zfl b)=Zi:=decide_eq_false λq=>nomatch q
def Vq(prog:Z7)(w:ZU):PySem.KeyKind prog w Key where
 is:=XG
 hash:=keyH w
 inj:=λv a b ha hb=>by
  rcases V3 ha with⟨i,t,rfl,rfl⟩|⟨x,t,rfl,rfl⟩
  .rcases V3 hb with⟨j,u,rfl,e⟩|⟨y,u,rfl,e⟩
   .injection e with e1 _;rw[e1]
   .exact nomatch e
  .rcases V3 hb with⟨j,u,rfl,e⟩|⟨y,u,rfl,e⟩
   .exact nomatch e
   .injection e with e1 _;rw[e1]
 byValue:=λk v h=>by rcases V3 h with⟨i,t,rfl,rfl⟩|⟨x,t,rfl,rfl⟩<;>rfl
 pyHash:=λhv h=>by
  rcases V3 hv with⟨i,t,rfl,rfl⟩|⟨x,t,rfl,rfl⟩
  .exact wpAny_pyHash_int h
  .exact wpAny_pyHash_str h
 eqBool:=λhu hv h=>by
  rcases V3 hu with⟨i,t,rfl,rfl⟩|⟨x,t,rfl,rfl⟩
  .rcases V3 hv with⟨j,u,rfl,rfl⟩|⟨y,u,rfl,rfl⟩
   .rw[J3m]at h;exact wpAny_eqBool_int h
   .rw[J3n]at h;exact SeqAt.EqAt.int_str i t y u _ _ _ _ h
  .rcases V3 hv with⟨j,u,rfl,rfl⟩|⟨y,u,rfl,rfl⟩
   .rw[J3o]at h;exact SeqAt.EqAt.str_int x t j u _ _ _ _ h
   .rw[J3p]at h;exact wpAny_eqBool_str h
 «strs» :=λk x t v h=>by
  rcases V3 h with⟨i,u,rfl,e⟩|⟨y,u,rfl,e⟩
  .exact nomatch e
  .injection e with e1 _
   subst e1;cases v<;>rfl
theorem Jno(prog:Z7)(w:ZU)(i:Int)(t:Tok):(Vq prog w).is (.inl i) (.int i t)=Zg:=Jss i t
theorem Jnp(prog:Z7)(w:ZU)(x:Str)(t:Tok):(Vq prog w).is (.inr x) (.str x t)=Zg:=Jst x t
inductive hV where|non|bl (b:Bool)|int (i:Int)|str (x:Str)|byt (b:Array UInt8)|flt (b:UInt64)|ref (a:Zm)|ty (n:String)
 deriving DecidableEq
abbrev _root_.Wd:=List<|Option hV
abbrev _root_.Wt:=List<|Key×hV
abbrev _root_.Wu:=List<|Str×hV
abbrev _root_.Tj:=Option hV
abbrev _root_.Ud:=List hV
def RelV:hV->Zh->Prop|.non,u=>u=Zaj|.bl b,u=>u=Zds b|.int i,u=>∃t,u=ZdK i t|.str x,u=>∃t,u=Value.str x t|.byt b,u=>∃t,u=Value.bytes b t|.flt b,u=>∃t,u=Value.float b t|.ref a,u=>u=Zb6 a|.ty n,u=>u=Zc2 n
abbrev Vals:Ud->Tv->Prop:=Paired RelV
theorem Vals.length{xs:Ud}{us:Tv}(r:Vals xs us):xs.length=us.length:=ZeL r
theorem Vals.get:∀{xs:Ud}{us:Tv}{i:Nat}{x:hV},Vals xs us->xs[i]?=J x->∃u,us[i]?=J u/\RelV x u
 |_,_,_,_,.nil,e=>by simp at e
 |_,_,0,_,.cons r _,e=>by simp at e;subst e;exact#[_,rfl,r]
 |_,_,i+1,x,.cons _ t,e=>by
  obtain⟨u,j,L⟩:=Vals.get t<|by simpa using e
  exact#[u,by simpa using j,L]
theorem Vals.set{x:hV}{u:Zh}(r:RelV x u):∀{xs:Ud}{us:Tv}(i:Nat),Vals xs us->Vals (xs.set i x) (us.set i u)
 |_,_,_,.nil=>.nil
 |_,_,0,.cons _ t=>.cons r t
 |_,_,i+1,.cons q t=>.cons q<|Vals.set r i t
theorem Vals.append:∀{xs ys:Ud}{us ws:Tv},Vals xs us->Vals ys ws->Vals (xs++ys) (us++ws)|_,_,_,_,.nil,s=>s|_,_,_,_,.cons r t,s=>.cons r<|Vals.append t s
theorem Vals.take:∀{xs:Ud}{us:Tv}(n:Nat),Vals xs us->Vals (xs.take n) (us.take n)|_,_,0,_=>.nil|_,_,_+1,.nil=>.nil|_,_,n+1,.cons r t=>.cons r<|Vals.take n t
theorem Vals.drop:∀{xs:Ud}{us:Tv}(n:Nat),Vals xs us->Vals (xs.drop n) (us.drop n)|_,_,0,r=>r|_,_,_+1,.nil=>.nil|_,_,n+1,.cons _ t=>Vals.drop n t
def RelO:Tj->Tc->Prop|some v,J u=>RelV v u|none,Zc=>True|_,_=>False
def KV{κ:Type}:List (κ×hV)->List (κ×Zh)->Prop:=Paired λ(p:κ×hV)(q:κ×Zh)=>p.1=q.1/\RelV p.2 q.2
noncomputable def kV:Key->hV|.inl i=>.int i|.inr x=>.str x
inductive HO where
 /-- a list -/
 |lst (xs:Ud)
 /-- a tuple (never changes) -/
 |tup (xs:Ud)
 /-- a dict whose keys are ints and texts; one whose keys are tuples of ints and texts (the empty one is both) -/
 |dK (kvs:Wt)|dT (kvs:List (List Key×hV))
 /-- a set of ints: its members,its size -/
 |set (S:Int->Bool) (n:Nat)
 /-- an instance of the class at C,its dict at dx,its attributes -/
 |ins (C dx:Zm) (fs:Wu)
 /-- the dict of the instance at x -/
 |own (x:Zm)
 /-- the dict of an exception -/
 |xd (fs:Wu)
 /-- a bound method,f of x -/
 |met (f x:Zm)
 /-- a range object lo,lo + 1,.. below hi -/
 |rng (lo hi:Int)
 /-- a thing that is known to the object (the script; a dict while a loop walks it): read,never written while it is so -/
 |frz (o:Obj) (u:HO)
 /-- a code object's table -/
 |tbl (ps:Tk)
 /-- any other thing,by what is Zg of its one object (a def of one's own: SetO a S n:= HO.ext λh=> ..) -/
 |ext (φ:Zam->Prop)
abbrev Hp:=Zm->Option HO
def upd(H:Hp)(a:Zm)(o:HO):Hp:=λb=>if b=a then J o else H b
theorem J2{H:Hp}{a:Zm}{o:HO}:upd H a o a=J o:=by unfold upd;rw[if_pos rfl]
theorem Jo{H:Hp}{a b:Zm}{o:HO}(h:b≠a):upd H a o b=H b:=by unfold upd;rw[if_neg h]
theorem Vr{H:Hp}{a b:Zm}{o:HO}(h:H a=J o)(h':H b=Zc):a≠b:=05
section
variable(P:Z7)(w:ZU)
def JU(H:Hp)(h:Zam)(a:Zm):HO->Prop|.lst xs=>xs.length<=sizeLine/\∃(its:Tv) (n:Nat),Vals xs its/\h.get? a=J {cls:=.type "list",data:=.seq its.toArray n}|.tup xs=>xs.length<=sizeLine/\∃its:Tv,Vals xs its/\IsTup h a its.toArray|.dK kvs=>kvs.length<=sizeLine/\(a==Zc3)=Zi/\∃O,KV kvs O/\h.DictOf (Vq P w) a O|.dT kvs=>kvs.length<=sizeLine/\(a==Zc3)=Zi/\∃xs:List<|List Key×Zm×Zh,Paired (λ(p:List Key×hV)(q:List Key×Zm×Zh)=>p.1=q.1/\H q.2.1=J (.tup<|p.1.map kV)/\RelV p.2 q.2.2) kvs xs /\ ∃o es ep,h.get? a=J o/\o.ExactDict/\o.data=.dict es ep/\es.toList=xs.map (entryOfKey<|tupleKind<|Vq P w)/\(xs.map (·.1)).Nodup|.set S n=>h.SetOf (intKind P w) a S n|.ins C dx fs=>H dx=J (.own a)/\fs.length<=1000/\dx≠a/\h.get? a=J (W.instObj C dx) /\ ∃mA,h.Ns1 dx mA/\(∀f,RelO (fs.lookup f)<|mA f)/\ZeV mA (fs.map (·.1))|.own _=>∃o,h.get? a=J o|.xd fs=>∃mA,h.Ns1 a mA/\∀f,RelO (fs.lookup f)<|mA f|.rng lo hi=>∃t u v,h.get? a=J {cls:=.type "range",data:=.fields (ZaE [.int lo t,.int hi u,.int 1 v])}|.frz o u=>h.get? a=J o/\JU H h a u|.tbl ps=>h.get? a=J {cls:=.none,data:=.fields ps}|.met f x=>h.get? a=J (W.methodObj (.ref f)<|.ref x)|.ext φ=>φ h/\(∃o,h.get? a=J o)/\∀h1 L:Zam,φ h1->(∀o,h1.get? a=J o->L.get? a=J o)->φ L
def HOk(H:Hp)(h:Zam):Prop:=∀a o,H a=J o->JU P w H h a o
end
section
variable{P:Z7}{w:ZU}{H H':Hp}{h h':Zam}{a:Zm}{o:HO}
theorem JU.lt(x:JU P w H h a o):a<h.objs.size:=by cases o with|lst xs=>obtain⟨_,_,_,_,e⟩:=x;exact Zu e|tup xs=>obtain⟨_,_,_,p⟩:=x;exact p.lt|dK j=>obtain⟨_,_,_,_,o,_,_,e,_⟩:=x;exact Zu e|dT j=>obtain⟨_,_,_,_,o,_,_,e,_⟩:=x;exact Zu e|set S n=>obtain⟨o,_,_,_,e,_⟩:=x;exact Zu e|ins C m fs=>obtain⟨_,_,_,e,_⟩:=x;exact Zu e|own y=>obtain⟨_,e⟩:=x;exact Zu e|xd fs=>obtain⟨_,⟨_,_,_,e,_⟩,_⟩:=x;exact Zu e|rng B D=>obtain⟨_,_,_,e⟩:=x;exact Zu e|frz k u=>obtain⟨e,_⟩:=x;exact Zu e|tbl ps=>exact Zu<|x|met f y=>exact Zu<|x|ext φ=>obtain⟨_,⟨_,e⟩,_⟩:=x;exact Zu e
theorem Paired.mapP{α β:Type}{F G:α->β->Prop}:∀{l₁:List α}{l₂:List β},Paired F l₁ l₂->(∀a b,F a b->G a b)->Paired G l₁ l₂|_,_,.nil,_=>.nil|_,_,.cons r t,f=>.cons (f _ _ r)<|Paired.mapP t f
theorem JU.stay(x:JU P w H h a o)(k:∀b u,(b=a\/H b=J (.own a))->h.get? b=J u->h'.get? b=J u) (Q:∀b,H b=J (.own a)->H' b=J (.own a))(L:∀b xs,H b=J (.tup xs)->H' b=J (.tup xs)):JU P w H' h' a o:=by induction o with|lst xs=>obtain⟨z,D,n,r,e⟩:=x;exact#[z,D,n,r,k _ _ (.inl rfl) e]|tup xs=>obtain⟨z,D,r,j,e,c⟩:=x;exact#[z,D,r,j,k _ _ (.inl rfl) e,c]|dK G=>obtain⟨z,y,O,r,j,m,B,e,c⟩:=x;exact#[z,y,O,r,j,m,B,k _ _ (.inl rfl) e,c]|dT G=>obtain⟨z,y,xs,r,j,m,B,e,c⟩:=x;exact#[z,y,xs,Paired.mapP r λp q z=>#[z.1,L _ _ z.2.1,z.2.2],j,m,B,k _ _ (.inl rfl) e,c]|set S n=>obtain⟨j,m,B,t,e,c⟩:=x;exact#[j,m,B,t,k _ _ (.inl rfl) e,c]|ins C V fs=>obtain⟨d,z,ne,e,E,⟨F,m,B,I,c⟩,r⟩:=x;exact#[Q _ d,z,ne,k _ _ (.inl rfl) e,E,#[F,m,B,k _ _ (.inr d) I,c],r]|own y=>obtain⟨j,e⟩:=x;exact#[j,k _ _ (.inl rfl) e]|xd fs=>obtain⟨E,⟨F,m,B,e,c⟩,r⟩:=x;exact#[E,#[F,m,B,k _ _ (.inl rfl) e,c],r]|rng R U=>obtain⟨t,u,v,e⟩:=x;exact#[t,u,v,k _ _ (.inl rfl) e]|frz j u M=>obtain⟨e,q⟩:=x;exact#[k _ _ (.inl rfl) e,M q]|tbl ps=>have e:=x;exact k a _ (.inl rfl) e|met f y=>have e:=x;exact k a _ (.inl rfl) e|ext φ=>obtain⟨p,⟨o,e⟩,st⟩:=x;exact#[st _ _ p λo q=>k _ _ (.inl rfl) q,#[o,k _ _ (.inl rfl) e],st]
theorem HOk.lt(x:HOk P w H h)(e:H a=J o):a<h.objs.size:=(x a o e).lt
theorem HOk.fresh(x:HOk P w H h)(e:h.objs.size<=a):H a=Zc:=by cases q:H a with|none=>rfl|some u=>exact absurd (ZF (x.lt q) e)<|ZbV _
theorem HOk.kept(x:HOk P w H h)(k:∀b u,h.get? b=J u->h'.get? b=J u):HOk P w H h':=λa o e=>
 (x a o e).stay (λb u _ q=>k b u q) (λ_ q=>q) λ_ _ q=>q
theorem HOk.laid(x:HOk P w H h)(k:∀b u,h.get? b=J u->h'.get? b=J u)(hp:h.objs.size<=a)(new:JU P w (upd H a o) h' a o):HOk P w (upd H a o) h':=λb u e=>by
 have hn:=x.fresh hp;by_cases j:b=a
 .subst j;rw[J2]at e;cases e;exact new
 .rw[Jo j]at e;exact(x b u e).stay (λc v _ q=>k c v q) (λc q=>by rw[Jo<|Vr q hn];exact q) λc xs q=>by rw[Jo<|Vr q hn];exact q
end
def Rd(H:Hp)(a:Zm)(u:HO):Prop:=H a=J u\/∃o,H a=J (.frz o u)
theorem Rd.of{H:Hp}{a:Zm}{u:HO}(h:H a=J u):Rd H a u:=.inl h
theorem Rd.ok{P:Z7}{w:ZU}{H:Hp}{h:Zam}{a:Zm}{u:HO}(r:Rd H a u)(x:HOk P w H h):JU P w H h a u:=by
 rcases r with r|⟨o,r⟩
 .exact x a u r
 .obtain⟨_,q⟩:=x a _ r;exact q
def Mut:Option HO->Prop|some (.lst _)=>True|some (.dK _)=>True|some (.dT _)=>True|some (.set _ _)=>True|some (.ins _ _ _)=>True|some (.ext _)=>True|_=>False
section
variable{P:Z7}{w:ZU}{H:Hp}{h h':Zam}{x e:Zm}{o':HO}
theorem HOk.write(ok:HOk P w H h)(C:Mut<|H x)(I:e=x\/H e=J (.own x))(k:∀b u,b≠e->h.get? b=J u->h'.get? b=J u)(E:∃u,h'.get? e=J u)
  (new:JU P w (upd H x o') h' x o'):HOk P w (upd H x o') h':=λb u q=>by
 have j:∀c y,H c=J (.own y)->c≠x:=λc y r z=>by subst z;rw[r]at C;exact C
 have B:∀c xs,H c=J (.tup xs)->c≠x:=λc xs r z=>by subst z;rw[r]at C;exact C
 by_cases G:b=x
 .subst G;rw[J2]at q;cases q;exact new
 .rw[Jo G]at q;by_cases m:b=e
  .have F:H b=J (.own x):=by
    rcases I with z|z
    .lia
    .rw[m];exact z
   rw[q]at F;cases F;obtain⟨v,hv⟩:=E;exact#[v,by rw[m];exact hv]
  .refine(ok b u q).stay (λc v D r=>k c v ?_ r) (λc r=>by rw[Jo<|j c b r];exact r) λc xs r=>by rw[Jo<|B c xs r];exact r
   rcases D with rfl|D
   .exact m
   .rintro rfl;rcases I with z|z
    .exact j c b D z
    .simp_all
end
structure Un(fs ex:Tw)(H H':Hp)(h h':Zam):Prop where
 keep:∀b o,h.get? b=J o->H b=Zc->b∉fs->b∉ex->h'.get? b=J o
 slot:∀b o,h.get? b=J o->H b=Zc->b∈fs->b∉ex->∃sl,h'.get? b=J {o with slots:=sl}
 free:∀b o,h.get? b=J o->H b=Zc->b∉ex->H' b=Zc
 there:∀b o,h.get? b=J o->b∉ex->∃o',h'.get? b=J o'
 tups:∀b xs,H b=J (.tup xs)->H' b=J (.tup xs)
 frzs:∀b o u,H b=J (.frz o u)->H' b=J (.frz o u)
 tbls:∀b ps,H b=J (.tbl ps)->∃more,H' b=J (.tbl<|ps++more)
section
variable{fs fs' ex ex':Tw}{H H1 H2:Hp}{h h1 L h':Zam}{a x e:Zm}{o:HO}
theorem Un.any(u:Un fs ex H H1 h h1){b:Zm}{j:Obj}(q:h.get? b=J j)(n:H b=Zc)(hx:b∉ex):∃sl,h1.get? b=J {j with slots:=sl}:=by
 by_cases k:b∈fs
 .exact u.slot b j q n k hx
 .exact#[j.slots,u.keep b j q n k hx]
theorem Un.kept(k:∀b u,h.get? b=J u->h'.get? b=J u):Un fs ex H H h h':=#[λb j q _ _ _=>k b j q,λb j q _ _ _=>#[j.slots,k b j q],λ_ _ _ n _=>n,λb j q _=>#[j,k b j q],λ_ _ q=>q,λ_ _ _ q=>q,λ_ ps q=>#[#[],by rw[q];simp]]
theorem Un.refl:Un fs ex H H h h:=Un.kept λ_ _ q=>q
theorem Un.laid(k:∀b u,h.get? b=J u->h'.get? b=J u)(hp:h.objs.size<=a)(hn:H a=Zc):Un fs ex H (upd H a o) h h' where
 keep:=λb u q _ _ _=>k b u q
 slot:=λb u q _ _ _=>#[u.slots,k b u q]
 free:=λb u q n _=>by rw[Jo<|Z1<|ZF (Zu q) hp];exact n
 there:=λb u q _=>#[u,k b u q]
 tups:=λb xs q=>by rw[Jo<|Vr q hn];exact q
 frzs:=λb u xs q=>by rw[Jo<|Vr q hn];exact q
 tbls:=λb ps q=>#[#[],by rw[Jo<|Vr q hn,q];simp]
theorem Un.write(m:Mut<|H x)(D:e=x\/H e=J (.own x))(k:∀b u,b≠e->h.get? b=J u->h'.get? b=J u)(B:∃u,h'.get? e=J u):Un fs ex H (upd H x o) h h':=by
 have hx:∀b,H b=Zc->b≠x:=λb n z=>by subst z;rw[n]at m;exact m
 have C:∀b,H b=Zc->b≠e:=λb n z=>by
  subst z;rcases D with r|r
  .exact hx b n r
  .rw[n]at r;cases r
 have hm:∀b u,H b=J u->¬Mut (J u)->b≠x:=λb u q nm z=>by subst z;rw[q]at m;exact nm m
 refine#[λb u q n _ _=>k b u (C b n) q,λb u q n _ _=>#[u.slots,k b u (C b n) q],λb u q n _=>by rw[Jo<|hx b n];exact n,λb u q _=>?_,λb xs q=>by rw[Jo<|hm b _ q λz=>z];exact q,λb u xs q=>by rw[Jo<|hm b _ q λz=>z];exact q,λb ps q=>#[#[],by rw[Jo<|hm b _ q λz=>z,q];simp]];by_cases j:b=e
 .subst j;exact B
 .exact#[u,k b u j q]
end
noncomputable def trk (h:Zam)(H:Hp):Tw:=(ZR h.objs.size).filter λa=>(H a).isSome
def hidT(h:Zam)(H:Hp):Zam:=W.hideAll h<|trk h H
theorem Jsf(h:Zam)(H:Hp):(hidT h H).objs.size=h.objs.size:=W.hideAll_size _ _
theorem Jve{h:Zam}{H:Hp}{b:Zm}{o:Obj}(e:h.get? b=J o)(n:H b=Zc):(hidT h H).get? b=J o:=W.hideAll_get _ e λhm=>by have q:=(Zbe.mp hm).2;rw[n]at q;simp at q
theorem J0i{h:Zam}{H:Hp}{b:Zm}{o:Obj}(e:(hidT h H).get? b=J o):h.get? b=J o/\H b=Zc:=by have j:=W.of_hideAll (trk h H) e;refine#[j,?_];cases q:H b with|none=>rfl|some x=>have hm:b∈trk h H:=Zbe.mpr #[Zaw.mpr<|Zu j,by simp[q]];have z:(hidT h H).get? b=Zc:=W.hideAll_none (trk h H) hm;rw[z]at e;cases e
structure Mod(K:W.Frag)(mg:Str->Tc)(base:Zam):Prop where
 kin:K.In base
 glob:base.Ns Zn mg
 blt:∃mb,base.Ns Zc4 mb/\∀x:Str,x≠"__name__"->mb x=Zbu x
 nolimit:base.NoLimit
set_option genInjectivity false in
structure Cx where
 prog:Z7
 w:ZU
 K:W.Frag
 mg:Str->Tc
 base:Zam
 A:ZI
 N:Tl
 s₀:Zl
 H₀:Hp
 env:Env
 outer:Tn
 stack:Tn
 ex:Tw
 fn:Str->Bool
 calm:Bool
 pn:PnT
 xe:QvT
noncomputable def frs (l:Tn):Tw:=l.filterMap (·.frame)
abbrev Cx.fs(X:Cx):Tw:=frs X.outer
def Vis(sc:Zbm)(x:Str):Prop:=sc.names.lookup x=J .local\/sc.names.lookup x=J .cell\/sc.names.lookup x=J .free
def Loc(sc:Zbm)(x:Str):Prop:=sc.names.lookup x=J .local\/sc.names.lookup x=J .cell
def Look(env:Env)(h:Zam)(m:Str->Tc)(x:Str)(u:Zh):Prop:=(env.kindOf x=J .local/\m x=J u)\/((env.kindOf x=J .cell\/env.kindOf x=J .free)/\∃c,env.cells.lookup x=J c/\h.IsCell c (J u))
structure Cx.Ok(X:Cx):Prop where
 mod:Mod X.K X.mg X.base
 kind:X.env.scope.kind=.function
 glob:X.env.globals=Zn
 blt:X.env.builtins=Zc4
 above:X.s₀.heap.objs.size<=X.env.locals
 inj:∀x y c,X.env.cells.lookup x=J c->X.env.cells.lookup y=J c->x=y
 has:∀x,(X.env.kindOf x=J .cell\/X.env.kindOf x=J .free)->∃c,X.env.cells.lookup x=J c
 cab:∀x c,X.fn x=Zg->X.env.cells.lookup x=J c->X.s₀.heap.objs.size<=c
 hd:X.calm=Zg->X.A.handled=Zc
 frames:X.A.frames=J X.stack
 stk:X.stack=X.outer\/(X.stack=X.env::X.outer/\X.env.frame=J X.env.locals)
 exf:∀b∈X.ex,b≠X.env.locals/\∀x c,X.env.cells.lookup x=J c->c≠b
 bs:∀b o,X.base.get? b=J o->X.s₀.heap.get? b=J o/\X.H₀ b=Zc
 bsz:X.base.objs.size<=X.s₀.heap.objs.size
 noex:∀b o,X.base.get? b=J o->b∉X.ex
 exfs:∀b∈X.ex,b∉X.fs
 funs:X.s₀.heap.FunFrames X.base X.outer
 frf:∀b∈X.fs,X.H₀ b=Zc
structure Inv(X:Cx)(V:PnT)(U:Wd)(H:Hp)(s:Zl):Prop where
 ok:X.Ok
 os:s.os=X.s₀.os
 bare:Zdm s.gens
 base:Un X.fs X.ex X.H₀ H X.s₀.heap s.heap
 loc:∃m,s.heap.Ns X.env.locals m/\∀(i:Nat)(x:Str)(v:hV),X.N[i]?=J x->U[i]?=J (J v)->Vis X.env.scope x->∃u,RelV v u/\Look X.env s.heap m x u
 cell:∀x c,X.env.cells.lookup x=J c->∃v,s.heap.IsCell c v
 free:H X.env.locals=Zc
 freeC:∀x c,X.env.cells.lookup x=J c->H c=Zc
 pin:∀p∈X.pn++V,s.heap.get? p.1=J p.2/\H p.1=Zc/\p.1≠X.env.locals/\p.1∉X.fs/\∀v,p.2.data≠.cell v
 hok:HOk X.prog X.w H s.heap
 len:U.length=X.N.length
section
variable{X:Cx}{V:PnT}{U:Wd}{H H':Hp}{s:Zl}{h':Zam}
theorem Cx.Ok.nofr(ok:X.Ok){b:Zm}{o:Obj}(e:X.base.get? b=J o):b∉X.fs:=λj=>by have:=(ok.funs.mem j).1;rw[e]at this;cases this
theorem Inv.bs(I:Inv X V U H s):∀b o,X.base.get? b=J o->s.heap.get? b=J o/\H b=Zc:=λb o e=>
 #[I.base.keep b o (I.ok.bs b o e).1 (I.ok.bs b o e).2 (I.ok.nofr e) (I.ok.noex b o e),I.base.free b o (I.ok.bs b o e).1 (I.ok.bs b o e).2 (I.ok.noex b o e)]
theorem Inv.bk(I:Inv X V U H s):∀b o,X.base.get? b=J o->s.heap.get? b=J o:=λb o e=>(I.bs b o e).1
theorem Inv.mod(I:Inv X V U H s):Mod X.K X.mg X.base:=I.ok.mod
theorem Inv.kIn(I:Inv X V U H s):X.K.In s.heap:=I.ok.mod.kin.keeps I.bk
theorem Inv.lt(I:Inv X V U H s):X.env.locals<s.heap.objs.size:=let ⟨_,hn,_⟩:=I.loc;hn.lt
theorem Inv.sz(I:Inv X V U H s):X.s₀.heap.objs.size<=s.heap.objs.size:=ZM I.ok.above<|Zbn I.lt
theorem Inv.nofs(I:Inv X V U H s){a:Zm}(h:s.heap.objs.size<=a):a∉X.fs:=λk=>by obtain⟨_,o,j,_⟩:=I.ok.funs.mem k;exact absurd (ZF (Zu j)<|ZM I.sz h)<|ZbV _
theorem Inv.cne(I:Inv X V U H s):∀x c,X.env.cells.lookup x=J c->c≠X.env.locals:=λx c e z=>by obtain⟨v,o,u,hd⟩:=I.cell x c e;obtain⟨m,⟨D,C,B,j,k,_⟩,_⟩:=I.loc;rw[z,j]at u;cases u;rw[k]at hd;cases hd
theorem Inv.funs(I:Inv X V U H s):s.heap.FunFrames X.base X.outer:=by
 have all:∀(l:Tn),(∀b∈frs l,b∈X.fs)->X.s₀.heap.FunFrames X.base l->s.heap.FunFrames X.base l:=by
  intro l;induction l with|nil=>intro _ _;trivial|cons env r D=>
   intro B C;obtain⟨F,⟨j,o,k,hn,E,hd⟩,G⟩:=C;have m:=B j<|by unfold frs;rw[Zdh,k];exact ZB
   obtain⟨L,e⟩:=I.base.slot j o E (I.ok.frf j m) m λz=>I.ok.exfs j z m
   exact#[F,#[j,_,k,hn,e,hd],D (λb u=>B b<|by unfold frs;rw[Zdh,k];exact Zr _ u) G]
 exact all X.outer (λ_ u=>u) I.ok.funs
theorem Inv.stack(I:Inv X V U H s):s.heap.FunFrames X.base X.stack:=by
 rcases I.ok.stk with e|⟨e,hf⟩
 .rw[e];exact I.funs
 .rw[e];obtain⟨m,hn,_⟩:=I.loc;refine .cons (by rw[I.ok.kind];decide) hf hn ?_ I.funs;exact Zcf<|ZM I.ok.bsz I.ok.above
theorem Inv.stkSub(I:Inv X V U H s):∀b∈frs X.stack,b∈X.env.locals::X.fs:=λb j=>by
 rcases I.ok.stk with e|⟨e,hf⟩
 .simp_all
 .rw[e]at j;unfold frs at j;rw[Zdh,hf]at j;exact j
theorem Inv.stkFree(I:Inv X V U H s):∀b∈frs X.stack,H b=Zc:=λb j=>by
 rcases ZA.mp (I.stkSub b j)with e|j
 .rw[e];exact I.free
 .obtain⟨_,o,k,_⟩:=I.ok.funs.mem j;exact I.base.free b o k (I.ok.frf b j) λz=>I.ok.exfs b z j
theorem Inv.step{g':Td}{t':Nat}{d':Drawn}{ch:Tw}(I:Inv X V U H s)
  (C:∀b∈ch,(b∈X.ex\/X.s₀.heap.objs.size<=b)/\b≠X.env.locals/\(∀x c,X.env.cells.lookup x=J c->c≠b)/\∀p∈X.pn++V,p.1≠b)
  (keep:∀b o,b≠X.env.locals->b∉X.fs->b∉ch->s.heap.get? b=J o->H b=Zc->h'.get? b=J o)
  (slot:∀b o,b≠X.env.locals->b∈X.fs->b∉ch->s.heap.get? b=J o->H b=Zc->∃sl,h'.get? b=J {o with slots:=sl})(free:∀b o,b∉ch->s.heap.get? b=J o->H b=Zc->H' b=Zc)
  (there:∀b o,b∉ch->s.heap.get? b=J o->∃o',h'.get? b=J o')
  (tups:∀b xs,H b=J (.tup xs)->H' b=J (.tup xs))(frzs:∀b o u,H b=J (.frz o u)->H' b=J (.frz o u))(tbls:∀b ps,H b=J (.tbl ps)->∃more,H' b=J (.tbl<|ps++more))
  (ns:∀m,s.heap.Ns X.env.locals m->h'.Ns X.env.locals m)(hok:HOk X.prog X.w H' h')(Z:Zdm g'):
  Inv X V U H' {s with heap:=h',gens:=g',drawn:=d',toks:=t'}:=by
 have M:∀b o,X.s₀.heap.get? b=J o->b≠X.env.locals:=λb o e=>Z1<|ZF (Zu e) I.ok.above
 have D:∀b o,X.s₀.heap.get? b=J o->b∉X.ex->b∉ch:=λb o e hx F=>by
  rcases(C b F).1 with z|z
  .exact hx z
  .exact absurd (ZF (Zu e) z)<|ZbV _
 have B:∀x c,X.env.cells.lookup x=J c->∀v,s.heap.IsCell c v->h'.IsCell c v:=λx c e v ⟨o,G,hd⟩=>by
  have j:=λz=>(C c z).2.2.1 x c e rfl
  by_cases P:c∈X.fs
  .obtain⟨sl,q⟩:=slot c o (I.cne x c e) P j G<|I.freeC x c e;exact#[_,q,hd]
  .exact#[o,keep c o (I.cne x c e) P j G<|I.freeC x c e,hd]
 refine#[I.ok,I.os,Z,#[λb o e n F hx=>?_,λb o e n F hx=>?_,λb o e n hx=>?_,λb o e hx=>?_,λb xs e=>tups b xs<|I.base.tups b xs e,λb o xs e=>frzs b o xs<|I.base.frzs b o xs e,λb ps e=>?_],?_,λx c e=>?_,?_,λx c e=>?_,λp hp=>?_,hok,I.len]
 .exact keep b o (M b o e) F (D b o e hx) (I.base.keep b o e n F hx)<|I.base.free b o e n hx
 .obtain⟨sl,E⟩:=I.base.slot b o e n F hx;obtain⟨O,L⟩:=slot b _ (M b o e) F (D b o e hx) E<|I.base.free b o e n hx;exact#[O,L]
 .obtain⟨o',E⟩:=I.base.there b o e hx;exact free b o' (D b o e hx) E<|I.base.free b o e n hx
 .obtain⟨o',E⟩:=I.base.there b o e hx;exact there b o' (D b o e hx) E
 .obtain⟨S,E⟩:=I.base.tbls b ps e;obtain⟨Y,L⟩:=tbls b _ E;exact#[S++Y,by rw[L,Array.append_assoc]]
 .obtain⟨m,hn,W⟩:=I.loc;refine#[m,ns m hn,λi x v E L R=>?_];obtain⟨u,r,l⟩:=W i x v E L R;refine#[u,r,?_];rcases l with l|⟨k,c,e,z⟩
  .exact .inl l
  .exact .inr #[k,c,e,B x c e _ z]
 .obtain⟨v,z⟩:=I.cell x c e;exact#[v,B x c e v z]
 .obtain⟨m,⟨o,_,_,G,_⟩,_⟩:=I.loc;exact free _ o (λz=>(C _ z).2.1 rfl) G I.free
 .obtain⟨v,o,G,hd⟩:=I.cell x c e;exact free c o (λz=>(C c z).2.2.1 x c e rfl) G<|I.freeC x c e
 .obtain⟨e,n,ne,Q,d⟩:=I.pin p hp;have j:=λz=>(C p.1 z).2.2.2 p hp rfl
  exact#[keep p.1 p.2 ne Q j e n,free p.1 p.2 j e n,ne,Q,d]
theorem Inv.un{t':Nat}(I:Inv X V U H s)(u:Un X.fs [] H H' s.heap h')(hok:HOk X.prog X.w H' h'):Inv X V U H' {s with heap:=h',toks:=t'}:=by obtain⟨m,⟨o,M,O,D,r⟩,_⟩:=id I.loc;obtain⟨L,F⟩:=u.any D I.free 03;exact I.step (ch:=[]) (λ_ z=>nomatch z) (λb o _ C _ e n=>u.keep b o e n C 03) (λb o _ C _ e n=>u.slot b o e n C 03) (λb o _ e n=>u.free b o e n 03) (λb o _ e=>u.there b o e 03) u.tups u.frzs u.tbls (λG hm=>by obtain⟨P,B,k,j,E⟩:=hm;rw[D]at j;cases j;exact#[_,B,k,F,E]) hok I.bare
theorem Inv.call{g':Td}{t':Nat}{d':Drawn}{ch:Tw}(I:Inv X V U H s)(u:Un (frs X.stack) ch H H' s.heap h')(hok:HOk X.prog X.w H' h')(L:Zdm g') (B:∀b∈ch,(b∈X.ex\/X.s₀.heap.objs.size<=b)/\b≠X.env.locals/\(∀x c,X.env.cells.lookup x=J c->c≠b)/\∀p∈X.pn++V,p.1≠b):Inv X V U H' {s with heap:=h',gens:=g',drawn:=d',toks:=t'}:=by
 obtain⟨m,⟨o,Q,R,F,r⟩,_⟩:=id I.loc;obtain⟨P,E⟩:=u.any F I.free λz=>(B _ z).2.1 rfl
 exact I.step B (λb o E M j e n=>u.keep b o e n (λz=>(ZA.mp<|I.stkSub b z).elim E M) j) (λb o _ _ j e n=>u.any e n j) (λb o j e n=>u.free b o e n j) (λb o j e=>u.there b o e j) u.tups u.frzs u.tbls (λO hm=>by obtain⟨S,D,C,k,G⟩:=hm;rw[F]at k;cases k;exact#[_,D,C,E,G]) hok L
theorem Inv.turned{t':Nat}{it:Zm}(I:Inv X V U H s)(k:∀b o,b≠it->s.heap.get? b=J o->h'.get? b=J o)(hn:H it=Zc)(C:it≠X.env.locals)
  (h1:it∈X.ex\/X.s₀.heap.objs.size<=it)(L:∀x c,X.env.cells.lookup x=J c->c≠it)(h3:∀p∈X.pn++V,p.1≠it):Inv X V U H {s with heap:=h',toks:=t'}:=by
 have B:∀b u,H b=J u->b≠it:=λb u e z=>by rw[z,hn]at e;cases e
 refine I.step (ch:=[it]) (λb G=>?_) (λb o _ _ j e _=>k b o (λz=>j<|by simp[z]) e) (λb o _ _ j e _=>#[o.slots,k b o (λz=>j<|by simp[z]) e]) (λ_ _ _ _ n=>n)
  (λb o j e=>#[o,k b o (λz=>j<|by simp[z]) e]) (λ_ _ e=>e) (λ_ _ _ e=>e) (λb ps e=>#[#[],by rw[e];simp]) (λm hm=>?_) (λb u e=>?_) I.bare
 .have e:b=it:=by simpa using G
  subst e;exact#[h1,C,L,h3]
 .obtain⟨o,D,E,F,r⟩:=hm;exact#[o,D,E,k _ o (ZP C) F,r]
 .refine(I.hok b u e).stay (λc v j q=>k c v ?_ q) (λ_ q=>q) λ_ _ q=>q
  rcases j with z|z
  .rw[z];exact B b u e
  .exact B c _ z
theorem Inv.tok(I:Inv X V U H s)(t:Nat):Inv X V U H {s with toks:=t}:=I.un Un.refl I.hok
theorem Inv.kept{t':Nat}(I:Inv X V U H s)(k:∀b u,s.heap.get? b=J u->h'.get? b=J u):Inv X V U H {s with heap:=h',toks:=t'}:=I.un (Un.kept k)<|I.hok.kept k
theorem Inv.laid{a:Zm}{o:HO}{t':Nat}(I:Inv X V U H s)(k:∀b u,s.heap.get? b=J u->h'.get? b=J u)(hp:s.heap.objs.size<=a)(new:JU X.prog X.w (upd H a o) h' a o):Inv X V U (upd H a o) {s with heap:=h',toks:=t'}:=I.un (Un.laid k hp<|I.hok.fresh hp)<|I.hok.laid k hp new
theorem Inv.write{x e:Zm}{o:HO}{t':Nat}(I:Inv X V U H s)(m:Mut<|H x)(B:e=x\/H e=J (.own x))(k:∀b u,b≠e->s.heap.get? b=J u->h'.get? b=J u)(j:∃u,h'.get? e=J u) (new:JU X.prog X.w (upd H x o) h' x o):Inv X V U (upd H x o) {s with heap:=h',toks:=t'}:=I.un (Un.write m B k j)<|I.hok.write m B k j new
theorem Inv.pins_of{j:PnT}(I:Inv X V U H s)(h:∀p∈j,s.heap.get? p.1=J p.2/\H p.1=Zc/\p.1≠X.env.locals/\p.1∉X.fs/\∀v,p.2.data≠.cell v):Inv X j U H s:=#[I.ok,I.os,I.bare,I.base,I.loc,I.cell,I.free,I.freeC,λp hp=>(ZZ.mp hp).elim (λz=>I.pin p<|Zax _ z)<|h p,I.hok,I.len]
theorem Jke{N:Tl}(m:N.Nodup){i j:Nat}{x:Str}(a:N[i]?=J x)(b:N[j]?=J x):i=j:=by obtain⟨B,u⟩:=Zo.mp a;obtain⟨L,k⟩:=Zo.mp b;exact(ZcP m).mp<|u.trans k.symm
theorem Jt1{M:Model}{A:ZI}{E:QvT}{i:Nat}{x:Str}{v:hV}{u:Zh}{Q:Unit->Zl->Prop}(I:Inv X V U H s)(hN:X.N.Nodup)(hi:X.N[i]?=J x)(hx:Loc X.env.scope x)(r:RelV v u)
  (h:∀s',Inv X V (U.set i<|J v) H s'->(∃a,Zbo a s.heap s'.heap/\(a=X.env.locals\/X.env.cells.lookup x=J a))->Q () s')(hf:X.fn x=Zg\/X.env.scope.names.lookup x=J .local:=by assumption):Zv M A (storeName X.env x u) Q E s:=by
 obtain⟨m,hn,hl⟩:=id I.loc;have Z:(X.env.scope.kind==.class||(X.env.scope.kind==.module&&X.env.locals != X.env.globals))=Zi:=by rw[I.ok.kind];rfl
 have Y:i<U.length:=by rw[I.len];exact(Zo.mp hi).1
 have cne:=I.cne;have C:∀{a:Zm}{S:Zam},(∃o,s.heap.get? a=J o/\H a=Zc)->Zbo a s.heap S->HOk X.prog X.w H S:=λ{a S} ha B b ob e=>by
  obtain⟨_,_,R⟩:=ha;refine(I.hok b ob e).stay (λc w' F q=>(B.2 c ?_).trans q) (λ_ q=>q) λ_ _ q=>q
  rintro rfl;rcases F with rfl|F
  .rw[R]at e;cases e
  .lia
 rcases hx with hk|hk
 .refine wpAny_storeName_local hk hn (λS hn' B=>?_) Z;obtain⟨oL,_,_,hoL,_⟩:=id hn;refine h _ #[I.ok,I.os,I.bare,#[λb o e n O hx=>?_,λb o e n O hx=>?_,I.base.free,λb o e hx=>?_,I.base.tups,I.base.frzs,I.base.tbls],#[_,hn',λj y v' D G e3=>?_],λy c e=>?_,I.free,I.freeC,λp hp=>?_,C #[oL,hoL,I.free] B,by simpa using I.len] #[_,B,.inl rfl]
  .exact(B.2 b<|Z1<|ZF (Zu e) I.ok.above).trans<|I.base.keep b o e n O hx
  .obtain⟨sl,D⟩:=I.base.slot b o e n O hx;exact#[sl,(B.2 b<|Z1<|ZF (Zu e) I.ok.above).trans D]
  .obtain⟨o',D⟩:=I.base.there b o e hx;exact#[o',(B.2 b<|Z1<|ZF (Zu e) I.ok.above).trans D]
  .by_cases P:j=i
   .subst P;rw[hi]at D;cases D;rw[ZE Y]at G;cases G;exact#[u,r,.inl #[hk,03]]
   .rw[ZC<|ZP P]at G;obtain⟨u',r',q⟩:=hl j y v' D G e3;refine#[u',r',?_];rcases q with⟨k,e⟩|⟨k,c,e,z⟩
    .refine .inl #[k,?_];have:y≠x:=λe=>P<|Jke hN D<|e▸hi
     simp[this,e]
    .exact .inr #[k,c,e,z.sameBut B<|cne y c e]
  .obtain⟨w',z⟩:=I.cell y c e;exact#[w',z.sameBut B<|cne y c e]
  .obtain⟨e,n,ne,nf,d⟩:=I.pin p hp;exact#[(B.2 p.1 ne).trans e,n,ne,nf,d]
 .have L:X.fn x=Zg:=by
   rcases hf with z|z
   .exact z
   .rw[z]at hk;cases hk
  obtain⟨c,F⟩:=I.ok.has x<|.inl hk;obtain⟨w',z⟩:=I.cell x c F;refine wpAny_storeName_cell I.ok.kind hk F z λS hc' B=>?_
  obtain⟨oc,hoc,W⟩:=id z;refine h {s with heap:=S} #[I.ok,I.os,I.bare,#[λb o e n O hx=>?_,λb o e n O hx=>?_,I.base.free,λb o e hx=>?_,I.base.tups,I.base.frzs,I.base.tbls],#[m,hn.sameBut B<|ZP<|cne x c F,λj y v' D G e3=>?_],λy c' e=>?_,I.free,I.freeC,λp hp=>?_,C #[oc,hoc,I.freeC x c F] B,by simpa using I.len] #[c,B,.inr F]
  .exact(B.2 b<|Z1<|ZF (Zu e)<|I.ok.cab x c L F).trans<|I.base.keep b o e n O hx
  .obtain⟨sl,D⟩:=I.base.slot b o e n O hx;exact#[sl,(B.2 b<|Z1<|ZF (Zu e)<|I.ok.cab x c L F).trans D]
  .obtain⟨o',D⟩:=I.base.there b o e hx;exact#[o',(B.2 b<|Z1<|ZF (Zu e)<|I.ok.cab x c L F).trans D]
  .by_cases P:j=i
   .subst P;rw[hi]at D;cases D;rw[ZE Y]at G;cases G;exact#[u,r,.inr #[.inl hk,c,F,hc']]
   .rw[ZC<|ZP P]at G;obtain⟨u',r',q⟩:=hl j y v' D G e3;refine#[u',r',?_];rcases q with q|⟨k,c',e,z'⟩
    .exact .inl q
    .refine .inr #[k,c',e,z'.sameBut B ?_];rintro rfl;exact P<|Jke hN D<|I.ok.inj _ _ _ e F▸hi
  .by_cases hcc:c'=c
   .subst hcc;exact#[_,hc']
   .obtain⟨w2,z2⟩:=I.cell y c' e;exact#[w2,z2.sameBut B hcc]
  .obtain⟨e,n,ne,nf,d⟩:=I.pin p hp;refine#[(B.2 p.1 ?_).trans e,n,ne,nf,d];intro q;rw[q,hoc]at e;have q':=Zas e;exact d w'<|by rw[<-q'];exact W
theorem YF{M:Model}{A:ZI}{E:QvT}{i:Nat}{x:Str}{v:hV}{u:Zh}{Q:Unit->Zl->Prop}(I:Inv X V U H s)(j:X.N.Nodup)(hi:X.N[i]?=J x)(hx:Loc X.env.scope x)(r:RelV v u) (h:∀s',Inv X V (U.set i<|J v) H s'->Q () s')(m:X.fn x=Zg\/X.env.scope.names.lookup x=J .local:=by assumption):Zv M A (storeName X.env x u) Q E s:=Jt1 I j hi hx r (λs' k _=>h s' k) m
theorem Inv.call'{s':Zl}{ch:Tw}(I:Inv X V U H s)(k:s'.os=s.os)(u:Un (frs X.stack) ch H H' s.heap s'.heap)(hok:HOk X.prog X.w H' s'.heap)(m:Zdm s'.gens) (j:∀b∈ch,(b∈X.ex\/X.s₀.heap.objs.size<=b)/\b≠X.env.locals/\(∀x c,X.env.cells.lookup x=J c->c≠b)/\∀p∈X.pn++V,p.1≠b):Inv X V U H' s':=by obtain⟨D,E,B,F,C⟩:=s';have e:=k;subst e;exact I.call u hok m j
end
abbrev XK:=Zh->Te->Hp->Prop
abbrev St:=Wd
abbrev VK:=hV->Hp->Prop
abbrev TE:=St->Hp->VK->Prop
structure Ends where
 nx:St->Hp->Prop
 rt:VK
 bk:St->Hp->Prop:=λ_ _=>False
 ct:St->Hp->Prop:=λ_ _=>False
abbrev TS:=Ends->St->Hp->Prop
def EP(X:Cx)(V:PnT)(U:St)(Q:VK)(u:Zh)(s':Zl):Prop:=∃v H',Inv X V U H' s'/\RelV v u/\Q v H'
def TP(X:Cx)(V:PnT)(U:St)(Q:Bool->Hp->Prop)(b:Bool)(s':Zl):Prop:=∃H',Inv X V U H' s'/\Q b H'
def SP(X:Cx)(V:PnT)(D:Ends)(f:Flow)(s':Zl):Prop:=match f with|.next=>∃U' H',Inv X V U' H' s'/\D.nx U' H'|.brk=>∃U' H',Inv X V U' H' s'/\D.bk U' H'|.cont=>∃U' H',Inv X V U' H' s'/\D.ct U' H'|.ret u=>∃v U' H',Inv X V U' H' s'/\RelV v u/\D.rt v H'
def PE(X:Cx)(e:Expr)(t:TE):Prop:=∀(V:PnT)(s:Zl)(U:St)(H:Hp)(Q:VK),Inv X V U H s->t U H Q->Zv (Zy X.prog X.w) X.A (ZaQ e X.env) (EP X V U Q) X.xe s
def PSs(X:Cx)(st:To)(t:TS):Prop:=∀(V:PnT)(s:Zl)(U:St)(H:Hp)(D:Ends),Inv X V U H s->t D U H->Zv (Zy X.prog X.w) X.A (execs st X.env) (SP X V D) X.xe s
theorem thn{α:Type}{t:Sem α}{Q j:α->Zl->Prop}{M:Model}{A:ZI}{E:QvT}{s:Zl}(h:Zv M A t Q E s)(k:∀a s,Q a s->j a s):Zv M A t j E s:=Zaf h k λ_ _ x=>x
section
variable{X:Cx}
def tVar(i:Nat):TE:=λU H Q=>∃v,U[i]?=J (J v)/\Q v H
def tC(v:hV):TE:=λ_ H Q=>Q v H
theorem J4l{i:Nat}{x:Str}{pos:Pos}(C:X.N[i]?=J x)(hv:Vis X.env.scope x)(hd:(x==("__debug__":Str))=Zi:=by decide)(k:(x==("__classdict__":Str))=Zi:=by decide):PE X (.Name x pos) (tVar i):=by
 intro V s U H Q I h;obtain⟨v,e,h⟩:=h;obtain⟨m,hn,B⟩:=I.loc;obtain⟨u,r,l⟩:=B i x v C e hv;have fin:EP X V U Q u s:=#[v,H,I,r,h];rcases l with⟨j,hm⟩|⟨j,c,hc,hcell⟩
 .exact wpAny_Name (wpAny_loadName_local I.ok.kind j hn hm fin) hd
 .rcases j with j|j
  .exact wpAny_Name (wpAny_loadName_cell I.ok.kind j hc hcell fin) hd
  .exact wpAny_Name (wpAny_loadName_free I.ok.kind j hc hcell fin k) hd
theorem J4i{i j pos}:PE X (.Constant (.int i) j pos) (tC<|.int i):=λ_ _ _ H _ I h=>wpAny_Constant_int #[.int i,H,I.tok _,#[_,rfl],h]
theorem J7g{b j pos}:PE X (.Constant (.bool b) j pos) (tC<|.bl b):=λ_ _ _ H _ I h=>Constant_bool #[.bl b,H,I,rfl,h]
theorem J4j{j pos}:PE X (.Constant .none j pos) (tC .non):=λ_ _ _ H _ I h=>Constant_none #[.non,H,I,rfl,h]
theorem J4k{x j pos}:PE X (.Constant (.str x) j pos) (tC<|.str x):=λ_ _ _ H _ I h=>Calls.Constant_str #[.str x,H,I.tok _,#[_,rfl],h]
def Gl(X:Cx)(x:Str):Prop:=X.env.kindOf x=J .globalImplicit
theorem Vp{E:QvT}{V:PnT}{s:Zl}{U:St}{H:Hp}{x:Str}{u:Zh}{pos:Pos}{Q:QvT}(I:Inv X V U H s)(j:Gl X x)(hm:X.mg x=J u)(h:Q u s) (hd:(x==("__debug__":Str))=Zi:=by decide):Zv (Zy X.prog X.w) X.A (ZaQ (.Name x pos) X.env) Q E s:=Zdt I.ok.kind j (Calls.loadGlobal_global (by rw[I.ok.glob];exact I.mod.glob.keeps I.bk) hm h) hd
theorem Qt{E:QvT}{V:PnT}{s:Zl}{U:St}{H:Hp}{x:Str}{u:Zh}{pos:Pos}{Q:QvT}(I:Inv X V U H s)(k:Gl X x)(hm:X.mg x=Zc)(hv:Zbu x=J u)(h:Q u s) (hn:x≠"__name__":=by decide)(hd:(x==("__debug__":Str))=Zi:=by decide):Zv (Zy X.prog X.w) X.A (ZaQ (.Name x pos) X.env) Q E s:=by obtain⟨mb,j,L⟩:=I.mod.blt;exact Zdt I.ok.kind k (Calls.loadGlobal_builtin (by rw[I.ok.glob];exact I.mod.glob.keeps I.bk) hm (by rw[I.ok.blt];exact j.keeps I.bk) ((L x hn).trans hv) h) hd
theorem J0m{x:Str}{v:hV}{u:Zh}{pos:Pos}(j:Gl X x)(hm:X.mg x=J u)(r:RelV v u)(hd:(x==("__debug__":Str))=Zi:=by decide):PE X (.Name x pos) (tC v):=λ_ _ _ H _ I h=>Vp I j hm #[v,H,I,r,h] hd
variable{a b:Expr}{ta tb:TE}{pos:Pos}
variable{tA tB':TT}{rest:Tf}
end
def SqL(K:W.Frag)(H:Hp)(a:Zm)(xs:Ud):Prop:=Rd H a (.lst xs) \/ ∃(o:Obj) (its:Tk) (n:Nat),K.lookup a=J o/\o.cls=.type "list"/\o.dict=Zc/\o.data=.seq its n/\its.size<=sizeLine/\Vals xs its.toList
def SqT(K:W.Frag)(H:Hp)(a:Zm)(xs:Ud):Prop:=Rd H a (.tup xs) \/ ∃(o:Obj) (its:Tk) (n:Nat),K.lookup a=J o/\o.cls=.type "tuple"/\o.data=.seq its n/\its.size<=sizeLine/\Vals xs its.toList
noncomputable def absV:Zh->Tj|.none=>J .non|.bool b=>J<|.bl b|.int i _=>J<|.int i|.str x _=>J<|.str x|.bytes b _=>J<|.byt b|.float b _=>J<|.flt b|.ref a=>J<|.ref a|.type n=>J<|.ty n|_=>Zc
theorem RelV.abs{x:hV}{u:Zh}(r:RelV x u):absV u=J x:=by cases x with|non=>cases r;rfl|bl _=>cases r;rfl|int _=>obtain⟨t,rfl⟩:=r;rfl|str _=>obtain⟨t,rfl⟩:=r;rfl|byt _=>obtain⟨t,rfl⟩:=r;rfl|flt _=>obtain⟨t,rfl⟩:=r;rfl|ref _=>cases r;rfl|ty _=>cases r;rfl
theorem RelV.inj{x y:hV}{u:Zh}(r:RelV x u)(q:RelV y u):x=y:=Zas<|r.abs.symm.trans q.abs
theorem Vals.inj:∀{xs ys:Ud}{us:Tv},Vals xs us->Vals ys us->xs=ys|_,_,_,.nil,.nil=>rfl|_,_,_,.cons r t,.cons r' t'=>by rw[r.inj r',Vals.inj t t']
section
variable{X:Cx}{V:PnT}{U:St}{H:Hp}{s:Zl}{a:Zm}{xs ys:Ud}
theorem SqL.of{K:W.Frag}(h:H a=J (.lst xs)):SqL K H a xs:=.inl<|.inl h
theorem SqT.of{K:W.Frag}(h:H a=J (.tup xs)):SqT K H a xs:=.inl<|.inl h
theorem Inv.list(I:Inv X V U H s)(h:SqL X.K H a xs):∃its:Tv,Vals xs its/\PlainL s.heap a its.toArray/\xs.length<=sizeLine:=by
 rcases h with h|⟨o,its,n,hk,hc,hd,hs,hz,r⟩
 .obtain⟨z,its,n,r,e⟩:=h.ok I.hok;exact#[its,r,#[_,n,e,rfl,rfl,rfl],z]
 .refine#[its.toList,r,#[o,n,I.kIn a o hk,hc,hd,by simpa using hs],?_];have e:=r.length;simp at e;lia
theorem Inv.tuple(I:Inv X V U H s)(h:SqT X.K H a xs):∃its:Tv,Vals xs its/\IsTup s.heap a its.toArray/\xs.length<=sizeLine:=by
 rcases h with h|⟨o,its,n,hk,hc,hs,hz,r⟩
 .obtain⟨z,its,r,p⟩:=h.ok I.hok;exact#[its,r,p,z]
 .refine#[its.toList,r,#[o,I.kIn a o hk,hc,n,by simpa using hs],?_];have e:=r.length;simp at e;lia
theorem Inv.list_inj(I:Inv X V U H s)(h:SqL X.K H a xs)(h':SqL X.K H a ys):xs=ys:=by
 obtain⟨k,r,⟨o,n,e,_,_,d⟩,_⟩:=I.list h;obtain⟨j,B,⟨D,C,u,_,_,m⟩,_⟩:=I.list h';rw[e]at u;cases u;rw[d]at m;injection m with d1 _
 have:k=j:=by simpa using congrArg Array.toList d1
 subst this;exact r.inj B
theorem Inv.tuple_inj(I:Inv X V U H s)(h:SqT X.K H a xs)(h':SqT X.K H a ys):xs=ys:=by
 obtain⟨k,r,⟨o,e,_,n,d⟩,_⟩:=I.tuple h;obtain⟨j,B,⟨D,u,_,C,m⟩,_⟩:=I.tuple h';rw[e]at u;cases u;rw[d]at m;injection m with d1 _
 have:k=j:=by simpa using congrArg Array.toList d1
 subst this;exact r.inj B
end
noncomputable abbrev Cx.wish (X:Cx)(E:QvT):Cx:={X with xe:=E}
abbrev Cx.nox(X:Cx):Cx:=X.wish λ_ _=>False
theorem Cx.Ok.wish{X:Cx}(ok:X.Ok)(E:QvT):(X.wish E).Ok:=#[ok.mod,ok.kind,ok.glob,ok.blt,ok.above,ok.inj,ok.has,ok.cab,ok.hd,ok.frames,ok.stk,ok.exf,ok.bs,ok.bsz,ok.noex,ok.exfs,ok.funs,ok.frf]
theorem Cx.Ok.unwish{X:Cx}{E:QvT}(ok:(X.wish E).Ok):X.Ok:=#[ok.mod,ok.kind,ok.glob,ok.blt,ok.above,ok.inj,ok.has,ok.cab,ok.hd,ok.frames,ok.stk,ok.exf,ok.bs,ok.bsz,ok.noex,ok.exfs,ok.funs,ok.frf]
section
variable{X:Cx}{V:PnT}{U:St}{H:Hp}{s:Zl}{E:QvT}
theorem Inv.wish(I:Inv X V U H s)(E:QvT):Inv (X.wish E) V U H s:=#[I.ok.wish E,I.os,I.bare,I.base,I.loc,I.cell,I.free,I.freeC,I.pin,I.hok,I.len]
theorem Inv.unwish(I:Inv (X.wish E) V U H s):Inv X V U H s:=#[I.ok.unwish,I.os,I.bare,I.base,I.loc,I.cell,I.free,I.freeC,I.pin,I.hok,I.len]
end
section
variable{X:Cx}{st:Zcg}{rest:To}{t u:TS}{e:Expr}{te:TE}{pos:Pos}
theorem Inv.quiet{V:PnT}{U:St}{H:Hp}{s:Zl}(I:Inv X V U H s):interactive X.env=Zi:=by simp[interactive,I.ok.kind]
end
abbrev TSet:=hV->hV->hV->Hp->(Hp->Prop)->Prop
def PSet(X:Cx)(t:TSet):Prop:=∀(V:PnT)(s:Zl)(U:St)(H:Hp)(o i v:hV)(ov iv u:Zh)(Q:Hp->Prop),Inv X V U H s->RelV o ov->RelV i iv->RelV v u->t o i v H Q ->Zv (Zy X.prog X.w) X.A (setItem ov iv u) (λ_ s'=>∃H',Inv X V U H' s'/\Q H') X.xe s
structure It where
 go:Nat->Hp->Prop
 yld:Nat->Hp->hV->Hp->Prop
 stop:Nat->Hp->Prop
def FpOk(X:Cx)(V:PnT)(H:Hp)(b:Zm):Prop:=H b=Zc/\b≠X.env.locals/\b∉X.fs/\(b∈X.ex\/X.s₀.heap.objs.size<=b)/\(∀x c,X.env.cells.lookup x=J c->c≠b)/\∀p∈X.pn++V,p.1≠b
theorem Inv.fpOk{X:Cx}{V:PnT}{U:St}{H H':Hp}{s:Zl}{b:Zm}(I:Inv X V U H s)(j:s.heap.objs.size<=b)(hn:H' b=Zc):FpOk X V H' b:=by
 refine#[hn,ZaT<|ZF I.lt j,I.nofs j,.inr<|ZM I.sz j,λx c e z=>?_,λp hp z=>?_]
 .obtain⟨v,q⟩:=I.cell x c e;exact absurd (ZF q.lt<|by rw[z];exact j)<|ZbV _
 .exact absurd (ZF (Zu (I.pin p hp).1)<|by rw[z];exact j)<|ZbV _
structure Turn(P:Z7)(w:ZU)(K:W.Frag)(tg:Expr)(cK:It)(fp:Tw)(it:Zm)(tn:Nat->Zam->Prop):Prop where
 mem:it∈fp
 obj:∀i h,tn i h->∀b∈fp,∃o,h.get? b=J o/\∀v,o.data≠.cell v
 keep:∀i h h',tn i h->(∀b∈fp,∀o,h.get? b=J o->h'.get? b=J o)->tn i h'
 item:∀(X:Cx),X.prog=P->X.w=w->X.K=K->X.calm=Zg->∀(i:Nat)(V:PnT)(s:Zl)(U:St)(H:Hp)(E:QvT),Inv X V U H s->(∀b∈fp,FpOk X V H b)->tn i s.heap->cK.go i H ->Zv (Zy P w) X.A (Zdu<|.ref it) (λr s1=>∃u,r=J u /\ Zv (Zy P w) X.A (Zdb tg (.ref it) u) (λ_ s2=>∃x H',Inv X V U H' s2/\RelV x u/\cK.yld i H x H'/\tn (i+1) s2.heap/\∀b∈fp,H' b=Zc) E s1) E s
 done:∀(X:Cx),X.prog=P->X.w=w->X.K=K->X.calm=Zg->∀(i:Nat)(V:PnT)(s:Zl)(U:St)(H:Hp)(E:QvT),Inv X V U H s->(∀b∈fp,FpOk X V H b)->tn i s.heap->cK.stop i H ->Zv (Zy P w) X.A (Zdu<|.ref it) (λr s1=>r=Zc/\Inv X V U H s1) E s
 self:∀(A:ZI)(i:Nat)(s:Zl)(Q:QvT)(E:QvT),tn i s.heap->Q (.ref it) s->Zv (Zy P w) A (Zdv<|.ref it) Q E s
def PIE(X:Cx)(V:PnT)(U:St)(tg:Expr)(R:It->Hp->Prop)(itv:Zh)(s2:Zl):Prop:=∃(it:Zm)(fp:Tw)(tn:Nat->Zam->Prop)(cK:It)(H':Hp),itv=.ref it/\Inv X V U H' s2/\Turn X.prog X.w X.K tg cK fp it tn/\tn 0 s2.heap/\(∀b∈fp,FpOk X V H' b)/\R cK H'
theorem Jva{M:Model}{A:ZI}{E:QvT}{s:Zl}{tg:Expr}{it:Zm}{u:Zh}{o:Obj}{n:String}{O:Tk}{Q:Unit->Zl->Prop}(m:s.heap.get? it=J o)(k:o.cls=.type n)(hd:o.data=.fields O)
  (hn:["enumerate","zip","dict_itemiterator","dict_reverseitemiterator","odict_iterator","itertools.zip_longest","itertools.pairwise"].contains n=Zi)(j:Q () s):Zv M A (Zdb tg (.ref it) u) Q E s:=by
 cases tg<;>first
  |exact Zk j
  | (cases u<;>first
    |exact Zk j
    | (refine Zb (wpAny_load m ?_)
       rw[k,hd];show Zv M A (if (["enumerate","zip","dict_itemiterator","dict_reverseitemiterator","odict_iterator","itertools.zip_longest","itertools.pairwise"].contains n&&O[0]?==J (Za9 _))=Zg then _ else _) Q E s;rw[if_neg 05];exact Zk j))
def Itl(K:W.Frag)(a:Zm):It:=#[λi H=>∃xs x,SqL K H a xs/\xs[i]?=J x,λi H x H'=>H'=H/\∀xs,SqL K H a xs->xs[i]?=J x,λi H=>∃xs,SqL K H a xs/\xs.length<=i]
def Itt(K:W.Frag)(a:Zm):It:=#[λi H=>∃xs x,SqT K H a xs/\xs[i]?=J x,λi H x H'=>H'=H/\∀xs,SqT K H a xs->xs[i]?=J x,λi H=>∃xs,SqT K H a xs/\xs.length<=i]
def Itr(lo:Int)(n:Nat):It:=#[λi _=>i<n,λi H x H'=>H'=H/\x=.int (lo+i),λi _=>n<=i]
theorem Jmt{P:Z7}{w:ZU}{K:W.Frag}{tg:Expr}(a it:Zm):Turn P w K tg (Itl K a) [it] it (λi h=>h.IsListIter it a i) where
 mem:=03
 obj:=λi h st b j=>by
  have e:b=it:=by simpa using j
  subst e;obtain⟨o,e,c,d⟩:=st;exact#[o,e,λv z=>by rw[d]at z;cases z]
 keep:=λi h h' st k=>st.at λo e=>k it 03 o e
 item:=by
  intro X Z Q Y hc i V s U H E I B st S;subst Z Q Y;obtain⟨xs,x,C,hx⟩:=S;obtain⟨R,L,p,hz⟩:=I.list C;obtain⟨u,hu,ru⟩:=L.get hx;obtain⟨F,M,f2,D,G,O⟩:=B it 03;refine Zeb st p.isList (by simpa using hu) λh' m sb=>?_
  have I1:=I.turned (t':=s.toks) (λb o j e=>(sb.2 b j).trans e) F M D G O;obtain⟨o,e,c,d⟩:=id m;exact#[u,rfl,Jva e c d 01 #[x,H,I1,ru,#[rfl,λys hy=>by rw[I.list_inj hy C];exact hx],m,λb j=>(B b j).1]]
 done:=by intro X Z Q Y hc i V s U H E I B st S;subst Z Q Y;obtain⟨xs,C,hx⟩:=S;obtain⟨R,L,p,hz⟩:=I.list C;obtain⟨F,M,f2,D,G,O⟩:=B it 03;have hl:=L.length;exact Zey (I.ok.hd hc) st p.isList (by simp;lia) λh' eb=>#[rfl,I.turned (λb o j e=>eb b o j e) F M D G O]
 self:=λ_ _ _ _ _ st h=>wpAny_pyIter_listiter st h
theorem Jqr{P:Z7}{w:ZU}{K:W.Frag}{tg:Expr}(a it:Zm):Turn P w K tg (Itt K a) [it] it (λi h=>h.IsTupleIter it a i) where
 mem:=03
 obj:=λi h st b j=>by
  have e:b=it:=by simpa using j
  subst e;obtain⟨o,e,c,d⟩:=st;exact#[o,e,λv z=>by rw[d]at z;cases z]
 keep:=λi h h' st k=>st.at λo e=>k it 03 o e
 item:=by
  intro X Z Q Y hc i V s U H E I B st S;subst Z Q Y;obtain⟨xs,x,C,hx⟩:=S;obtain⟨R,L,p,hz⟩:=I.tuple C;obtain⟨u,hu,ru⟩:=L.get hx;obtain⟨F,M,f2,D,G,O⟩:=B it 03;refine wpAny_pyNext_tuple_item st (p) (by simpa using hu) λh' m sb=>?_
  have I1:=I.turned (t':=s.toks) (λb o j e=>(sb.2 b j).trans e) F M D G O;obtain⟨o,e,c,d⟩:=id m;exact#[u,rfl,Jva e c d 01 #[x,H,I1,ru,#[rfl,λys hy=>by rw[I.tuple_inj hy C];exact hx],m,λb j=>(B b j).1]]
 done:=by intro X Z Q Y hc i V s U H E I B st S;subst Z Q Y;obtain⟨xs,C,hx⟩:=S;obtain⟨R,L,p,hz⟩:=I.tuple C;obtain⟨F,M,f2,D,G,O⟩:=B it 03;have hl:=L.length;exact wpAny_pyNext_tuple_end (I.ok.hd hc) st (p) (by simp;lia) λh' eb=>#[rfl,I.turned (λb o j e=>eb b o j e) F M D G O]
 self:=λ_ _ _ _ _ st h=>wpAny_pyIter_tupleiter st h
theorem Jqq{P:Z7}{w:ZU}{K:W.Frag}{tg:Expr}(it:Zm)(lo:Int)(n:Nat):Turn P w K tg (Itr lo n) [it] it (λi h=>IsRangeIter h it (lo+(i:Nat)*1) ((n:Int)-(i:Nat)) 1) where
 mem:=03
 obj:=λi h st b j=>by
  have e:b=it:=by simpa using j
  subst e;exact#[_,st,λv z=>by have z':=z;cases z']
 keep:=λi h F st k=>k it 03 _ st
 item:=by
  intro X S O R G i V s U H E I u st Q;subst S O R;obtain⟨C,L,f2,B,D,M⟩:=u it 03;have W:=Walks.range (prog:=X.prog) (w:=X.w) (I.ok.hd G) it lo 1 n;refine W.item i s _ _ Q st λv F Y hv m kk=>?_
  obtain⟨t,rfl⟩:=hv;have I1:Inv X V U H {s with heap:=F,toks:=Y}:=I.turned (λb o j e=>kk b o (by simpa using j) e) C L B D M;refine#[_,rfl,Jva m rfl rfl 01 #[.int<|lo+i,H,I1,#[t,?_],#[rfl,rfl],m,λb j=>(u b j).1]];rw[Int.mul_one]
 done:=by intro X S O R G i V s U H E I u st Q;subst S O R;obtain⟨C,L,f2,B,D,M⟩:=u it 03;exact wpAny_pyNext_range_end (I.ok.hd G) st (by have:n<=i:=Q;lia) λF Z=>#[rfl,I.turned (λb o j e=>Z b o j e) C L B D M]
 self:=λ_ _ _ _ _ st h=>wpAny_pyIter_rangeiter st h
section
variable{X:Cx}{tg:Expr}
theorem Jwe{V:PnT}{U:St}{H:Hp}{s:Zl}{R:It->Hp->Prop}{E:QvT}{lo hi:Int}{t u v:Tok}{tk:Nat}(I:Inv X V U H s)(h1: -(2^62)<=lo)(L:lo<2^62)(h3: -(2^62)<=hi)(B:hi<2^62)
  (q:R (Itr lo (hi-lo).toNat) H):Zv (Zy X.prog X.w) X.A (Zdv<|.ref s.heap.objs.size) (PIE X V U tg R) E {s with heap:=s.heap.push {cls:=.type "range",data:=.fields (ZaE [.int lo t,.int hi u,.int 1 v])},toks:=tk}:=by
 refine wpAny_pyIter_range (IsRange.new ..) (small_one h1 L h3 B) ?_;have I1:Inv X V U H {s with heap:=s.heap.push {cls:=.type "range",data:=.fields (ZaE [.int lo t,.int hi u,.int 1 v])},toks:=tk}:=I.kept λb o e=>Ze _ e
 refine#[(s.heap.push {cls:=.type "range",data:=.fields (ZaE [.int lo t,.int hi u,.int 1 v])}).objs.size,[(s.heap.push {cls:=.type "range",data:=.fields (ZaE [.int lo t,.int hi u,.int 1 v])}).objs.size],_,_,H,rfl,
  I1.kept (t':=tk) λb o e=>Ze _ e,Jqq _ lo (hi-lo).toNat,?_,λb k=>?_,q]
 .have m:lo+((0:Nat):Int)*1=lo:=03;have j:(((hi-lo).toNat:Nat):Int)-((0:Nat):Int)=ZdM lo hi 1:=by rw[rangeSize_one];split<;>lia
  rw[m,j];exact Zs _ rfl
 .have e:b=(s.heap.push {cls:=.type "range",data:=.fields (ZaE [.int lo t,.int hi u,.int 1 v])}).objs.size:=by simpa using k
  subst e;exact I1.fpOk (Zq _)<|I1.hok.fresh<|Zq _
def QR(fp:Tw)(h:Zam):PnT:=fp.filterMap λb=>(h.get? b).map λo=>(b,o)
theorem Y5{fp:Tw}{h:Zam}{b:Zm}{o:Obj}(j:b∈fp)(e:h.get? b=J o):(b,o)∈QR fp h:=List.mem_filterMap.mpr #[b,j,by rw[e];rfl]
theorem Js9{fp:Tw}{h:Zam}{p:Zm×Obj}(hp:p∈QR fp h):p.1∈fp/\h.get? p.1=J p.2:=by obtain⟨b,j,e⟩:=List.mem_filterMap.mp hp;cases q:h.get? b with|none=>rw[q]at e;cases e|some o=>rw[q]at e;have k:=Zas e;subst k;exact#[j,q]
theorem Inv.pinned{V:PnT}{U:St}{H:Hp}{s:Zl}{fp:Tw}(I:Inv X V U H s)(B:∀b∈fp,FpOk X V H b)(u:∀b∈fp,∃o,s.heap.get? b=J o/\∀v,o.data≠.cell v):Inv X (V++QR fp s.heap) U H s:=I.pins_of λp hp=>(ZZ.mp hp).elim (λz=>I.pin p<|Zp _ z) λz=>by obtain⟨j,e⟩:=Js9 z;obtain⟨C,m,D,_⟩:=B p.1 j;obtain⟨o,k,d⟩:=u p.1 j;rw[e]at k;cases k;exact#[e,C,m,D,d]
theorem Inv.unpinned{V pl:PnT}{U:St}{H:Hp}{s:Zl}(I:Inv X (V++pl) U H s):Inv X V U H s:=I.pins_of λp hp=>I.pin p<|Zp _<|Zax _ hp
end
abbrev R2:=hV->hV->Hp->VK->Prop
def OpR(X:Cx)(f:Zh->Zh->Sem Zh)(r:R2):Prop:=∀(V:PnT)(s:Zl)(U:St)(H:Hp)(x y:hV)(v u:Zh)(Q:VK),Inv X V U H s->RelV x v->RelV y u->r x y H Q ->Zv (Zy X.prog X.w) X.A (f v u) (EP X V U Q) X.xe s
def UnR(X:Cx)(f:Zh->Sem Zh)(r:hV->Hp->VK->Prop):Prop:=∀(V:PnT)(s:Zl)(U:St)(H:Hp)(x:hV)(v:Zh)(Q:VK),Inv X V U H s->RelV x v->r x H Q ->Zv (Zy X.prog X.w) X.A (f v) (EP X V U Q) X.xe s
def Xd(X:Cx)(f:Zh)(r:Ud->Hp->VK->Prop):Prop:=∀(V:PnT)(s:Zl)(U:St)(H:Hp)(xs:Ud)(us:Tv)(Q:VK),Inv X V U H s->Vals xs us->r xs H Q ->Zv (Zy X.prog X.w) X.A (call f us) (EP X V U Q) X.xe s
def TruR(X:Cx)(r:hV->Hp->(Bool->Hp->Prop)->Prop):Prop:=∀(V:PnT)(s:Zl)(U:St)(H:Hp)(x:hV)(v:Zh)(Q:Bool->Hp->Prop),Inv X V U H s->RelV x v->r x H Q ->Zv (Zy X.prog X.w) X.A (truthy v) (TP X V U Q) X.xe s
def rI(C:Int->Int->Prop)(g:Int->Int->hV):R2:=λx y H Q=>∃i j,x=.int i/\y=.int j/\C i j/\Q (g i j) H
def rI0(g:Int->Int->hV):R2:=λx y H Q=>∃i j,x=.int i/\y=.int j/\Q (g i j) H
def rU(g:Int->hV):hV->Hp->VK->Prop:=λx H Q=>∃i,x=.int i/\Q (g i) H
section
variable{X:Cx}{a b c:Expr}{ta tb tc:TE}{pos:Pos}
theorem opI{f:Zh->Zh->Sem Zh}{C:Int->Int->Prop}{g:Int->Int->Int} (k:∀(i j:Int)(t u:Tok)(s:Zl)(Q E:QvT),C i j->Q (.int (g i j) s.toks) {s with toks:=s.toks+1}->Zv (Zy X.prog X.w) X.A (f (.int i t)<|.int j u) Q E s):OpR X f (rI C λi j=>.int<|g i j):=by intro V s U H x y v u Q I m F h;obtain⟨i,j,rfl,rfl,D,q⟩:=h;obtain⟨t,rfl⟩:=m;obtain⟨B,rfl⟩:=F;exact k i j t B s _ _ D #[.int<|g i j,H,I.tok _,#[_,rfl],q]
theorem opI0{f:Zh->Zh->Sem Zh}{g:Int->Int->Int} (k:∀(i j:Int)(t u:Tok)(s:Zl)(Q E:QvT),Q (.int (g i j) s.toks) {s with toks:=s.toks+1}->Zv (Zy X.prog X.w) X.A (f (.int i t)<|.int j u) Q E s):OpR X f (rI0 λi j=>.int<|g i j):=by intro V s U H x y v u Q I m C h;obtain⟨i,j,rfl,rfl,q⟩:=h;obtain⟨t,rfl⟩:=m;obtain⟨B,rfl⟩:=C;exact k i j t B s _ _ #[.int<|g i j,H,I.tok _,#[_,rfl],q]
theorem opB0{f:Zh->Zh->Sem Zh}{g:Int->Int->Bool} (k:∀(i j:Int)(t u:Tok)(s:Zl)(Q E:QvT),Q (.bool<|g i j) s->Zv (Zy X.prog X.w) X.A (f (.int i t)<|.int j u) Q E s):OpR X f (rI0 λi j=>.bl<|g i j):=by intro V s U H x y v u Q I m C h;obtain⟨i,j,rfl,rfl,q⟩:=h;obtain⟨t,rfl⟩:=m;obtain⟨B,rfl⟩:=C;exact k i j t B s _ _ #[.bl<|g i j,H,I,rfl,q]
def CPow(i j:Int):Prop:=0<=j/\j<=1000000/\i.natAbs<2^64
theorem J38:OpR X (ZaW .Add) (rI0 λi j=>.int<|i+j):=opI0 λ_ _ _ _ _ _ _ q=>add_int q
theorem J4d:OpR X (ZaW .Sub) (rI0 λi j=>.int<|i-j):=opI0 λ_ _ _ _ _ _ _ q=>sub_int q
theorem J4a:OpR X (ZaW .Mod) (rI (λ_ j=>0<j) λi j=>.int<|i%j):=opI λi j _ _ _ _ _ k q=>by have m:=k;exact mod_int' 05<|by rw[Int.fmod_eq_emod_of_nonneg i 05];exact q
theorem J4b:OpR X (ZaW .Pow) (rI CPow λi j=>.int<|i^j.toNat):=opI λ_ _ _ _ _ _ _ k q=>pow_int_small k.1 k.2.1 k.2.2 q
theorem unI{f:Zh->Sem Zh}{g:Int->Int} (j:∀(i:Int)(t:Tok)(s:Zl)(Q E:QvT),Q (.int (g i) s.toks) {s with toks:=s.toks+1}->Zv (Zy X.prog X.w) X.A (f<|.int i t) Q E s):UnR X f (rU λi=>.int<|g i):=by intro V s U H x v Q I k h;obtain⟨i,rfl,q⟩:=h;obtain⟨t,rfl⟩:=k;exact j i t s _ _ #[.int<|g i,H,I.tok _,#[_,rfl],q]
theorem J5h:UnR X (unaryOp .USub) (rU λi=>.int (-i)):=unI λ_ _ _ _ _ q=>neg_int q
end
noncomputable def scal:hV->hV->Bool|.non,.non=>Zg|.non,.int _=>Zg|.int _,.non=>Zg|.non,.bl _=>Zg|.bl _,.non=>Zg|.non,.str _=>Zg|.str _,.non=>Zg|.int _,.int _=>Zg|.bl _,.bl _=>Zg|.str _,.str _=>Zg|.byt _,.byt _=>Zg|.int _,.str _=>Zg|.str _,.int _=>Zg|.bl _,.str _=>Zg|.str _,.bl _=>Zg|_,_=>Zi
def rEq:R2:=λx y H Q=>scal x y=Zg/\Q (.bl<|decide (x=y)) H
def rNe:R2:=λx y H Q=>scal x y=Zg/\Q (.bl (!decide (x=y))) H
theorem Jrl{i j:Int}:decide (hV.int i=hV.int j)=(i==j):=by rw[Zcy];simp
theorem Jxl{i j:Bool}:decide (hV.bl i=hV.bl j)=(i==j):=by rw[Zcy];simp
theorem Jrm{i j:Str}:decide (hV.str i=hV.str j)=(i==j):=by rw[Zcy];simp
theorem Jrk{i j:Array UInt8}:decide (hV.byt i=hV.byt j)=(i.toList==j.toList):=by rw[Zcy];cases i;cases j;simp
section
variable{X:Cx}{a b c:Expr}{ta tb tc:TE}{pos:Pos}
theorem J9{V:PnT}{U:St}{H:Hp}{s:Zl}{Q:VK}{k j:Bool}(I:Inv X V U H s)(q:Q (.bl k) H)(e:k=j):EP X V U Q (.bool j) s:=by subst e;exact#[.bl k,H,I,rfl,q]
theorem J7a:OpR X (Za0 .Eq) rEq:=by
 intro V s U H x y v u Q I C k h;obtain⟨B,q⟩:=h;cases x with
 |non=>cases C;cases y with|non=>cases k;exact PySem.EqNone.eq_none_none<|J9 I q 03|bl j=>cases k;exact PySem.EqNone.eq_none_bool<|J9 I q 03|int j=>obtain⟨m,rfl⟩:=k;exact PySem.EqNone.eq_none_int<|J9 I q 03|str j=>obtain⟨m,rfl⟩:=k;exact PySem.EqNone.eq_none_str<|J9 I q 03|_=>exact absurd (show Zi=Zg from B) Zt
 |bl i=>cases C;cases y with|non=>cases k;exact PySem.EqNone.eq_bool_none<|J9 I q 03|bl j=>cases k;exact eq_bool<|J9 I q Jxl|str j=>obtain⟨m,rfl⟩:=k;exact PySem.EqMixed.eq_bool_str<|J9 I q 03|_=>exact absurd (show Zi=Zg from B) Zt
 |int i=>obtain⟨t,rfl⟩:=C;cases y with|non=>cases k;exact PySem.EqNone.eq_int_none<|J9 I q 03|int j=>obtain⟨m,rfl⟩:=k;exact eq_int<|J9 I q Jrl|str j=>obtain⟨m,rfl⟩:=k;exact PySem.EqMixed.eq_int_str<|J9 I q 03|_=>exact absurd (show Zi=Zg from B) Zt
 |str i=>obtain⟨t,rfl⟩:=C;cases y with|non=>cases k;exact PySem.EqNone.eq_str_none<|J9 I q 03|bl j=>cases k;exact PySem.EqMixed.eq_str_bool<|J9 I q 03|int j=>obtain⟨m,rfl⟩:=k;exact PySem.EqMixed.eq_str_int<|J9 I q 03|str j=>obtain⟨m,rfl⟩:=k;exact eq_str<|J9 I q Jrm|_=>exact absurd (show Zi=Zg from B) Zt
 |byt i=>obtain⟨t,rfl⟩:=C;cases y with|byt j=>obtain⟨m,rfl⟩:=k;exact W.eq_bytes<|J9 I q Jrk|_=>exact absurd (show Zi=Zg from B) Zt
 |_=>cases y<;>exact absurd (show Zi=Zg from B) Zt
theorem J7f:OpR X (Za0 .NotEq) rNe:=by
 intro V s U H x y v u Q I C k h;obtain⟨B,q⟩:=h;cases x with
 |non=>cases C;cases y with|non=>cases k;exact PySem.EqNone.ne_none_none<|J9 I q 03|bl j=>cases k;exact PySem.EqNone.ne_none_bool<|J9 I q 03|int j=>obtain⟨m,rfl⟩:=k;exact PySem.EqNone.ne_none_int<|J9 I q 03|str j=>obtain⟨m,rfl⟩:=k;exact PySem.EqNone.ne_none_str<|J9 I q 03|_=>exact absurd (show Zi=Zg from B) Zt
 |bl i=>cases C;cases y with|non=>cases k;exact PySem.EqNone.ne_bool_none<|J9 I q 03|bl j=>cases k;exact ne_bool<|J9 I q<|congrArg not Jxl|str j=>obtain⟨m,rfl⟩:=k;exact PySem.EqMixed.ne_bool_str<|J9 I q 03|_=>exact absurd (show Zi=Zg from B) Zt
 |int i=>obtain⟨t,rfl⟩:=C;cases y with|non=>cases k;exact PySem.EqNone.ne_int_none<|J9 I q 03|int j=>obtain⟨m,rfl⟩:=k;exact ne_int<|J9 I q<|congrArg not Jrl|str j=>obtain⟨m,rfl⟩:=k;exact PySem.EqMixed.ne_int_str<|J9 I q 03|_=>exact absurd (show Zi=Zg from B) Zt
 |str i=>obtain⟨t,rfl⟩:=C;cases y with|non=>cases k;exact PySem.EqNone.ne_str_none<|J9 I q 03|bl j=>cases k;exact PySem.EqMixed.ne_str_bool<|J9 I q 03|int j=>obtain⟨m,rfl⟩:=k;exact PySem.EqMixed.ne_str_int<|J9 I q 03|str j=>obtain⟨m,rfl⟩:=k;exact ne_str<|J9 I q<|congrArg not Jrm|_=>exact absurd (show Zi=Zg from B) Zt
 |byt i=>obtain⟨t,rfl⟩:=C;cases y with|byt j=>obtain⟨m,rfl⟩:=k;exact W.ne_bytes<|J9 I q<|congrArg not Jrk|_=>exact absurd (show Zi=Zg from B) Zt
 |_=>cases y<;>exact absurd (show Zi=Zg from B) Zt
theorem J7e:OpR X (Za0 .Lt) (rI0 λi j=>.bl<|decide (i<j)):=opB0 λ_ _ _ _ _ _ _ q=>lt_int q
theorem J7d:OpR X (Za0 .LtE) (rI0 λi j=>.bl<|decide (i<=j)):=opB0 λ_ _ _ _ _ _ _ q=>le_int q
theorem J7c:OpR X (Za0 .Gt) (rI0 λi j=>.bl<|decide (j<i)):=opB0 λ_ _ _ _ _ _ _ q=>gt_int q
theorem J7b:OpR X (Za0 .GtE) (rI0 λi j=>.bl<|decide (j<=i)):=opB0 λ_ _ _ _ _ _ _ q=>ge_int q
theorem Jtb:OpR X (Za0 .Lt) (λx y H Q=>∃i j,x=.str i/\y=.str j/\Q (.bl<|decide (i.cps.toList<j.cps.toList)) H):=by intro V s U H x y v u Q I k m h;obtain⟨i,j,rfl,rfl,q⟩:=h;obtain⟨t,rfl⟩:=k;obtain⟨B,rfl⟩:=m;exact lt_str<|J9 I q rfl
def TruV(K:W.Frag)(x:hV)(H:Hp)(k:Bool):Prop:=match x with|.non=>k=Zi|.bl b=>k=b|.int i=>k=(i != 0)|.str y=>y.length<=sizeLine/\k=((y.length:Int) != 0)|.byt y=>y.size<=sizeLine/\k=((y.size:Int) != 0)|.ref p=>(∃xs,SqL K H p xs/\k=!xs.isEmpty)\/(∃xs,SqT K H p xs/\k=!xs.isEmpty)\/∃kvs,H p=J (.dK kvs)/\k=!kvs.isEmpty|_=>False
theorem Jp4{κ:Type}{kvs:List (κ×hV)}{O:List (κ×Zh)}(r:KV kvs O):(!O.isEmpty)=!kvs.isEmpty:=by cases r<;>rfl
theorem Jix{xs:Ud}{its:Tv}(r:Vals xs its):(!its.toArray.isEmpty)=!xs.isEmpty:=by cases r<;>simp
theorem Xn:(sizeLine:Nat)<2^63:=by rw[Za8];decide
theorem VY:TruR X (λx H Q=>∃k,TruV X.K x H k/\Q k H):=by
 intro V s U H x v Q I B h;obtain⟨k,e,q⟩:=h;have L:=Xn;have G:=Za8;cases x with
 |non=>cases B;have j:k=Zi:=e;subst j;exact truthy_none #[H,I,q]
 |bl b=>cases B;have j:k=b:=e;subst j;exact Zbq #[H,I,q]
 |int i=>obtain⟨t,rfl⟩:=B;have j:k=(i != 0):=e;subst j;exact PySem.P.truthy_int #[H,I,q]
 |str y=>obtain⟨t,rfl⟩:=B;obtain⟨E,j⟩:y.length<=sizeLine/\k=((y.length:Int) != 0):=e;subst j;exact PySem.P.truthy_str 05 #[H,I.tok _,q]
 |byt y=>obtain⟨t,rfl⟩:=B;obtain⟨E,j⟩:y.size<=sizeLine/\k=((y.size:Int) != 0):=e;subst j;exact W.truthy_bytes 05 #[H,I.tok _,q]
 |ref p=>
  cases B;have j:=e;rcases j with⟨xs,hx,j⟩|⟨xs,hx,j⟩|⟨kvs,hx,j⟩
  .subst j;obtain⟨C,r,pl,D⟩:=I.list hx;have u:=r.length;exact wpAny_truthy_list pl.isList (by simp only[ZV];lia) #[H,I.tok _,by rw[Jix r];exact q]
  .subst j;obtain⟨C,r,pl,D⟩:=I.tuple hx;have u:=r.length;exact truthy_tuple pl (by simp only[ZV];lia) #[H,I.tok _,by rw[Jix r];exact q]
  .subst j;obtain⟨D,F,O,r,m⟩:kvs.length<=sizeLine/\(p==Zc3)=Zi/\∃O,KV kvs O/\s.heap.DictOf (Vq X.prog X.w) p O:=I.hok p _ hx;have u:=ZeL r;exact wpAny_truthy_dict F m 05 #[H,I.tok _,by rw[Jp4 r];exact q]
 |_=>exact Zf e
theorem Jqc:OpR X (ZaW .Add) (λx y H Q=>∃i j,x=.str i/\y=.str j/\i.length+j.length<=sizeLine/\Q (.str<|i++j) H):=by intro V s U H x y v u Q I k C h;obtain⟨i,j,rfl,rfl,m,q⟩:=h;obtain⟨t,rfl⟩:=k;obtain⟨B,rfl⟩:=C;exact add_str (λB D=>#[.str<|i++j,H,I.tok _,#[_,rfl],q]) m
theorem Qq{x:hV}{us:Tv}(r:Vals [x] us):∃u,us=[u]/\RelV x u:=by cases r with|cons k j=>cases j;exact#[_,rfl,k]
theorem J5k{x y:hV}{us:Tv}(r:Vals [x,y] us):∃u j,us=[u,j]/\RelV x u/\RelV y j:=by
 cases r with|cons C m=>cases m with|cons k B=>cases B;exact#[_,_,rfl,C,k]
theorem Jrf(B:X.calm=Zg):Xd X (.builtin "max") (λxs H Q=>∃i j,xs=[.int i,.int j]/\Q (.int (if j>i then j else i)) H):=by
 intro V s U H xs G Q I r h;obtain⟨i,j,rfl,q⟩:=h;obtain⟨u,C,rfl,⟨t,rfl⟩,⟨F,rfl⟩⟩:=J5k r;refine max_two_ints (I.ok.hd B) λE D k=>#[_,H,I.kept k,?_,q]
 by_cases m:j>i
 .rw[if_pos m,if_pos m];exact#[_,rfl]
 .rw[if_neg m,if_neg m];exact#[_,rfl]
theorem Jrg(B:X.calm=Zg):Xd X (.builtin "min") (λxs H Q=>∃i j,xs=[.int i,.int j]/\Q (.int (if j<i then j else i)) H):=by
 intro V s U H xs G Q I r h;obtain⟨i,j,rfl,q⟩:=h;obtain⟨u,C,rfl,⟨t,rfl⟩,⟨F,rfl⟩⟩:=J5k r;refine min_two_ints (I.ok.hd B) λE D k=>#[_,H,I.kept k,?_,q]
 by_cases m:j<i
 .rw[if_pos m,if_pos m];exact#[_,rfl]
 .rw[if_neg m,if_neg m];exact#[_,rfl]
theorem Jlb:Xd X (.type "int") (λxs H Q=>(∃i,xs=[.int i]/\Q (.int i) H)\/∃k,xs=[.bl k]/\Q (.int (if k then 1 else 0)) H):=by
 intro V s U H xs m Q I r h;rcases h with⟨i,rfl,q⟩|⟨k,rfl,q⟩
 .obtain⟨u,rfl,t,rfl⟩:=Qq r;exact call_int_int #[.int i,H,I,#[_,rfl],q]
 .obtain⟨u,rfl,j⟩:=Qq r;cases j;exact call_int_bool #[.int (if k then 1 else 0),H,I.tok _,#[_,rfl],q]
def LenV(K:W.Frag)(x:hV)(H:Hp)(n:Nat):Prop:=match x with|.str y=>y.length<=sizeLine/\n=y.length|.byt y=>y.size<=sizeLine/\n=y.size|.ref p=>(∃xs,SqL K H p xs/\n=xs.length)\/∃xs,SqT K H p xs/\n=xs.length|_=>False
theorem Jgc:Xd X (.builtin "len") (λxs H Q=>∃x n,xs=[x]/\LenV X.K x H n/\Q (.int n) H):=by
 intro V s U H xs L Q I r h;obtain⟨x,n,rfl,e,q⟩:=h;obtain⟨u,rfl,C⟩:=Qq r;have F:=Xn;have G:=Za8;cases x with
 |str y=>obtain⟨t,rfl⟩:=C;obtain⟨E,k⟩:y.length<=sizeLine/\n=y.length:=e;subst k;exact len_str 05 #[.int _,H,I.tok _,#[_,rfl],q]
 |byt y=>obtain⟨t,rfl⟩:=C;obtain⟨E,k⟩:y.size<=sizeLine/\n=y.size:=e;subst k;exact W.len_bytes 05 #[.int _,H,I.tok _,#[_,rfl],q]
 |ref p=>
  cases C;have k:=e;rcases k with⟨xs,hx,k⟩|⟨xs,hx,k⟩
  .subst k;obtain⟨B,m,pl,D⟩:=I.list hx;have j:=m.length;exact Calls.call_len_list pl.isList (by simp;lia) #[.int xs.length,H,I.tok _,#[_,by simp only[ZV];rw[j]],q]
  .subst k;obtain⟨B,m,pl,D⟩:=I.tuple hx;have j:=m.length;exact len_tuple pl (by simp;lia) #[.int xs.length,H,I.tok _,#[_,by simp only[ZV];rw[j]],q]
 |_=>exact Zf e
end
structure ObjM(h:Zam)(x dx C:Zm)(mA:Str->Tc):Prop where
 obj:h.get? x=J (W.instObj C dx)
 ns:h.Ns1 dx mA
 ne:dx≠x
theorem Js1{h:Zam}{dx:Zm}{mA:Str->Tc}(n:h.Ns1 dx mA):∃od,h.get? dx=J od/\∀name,W.lookIn name od=J (mA name):=by
 obtain⟨o,k,D,u,hd,B,_,hm⟩:=n;refine#[o,u,λname=>?_];have e:=hm name;unfold nsFind findBy at e;rw[<-Zdw]at e;unfold W.lookIn;rw[hd];dsimp only;split
 .simp_all
 .rename_i q;rw[q]at e;have a:k.toList.any (·.refKey)=Zi:=by rw[ZbZ];intro y C;obtain⟨z,t,j⟩:=B y<|Array.mem_toList_iff.mp C;simp[DictEntry.refKey,j]
  have m:¬k.toList.any (·.refKey)=Zg:=by rw[a];exact Zt
  rw[if_neg m];exact congrArg J e
theorem ObjM.look{h:Zam}{x dx C:Zm}{mA:Str->Tc}(I:ObjM h x dx C mA):∃od,W.InstAt h x (W.instObj C dx) C (J od)/\∀name,W.lookIn name od=J (mA name):=
 let ⟨od,k,j⟩:=Js1 I.ns
 #[od,#[I.obj,rfl,rfl,k],j]
section
variable{prog:Z7}{w:ZU}{A:ZI}{E:QvT}{s:Zl}{K:W.Frag}{x dx C f:Zm}{mA:Str->Tc}{name:Str}{v:Zh}
theorem Jzi{j:Bool}{Q:QvT}(X:K.In s.heap)(I:ObjM s.heap x dx C mA)(D:W.plainGet K C name=Zg)(B:W.hasDictIn K C=Zg) (ha:W.findIn K (.ref C) name=J Zc)(hv:mA name=J v)(k:W.handedIn v=Zg)(h:Q v {s with toks:=s.toks+1}):Zv (Zy prog w) A (getAttr (.ref x) name j) Q E s:=by obtain⟨F,u,m⟩:=I.look;exact W.get_value X u (W.plainGet_of D).1 (W.findObj_own B ha rfl (by rw[m,hv])) k h
theorem Ju9{pl:Sem Bool}{Q:Zh×Tv->Zl->Prop}(X:K.In s.heap)(I:ObjM s.heap x dx C mA)(j:W.plainGet K C name=Zg) (m:W.findIn K (.ref C) name=J (J<|.ref f))(D:W.isFn K (.ref f)=Zg)(hv:mA name=Zc)(h:Q (.ref f,[.ref x]) s):Zv (Zy prog w) A (Zdr (.ref x) name pl) Q E s:=by obtain⟨u,B,k⟩:=I.look;exact W.method_fn X B (W.plainGet_of j).1 (W.plainGet_of j).2 m (beq_iff_eq.mp D) (by show(W.lookIn name u).map (·.isSome)=J Zi;rw[k,hv];rfl) h
theorem J02{ns:Tl}{Q:Unit->Zl->Prop}(X:K.In s.heap)(I:ObjM s.heap x dx C mA) (hs:W.findIn K (.ref C) "__setattr__"=J (J<|.builtin "object.__setattr__"))(hp:W.plainOver K C=Zg)(G:W.takerIn K C name=J Zc)(L:W.hasDictIn K C=Zg) (H:ZeV mA ns)(hsz:ns.length<=sizeLine) (h:∀h',ObjM h' x dx C (λy=>if y=name then J v else mA y)->Zbo dx s.heap h'->Q () {s with heap:=h',toks:=s.toks+2}):Zv (Zy prog w) A (setAttr (.ref x) name v) Q E s:=by
 obtain⟨U,F,R⟩:=I.look;refine W.set_plain X F hs<|W.osa_open (r:=Zc) X F hp G λb=>?_
 obtain⟨cd,P,D⟩:=W.any_some L;have hx:=I.obj;refine Zb<|Zk<|Zb<|Zb<|Ze4 hx<|Zb<|W.Looks.here (W.looks_clsIn X P) ?_;rw[D];refine Zk (a:=J dx)<|Zb<|Zk<|Zb ?_;refine wpAny_nsSet1 I.ns λh' k j=>?_
 obtain⟨S,M,O,u,B,m⟩:=k.count<|PySem.Within.cons name v H;refine Zb (wpAny_lookBehind u (by rw[B];exact pastItsLine_dict<|ZM m<|by rw[Zar];lia) ?_);exact Zk<|h _ #[(j.2 _<|ZP I.ne).trans I.obj,k,I.ne] j
theorem Jv2{R:Zec->Zl->Prop}{O:Tv}{kw:Wl}(X:K.In s.heap)(hm:W.makesIn K C=Zg) (hi:W.findIn K (.ref C) "__init__"=J (J<|.ref f))(j:W.typeIn K (.ref f)=J (.type "function")) (h:ZbI (Zy prog w) (A.under<|.builtin "type.__call__" #[.ref C::O,kw]) (.call (.ref f) #[.ref (s.heap.objs.size+1)::O,kw]) (W.InitBack (s.heap.objs.size+1) R) {s with heap:=(s.heap.push W.emptyDict).push (W.instObj C s.heap.objs.size)}):ZbI (Zy prog w) A (.call (.ref C) #[O,kw]) R s:=by obtain⟨k,g,d,t,os⟩:=s;exact W.make_core (W.makes_of X hm) (W.looks_findIn X hi) (λself=>W.bind_fn X self j) (.inl rfl) h
end
noncomputable def putF (f:Str)(v:hV):Wu->Wu|[]=>[(f,v)]|(g,x)::r=>if g=f then(g,v)::r else(g,x)::putF f v r
theorem Jhj(f g:Str)(v:hV):∀fs:Wu,(putF f v fs).lookup g=if g=f then J v else fs.lookup g
 |[]=>by
  show ZcY g [(f,v)]=_;by_cases h:g=f
  .simp_all
  .simp_all
 |(k,x)::r=>by
  have u:=Jhj f g v r;rw[show putF f v ((k,x)::r)=(if k=f then(k,v)::r else(k,x)::putF f v r)from rfl];by_cases j:k=f
  .rw[if_pos j];by_cases h:g=k
   .simp_all
   .have m:(g==k)=Zi:=beq_eq_false_iff_ne.mpr h;simp only[ZcY,m,if_neg λe:g=f=>h<|e.trans j.symm]
  .rw[if_neg j];by_cases h:g=k
   .simp_all
   .have m:(g==k)=Zi:=beq_eq_false_iff_ne.mpr h;simp only[ZcY,m];exact u
theorem Jhh(f:Str)(v:hV):∀fs:Wu,f∈(putF f v fs).map (·.1)/\∀g,g∈fs.map (·.1)->g∈(putF f v fs).map (·.1)
 |[]=>#[by simp[putF],λg h=>by simp at h]
 |(k,x)::r=>by
  obtain⟨u,m⟩:=Jhh f v r;rw[show putF f v ((k,x)::r)=(if k=f then(k,v)::r else(k,x)::putF f v r)from rfl];by_cases j:k=f
  .simp_all
  .rw[if_neg j];refine#[?_,λg h=>?_]
   .simp_all
   .rw[ZL]at h ⊢;rcases ZA.mp h with e|e
    .exact ZA.mpr<|.inl e
    .exact Zr _<|m g e
theorem Jhi(f:Str)(v:hV):∀fs:Wu,(putF f v fs).length<=fs.length+1
 |[]=>by simp[putF]
 |(k,x)::r=>by
  have m:=Jhi f v r;rw[show putF f v ((k,x)::r)=(if k=f then(k,v)::r else(k,x)::putF f v r)from rfl];by_cases j:k=f
  .simp_all
  .simp_all
theorem RelO.some_of{v:hV}{o:Tc}(r:RelO (J v) o):∃u,o=J u/\RelV v u:=by
 cases o with
 |none=>exact(r).elim
 |some u=>exact#[u,rfl,r]
theorem RelO.none_of{o:Tc}(r:RelO Zc o):o=Zc:=by cases o with|none=>rfl|some u=>exact(r).elim
theorem Jsb{v:hV}{u:Zh}(r:RelV v u):W.handedIn u=Zg:=by cases v with|non=>cases (r);rfl|bl b=>cases (r);rfl|int i=>obtain⟨t,e⟩:=(r);cases e;rfl|str x=>obtain⟨t,e⟩:=(r);cases e;rfl|byt b=>obtain⟨t,e⟩:=(r);cases e;rfl|flt b=>obtain⟨t,e⟩:=(r);cases e;rfl|ref a=>cases (r);rfl|ty n=>cases (r);rfl
section
variable{P:Z7}{w:ZU}{H H':Hp}{h h':Zam}{a C dx:Zm}{fs fs':Wu}
theorem Jj8(hok:HOk P w H h)(e:H a=J (.ins C dx fs)):∃mA,ObjM h a dx C mA/\(∀f,RelO (fs.lookup f)<|mA f)/\ZeV mA (fs.map (·.1))/\fs.length<=1000/\H dx=J (.own a):=by obtain⟨d,z,ne,j,mA,n,r,q⟩:=(hok a _ e);exact#[mA,#[j,n,ne],r,q,z,d]
end
structure Cls(K:W.Frag)(C:Zm):Prop where
 pg:W.plainGet K C Zb7=Zg
 hd:W.hasDictIn K C=Zg
 po:W.plainOver K C=Zg
 sa:W.findIn K (.ref C) "__setattr__"=J (J<|.builtin "object.__setattr__")
theorem Cls.get{K:W.Frag}{C:Zm}(c:Cls K C)(f:Str):W.plainGet K C f=Zg:=c.pg
def Qx(K:W.Frag)(C:Zm)(f:Str):Prop:=W.findIn K (.ref C) f=J Zc
theorem Qx.taker{K:W.Frag}{C:Zm}{f:Str}(n:Qx K C f):W.takerIn K C f=J Zc:=by unfold W.takerIn;rw[show W.findIn K (.ref C) f=J Zc from n];rfl
structure Meth(K:W.Frag)(C:Zm)(m:Str)(f:Zm):Prop where
 at_:W.findIn K (.ref C) m=J (J<|.ref f)
 fn:W.isFn K (.ref f)=Zg
 kp:W.keepIn K (.ref f)=Zg
section
variable{X:Cx}{V:PnT}{U:St}{H:Hp}{s:Zl}{a C dx:Zm}{fs:Wu}{f:Str}{v:hV}{A:ZI}{E:QvT}
theorem Jiu{b:Bool}{Q:QvT}(I:Inv X V U H s)(e:H a=J (.ins C dx fs))(c:Cls X.K C)(n:Qx X.K C f)(l:fs.lookup f=J v) (h:∀u s',Inv X V U H s'->RelV v u->Q u s'):Zv (Zy X.prog X.w) A (getAttr (.ref a) f b) Q E s:=by
 obtain⟨B,m,r,_,_,_⟩:=Jj8 I.hok e;obtain⟨u,k,j⟩:=RelO.some_of<|by rw[<-l];exact r f
 exact Jzi I.kIn m (c.get f) c.hd n k (Jsb j)<|h u _ (I.tok _) j
theorem Jiv{m:Str}{g:Zm}{pl:Sem Bool}{Q:Zh×Tv->Zl->Prop}(I:Inv X V U H s)(e:H a=J (.ins C dx fs))(c:Cls X.K C)(k:Meth X.K C m g)(l:fs.lookup m=Zc) (h:Q (.ref g,[.ref a]) s):Zv (Zy X.prog X.w) A (Zdr (.ref a) m pl) Q E s:=by
 obtain⟨u,j,r,_,_,_⟩:=Jj8 I.hok e;have hn:=RelO.none_of<|by rw[<-l];exact r m
 exact Ju9 I.kIn j (c.get m) k.at_ k.fn hn h
theorem Ji4{y:hV}{u:Zh}{Q:Unit->Zl->Prop}(I:Inv X V U H s)(e:H a=J (.ins C dx fs))(c:Cls X.K C)(n:Qx X.K C f)(S:fs.length<1000)(P:RelV y u) (h:∀s',Inv X V U (upd H a<|.ins C dx<|putF f y fs) s'->Q () s'):Zv (Zy X.prog X.w) A (setAttr (.ref a) f u) Q E s:=by
 obtain⟨m,j,r,D,_,B⟩:=Jj8 I.hok e;have O:(fs.map (·.1)).length<=sizeLine:=by rw[Zj,Za8];lia
 refine J02 I.kIn j c.sa c.po n.taker c.hd D O λL k F=>h _ ?_
 have hd:∃o,L.get? dx=J o:=let ⟨o,_,_,G,_⟩:=k.ns;#[o,G];refine I.write (by rw[e];exact Zaq) (.inr B) (λb q R z=>(F.2 b R).trans z) hd ?_;refine#[by rw[Jo j.ne];exact B,?_,j.ne,k.obj,_,k.ns,λg=>?_,λg M=>?_]
 .have:=Jhi f y fs;lia
 .show RelO ((putF f y fs).lookup g) (if g=f then J u else m g);rw[Jhj];by_cases q:g=f
  .rw[if_pos q,if_pos q];exact P
  .simp_all
 .by_cases q:g=f
  .rw[q];exact(Jhh f y fs).1
  .refine(Jhh f y fs).2 g (D g λz=>M ?_);show(if g=f then J u else m g)=Zc;rw[if_neg q];exact z
theorem Inv.made(I:Inv X V U H s):Inv X V U (upd (upd H s.heap.objs.size<|.own<|s.heap.objs.size+1) (s.heap.objs.size+1)<|.ins C s.heap.objs.size []) {s with heap:=(s.heap.push W.emptyDict).push (W.instObj C s.heap.objs.size)}:=by
 have j:(s.heap.push W.emptyDict).get? s.heap.objs.size=J W.emptyDict:=Zs s.heap rfl;have k:((s.heap.push W.emptyDict).push<|W.instObj C s.heap.objs.size).get? (s.heap.objs.size+1)=J (W.instObj C s.heap.objs.size):=by have:=Zs (s.heap.push W.emptyDict) (o:=W.instObj C s.heap.objs.size) rfl;rwa [Zby]at this
 have B:(s.heap.push W.emptyDict).Ns s.heap.objs.size (λ_=>Zc):=#[W.emptyDict,#[],_,j,rfl,(λe m=>absurd m 03),λ_=>rfl];have I1:=I.laid (o:=.own<|s.heap.objs.size+1) (t':=s.toks) (λb u q=>Ze _ q) (Zq _) #[_,j];refine I1.laid (λb u q=>Ze _ q) (ZcF<|Zby _ _) ?_;have ne:s.heap.objs.size≠s.heap.objs.size+1:=Z1<|Zau _;refine#[by rw[Jo ne,J2],ZN _,ne,k,λ_=>Zc,(Heap.Ns1.of_empty B).at λo q=>Ze _ q,λ_=>Zaq,λy D=>absurd rfl D]
theorem Jq6{prog:Z7}{w:ZU}{env:Env}{e:Expr}{f:Str}{pos:Pos}{s:Zl}{Q:QvT}(j:Zcq e f env (ZaQ e env)=ZaQ e env) (h:Zv (Zy prog w) A (ZaQ e env) (λo s₁=>Zv (Zy prog w) A (getAttr o f Zg) Q E s₁) E s):Zv (Zy prog w) A (ZaQ (.Attribute e f pos) env) Q E s:=Attribute_any_ h (by rw[arm_eval_Attribute,j])
end
structure Room(k:Nat)(A:ZI):Prop where
 hd:A.handled=Zc
 dp:A.depth+3*k+5<recursionLimit
 un:A.units+16*k+200<cLine
theorem Room.mono{j k:Nat}{A:ZI}(r:Room k A)(h:j<=k):Room j A:=#[r.hd,by have:=r.dp;lia,by have:=r.un;lia]
theorem Room.deeper{k:Nat}{A:ZI}(r:Room (k+1) A)(env:Env):Room k (A.deeper env):=#[r.hd,by have:=r.dp;show A.depth+1+3*k+5<_;lia,by have:=r.un;show A.units+3+16*k+200<_;lia]
theorem Room.in1{k:Nat}{A:ZI}(r:Room (k+1) A):Room k A.in1:=#[r.hd,by have:=r.dp;show A.depth+3*k+5<_;lia,by have:=r.un;show A.units+1+16*k+200<_;lia]
theorem Jp9{A:ZI}{C:Zm}{us:Tv}{kw:Wl}:(A.under<|.builtin "type.__call__" #[.ref C::us,kw]).depth=A.depth+1:=rfl
theorem Jqa{A:ZI}{C:Zm}{us:Tv}{kw:Wl}:(A.under<|.builtin "type.__call__" #[.ref C::us,kw]).units=A.units+1:=by first|rfl|simp
theorem Room.make{k:Nat}{A:ZI}(r:Room (k+1) A)(C:Zm)(us:Tv)(kw:Wl):Room k (A.under<|.builtin "type.__call__" #[.ref C::us,kw]):=#[r.hd,by have:=r.dp;rw[Jp9];lia,by have:=r.un;rw[Jqa];lia]
theorem Room.depth{k:Nat}{A:ZI}(r:Room k A):A.depth<recursionLimit:=by have:=r.dp;lia
theorem Room.units{k:Nat}{A:ZI}(r:Room k A):A.units+64<cLine:=by have:=r.un;lia
abbrev Sp:=Ud->Hp->VK->XK->Prop
abbrev CXT:=Tn->Hp->Zl->XK->QvT
structure Env0(P:Z7)(w:ZU)(K:W.Frag)(mg:Str->Tc)(base:Zam)(A:ZI)(outer:Tn)(s:Zl)(H:Hp):Prop where
 frames:A.frames=J outer
 mod:Mod K mg base
 bs:∀b o,base.get? b=J o->s.heap.get? b=J o/\H b=Zc
 bsz:base.objs.size<=s.heap.objs.size
 funs:s.heap.FunFrames base outer
 frf:∀b∈frs outer,H b=Zc
 hok:HOk P w H s.heap
 bare:Zdm s.gens
def CE(outer:Tn)(P:Z7)(w:ZU)(H:Hp)(s:Zl)(Q:VK)(u:Zh)(s':Zl):Prop:=∃v H',s'.os=s.os/\Zdm s'.gens/\Un (frs outer) [] H H' s.heap s'.heap/\HOk P w H' s'.heap/\RelV v u/\Q v H'
def CR(CX:CXT)(outer:Tn)(P:Z7)(w:ZU)(H:Hp)(s:Zl)(Q:VK)(E:XK)(r:Zec)(s':Zl):Prop:=match r with|.ok (.ret u)=>CE outer P w H s Q u s'|.ok _=>False|.error e=>CX outer H s E e s'
structure FnOk(P:Z7)(w:ZU)(K:W.Frag)(mg:Str->Tc)(base:Zam)(CX:CXT)(k:Nat)(f:Zm)(fd:ZaK)(ps:Tl)(sp:Sp):Prop where
 len:∀O H Q E,sp O H Q E->O.length=ps.length
 run:∀(A:ZI)(outer:Tn)(s:Zl)(H:Hp)(args:Args)(us:Tv)(O:Ud)(Q:VK)(E:XK),Room k A->Env0 P w K mg base A outer s H->ZcG s fd args (ps.zip us)->Vals O us->sp O H Q E ->ZbI (Zy P w) A (.call (.ref f) args) (CR CX outer P w H s Q E) s
theorem FnOk.imp{P:Z7}{w:ZU}{K:W.Frag}{mg:Str->Tc}{base:Zam}{CX:CXT}{k:Nat}{f:Zm}{fd:ZaK}{ps:Tl}{sp j:Sp}(F:FnOk P w K mg base CX k f fd ps sp) (h:∀O H Q E,j O H Q E->sp O H Q E):FnOk P w K mg base CX k f fd ps j:=#[λO H Q E q=>F.len O H Q E<|h _ _ _ _ q,λA outer s H m u O Q E C D G hv B=>F.run A outer s H m u O Q E C D G hv<|h _ _ _ _ B]
theorem Env0.make{P:Z7}{w:ZU}{K:W.Frag}{mg:Str->Tc}{base:Zam}{A:ZI}{outer:Tn}{s:Zl}{H:Hp}(e:Env0 P w K mg base A outer s H)(C:Zm)(us:Tv)(kw:Wl):Env0 P w K mg base (A.under<|.builtin "type.__call__" #[.ref C::us,kw]) outer s H:=#[by first|exact e.frames|(simpa[Code.envs]using e.frames),e.mod,e.bs,e.bsz,e.funs,e.frf,e.hok,e.bare]
section
variable{X:Cx}{V:PnT}{U:St}{H:Hp}{s s':Zl}
theorem Inv.env0(I:Inv X V U H s):Env0 X.prog X.w X.K X.mg X.base X.A X.stack s H:=#[I.ok.frames,I.ok.mod,I.bs,ZM I.ok.bsz I.sz,I.stack,I.stkFree,I.hok,I.bare]
theorem Inv.after{Q:VK}{u:Zh}(I:Inv X V U H s)(h:CE X.stack X.prog X.w H s Q u s'):EP X V U Q u s':=by obtain⟨v,k,os,bare,un,hok,r,q⟩:=h;obtain⟨m,g,d,t,j⟩:=s';obtain rfl:j=s.os:=os;exact#[v,k,I.call un hok bare λb z=>absurd z 03,r,q]
end
def Qc(K:W.Frag)(fd:ZaK)(ps:Tl)(ds:Tv):Prop:=∀(s:Zl)(us:Tv),K.In s.heap->(us++ds).length=ps.length->ZcG s fd #[us,[]] (ps.zip<|us++ds)
theorem Qc.all{K:W.Frag}{fd:ZaK}{ps:Tl}(h:∀us:Tv,us.length=ps.length->Ze5 fd #[us,[]]=pure (ps.zip us)):Qc K fd ps []:=λs us _ j=>by rw[ZbS]at j ⊢;exact .of_eq<|h us j
section
variable{X:Cx}{CX:CXT}{k:Nat}{f C:Zm}{fd:ZaK}{ps:Tl}{sp:Sp}{dvs:Ud}{ds:Tv}{E:XK}{x m:Str}{p pos apos:Pos}{e o:Expr}{es:Tf}{ta:TE}{t:TA}
structure Mk(K:W.Frag)(C f:Zm):Prop where
 makes:W.makesIn K C=Zg
 init:W.findIn K (.ref C) "__init__"=J (J<|.ref f)
 fn:W.isFn K (.ref f)=Zg
 kp:W.keepIn K (.ref C)=Zg
end
structure FnScope(N P:Tl)(sc:Zbm):Prop where
 kind:sc.kind=.function
 co:sc.isCoroutine=Zi
 gen:sc.isGenerator=Zi
 nd:N.Nodup
 pre:N.take P.length=P
 par:∀x∈P,sc.names.lookup x=J .local\/sc.names.lookup x=J .cell
 nofree:∀y∈sc.names,y.2≠.free
theorem Jk8{kindOf:Str->Wy}{x:Str}:∀{binds:Wl}{m:Str->Tc},(∀v,(x,v)∉binds)->bindL kindOf binds m x=m x
 |[],_,_=>rfl
 |(n,v)::r,m,h=>by
  unfold bindL;rw[Jk8 λw j=>h w<|Zr _ j];split
  .have:x≠n:=by rintro rfl;exact h v ZB
   simp[this]
  .rfl
theorem Jk6{kindOf:Str->Wy}{x:Str}:∀{binds:Wl}{m:Str->Tc},(∀v,(x,v)∉binds)->bindC kindOf binds m x=m x
 |[],_,_=>rfl
 |(n,v)::r,m,h=>by
  unfold bindC;rw[Jk6 λw j=>h w<|Zr _ j];split
  .rfl
  .have:x≠n:=by rintro rfl;exact h v ZB
   simp[this]
theorem Jk7{kindOf:Str->Wy}{x:Str}{v:Zh}:∀{P:Tl}{O:Tv}{i:Nat}{m:Str->Tc},P.Nodup->P[i]?=J x->O[i]?=J v->kindOf x=J .local ->bindL kindOf (P.zip O) m x=J v
 |[],_,_,_,_,h,_,_=>by simp at h
 |_::_,[],_,_,_,_,h,_=>by simp at h
 |p::P,w::O,0,m,nd,h1,L,hk=>by simp at h1 L;subst h1;subst L;show bindL kindOf ((p,w)::P.zip O) m p=_;unfold bindL;rw[Jk8 λv hv=>(Zcz.mp nd).1 (Zew hv).1,if_pos hk];simp
 |p::P,w::O,i+1,m,nd,h1,L,hk=>by unfold bindL;exact Jk7 (i:=i) (Zcz.mp nd).2 (by simpa using h1) (by simpa using L) hk
theorem Jk5{kindOf:Str->Wy}{x:Str}{v:Zh}:∀{P:Tl}{O:Tv}{i:Nat}{m:Str->Tc},P.Nodup->P[i]?=J x->O[i]?=J v->kindOf x≠J .local ->bindC kindOf (P.zip O) m x=J v|[],_,_,_,_,h,_,_=>by simp at h|_::_,[],_,_,_,_,h,_=>by simp at h|p::P,w::O,0,m,nd,h1,L,hk=>by simp at h1 L;subst h1;subst L;show bindC kindOf ((p,w)::P.zip O) m p=_;unfold bindC;rw[Jk6 λv hv=>(Zcz.mp nd).1 (Zew hv).1,if_neg hk];simp|p::P,w::O,i+1,m,nd,h1,L,hk=>by unfold bindC;exact Jk5 (i:=i) (Zcz.mp nd).2 (by simpa using h1) (by simpa using L) hk
noncomputable def start (N:Tl)(O:Ud):St:=O.map J++ZD (N.length-O.length) Zc
noncomputable def cxOf (CX:CXT)(P:Z7)(w:ZU)(K:W.Frag)(mg:Str->Tc)(base:Zam)(N:Tl)(qual:Str)(scope:Zbm)(f:Zm)(cd:Zh)(A:ZI)(outer:Tn)(s:Zl)(H:Hp)(E:XK):Cx where
 prog:=P
 w:=w
 K:=K
 mg:=mg
 base:=base
 A:=A.deeper<|Ze6 qual scope s.heap.objs.size f cd
 N:=N
 s₀:=s
 H₀:=H
 env:=Ze6 qual scope s.heap.objs.size f cd
 outer:=outer
 stack:=Ze6 qual scope s.heap.objs.size f cd::outer
 ex:=[]
 calm:=Zg
 fn:=λ_=>Zg
 pn:=[]
 xe:=λe s'=>Zv (Zy P w) (A.deeper<|Ze6 qual scope s.heap.objs.size f cd) (leaving (Ze6 qual scope s.heap.objs.size f cd) e) (λ_ s''=>CX outer H s E e s'') (λe' s''=>CX outer H s E e' s'') s'
theorem Joh{sc:Zbm}{n:Nat}{x:Str}(h:sc.names.lookup x=J .cell):∃c,(cellsFrom n sc.names []).lookup x=J c:=by have q:=W.cellsFrom_some sc.names n []<|.inl h;exact ZaR.mp q
theorem Jsm{CX:CXT}{P:Z7}{w:ZU}{K:W.Frag}{mg:Str->Tc}{base:Zam}{N ps:Tl}{qual:Str}{scope:Zbm}{f:Zm}{cd:Zh}{A:ZI}{outer:Tn}{s s1:Zl}{H:Hp}{E:XK}{us:Tv}{O:Ud} (S:FnScope N ps scope)(hd:A.handled=Zc)(j:Env0 P w K mg base A outer s H)(R:O.length=ps.length)(r:Vals O us) (x:InCallC s s.heap.objs.size (bindL (Ze6 qual scope s.heap.objs.size f cd).kindOf (ps.zip us) λ_=>Zc) (cellsFrom (s.heap.objs.size+1) scope.names []) (bindC (Ze6 qual scope s.heap.objs.size f cd).kindOf (ps.zip us) λ_=>Zc) s1):Inv (cxOf CX P w K mg base N qual scope f cd A outer s H E) [] (start N O) H s1:=by
 have M:ps.length<=N.length:=by have:=congrArg List.length S.pre;rw[ZaH]at this;lia
 obtain⟨F,U,rfl,I⟩:=x.done;have m:∀b:Zm,b∉(cxOf CX P w K mg base N qual scope f cd A outer s H E).ex:=λb z=>absurd (show b∈([]:Tw)from z) 03
 refine#[#[j.mod,S.kind,rfl,rfl,Zq _,λy z c F L=>?_,λy B=>?_,λy c _ h=>?_,λ_=>hd,Around.frames_deeper j.frames,.inr #[rfl,rfl],λb z=>absurd z<|m b,j.bs,j.bsz,λb _ _=>m b,λb z=>absurd z<|m b,j.funs,j.frf],rfl,j.bare,Un.kept I,#[_,x.toInCall.ns,λi y v F L V=>?_],λy c h=>#[_,x.cell y c h],j.hok.fresh<|Zq _,λy c h=>?_,λp hp=>absurd (show p∈([]:PnT)from hp) 03,j.hok.kept I,?_]
 .exact name_of_addr x.apart (Zak F)<|Zak L
 .have B:scope.names.lookup y=J .cell\/scope.names.lookup y=J .free:=B;rcases B with B|B
  .exact Joh B
  .exact absurd rfl (S.nofree _<|Zak B)
 .exact Zbn<|x.above y c<|Zak h
 .have D:i<O.length:=by
   unfold start at L;by_cases D:i<O.length
   .exact D
   .rw[ZK<|by simpa using D]at L;rw[ZbK]at L;split at L<;>cases L
  have ha:O[i]?=J v:=by unfold start at L;rw[Z8 (by simpa using D),Z4]at L;cases e:O[i]? with|none=>rw[e]at L;cases L|some a=>rw[e]at L;cases L;rfl
  obtain⟨u,G,Q⟩:=r.get ha;have hp:ps[i]?=J y:=by rw[<-S.pre,List.getElem?_take_of_lt 05];exact F
  have C:ps.Nodup:=by rw[<-S.pre];exact S.nd.sublist<|List.take_sublist _ _
  refine#[u,Q,?_];rcases S.par y (Zb9 hp)with k|k
  .exact .inl #[k,Jk7 C hp G k]
  .obtain⟨c,e⟩:=Joh k;refine .inr #[.inl k,c,e,?_];have q:=x.cell y c e;rw[Jk5 C hp G (by show scope.names.lookup y≠_;rw[k];decide)]at q;exact q
 .exact j.hok.fresh<|Zbn<|x.above y c<|Zak h
 .unfold start;show _=N.length;rw[Z0,Zj,Zb3];lia
theorem J6j{CX:CXT}{P:Z7}{w:ZU}{K:W.Frag}{mg:Str->Tc}{base:Zam}{k:Nat}{f:Zm}{name qual:Str}{params:ZbW}{m:To}{scope:Zbm}{dV kV G pm j ct oc:Zh}{an od:Te} {Y:Wb}{N ps:Tl}{sp:Sp}(lk:K.lookup f=J #[oc,od,.func<|W.fnOf name qual params m scope dV kV G pm an j ct,Y])(Z:W.codeIn K j qual=Zg)(S:FnScope N ps scope) (len:∀O H Q E,sp O H Q E->O.length=ps.length) (hbody:∀(A:ZI)(outer:Tn)(s:Zl)(H:Hp)(O:Ud)(Q:VK)(E:XK),Room k (A.deeper<|Ze6 qual scope s.heap.objs.size f j)->sp O H Q E ->∃t,PSs (cxOf CX P w K mg base N qual scope f j A outer s H E) m t/\t {nx:=λ_ H'=>Q .non H',rt:=Q} (start N O) H):FnOk P w K mg base CX (k+1) f (W.fnOf name qual params m scope dV kV G pm an j ct) ps sp:=by
 refine#[len,λA outer s H args us O Q E V F hb r L=>?_];have hl:=len _ _ _ _ L;have KX:=F.mod.kin.keeps λb o e=>(F.bs b o e).1
 have X:=F.mod.nolimit.keeps λb o e=>(F.bs b o e).1
 have C:∀y∈ps.zip us,scope.names.lookup y.1=J .local\/(scope.names.lookup y.1=J .cell/\((cellsFrom (s.heap.objs.size+1) scope.names []).lookup y.1).isSome=Zg):=λ⟨n,v⟩ hy=>by
  rcases S.par n (Zew hy).1 with q|q
  .exact .inl q
  .exact .inr #[q,W.cellsFrom_some _ _ _<|.inl q]
 refine codeAny_call_function V.depth (KX _ _ lk) rfl S.co S.gen rfl (W.codeRec_of KX Z) (hb _ _ _ _ ?_);refine wpAny_newFunctionEnv_cells S.kind C λenv he s1 x=>?_
 subst he;refine#[X.keeps x.toInCall.keep,codeAny_func ?_];obtain⟨t,ht,hq⟩:=hbody A outer s H O Q E (V.deeper _) L;have I:Inv (cxOf CX P w K mg base N qual scope f j A outer s H E) [] (start N O) H s1:=Jsm S V.hd F hl r x;refine Zaf (ht [] s1 (start N O) H _ I hq) (λfl R D=>?_) λe R D=>D
 have fin:∀{M:St}{H':Hp}{v:hV}{u:Zh},Inv (cxOf CX P w K mg base N qual scope f j A outer s H E) [] M H' R->RelV v u->Q v H'->CE outer P w H s Q u R:=λ{M H' v u} B U q=>#[v,H',B.os,B.bare,B.base,B.hok,U,q];cases fl with|ret u=>obtain⟨v,M,H',B,U,q⟩:=D;exact fin B U q|next=>obtain⟨M,H',B,q⟩:=D;exact fin (v:=hV.non) B rfl q|brk=>obtain⟨_,_,_,q⟩:=D;exact ZaV q|cont=>obtain⟨_,_,_,q⟩:=D;exact ZaV q
end L2
namespace HT
open PySem PyProof.Rows
section
variable{prog:Z7}{w:ZU}{A:ZI}{E:QvT}{s:Zl}
theorem cat_tup{t b:Zm}{O ws:Tv}{Q:QvT}(M:IsTup s.heap t O.toArray)(R:IsTup s.heap b ws.toArray)(hv:O≠[])
  (h1:ws=[]->Q (.ref t) s)(L:ws≠[]->Q (.ref s.heap.objs.size) {s with heap:=s.heap.push {cls:=.type "tuple",data:=.seq (O++ws).toArray} })
  (hsz:O.length+ws.length<=sizeLine):Zv (Zy prog w) A (ZaW .Add (.ref t)<|.ref b) Q E s:=by
 obtain⟨⟨cls,G,data,H⟩,B,P,n,hd⟩:=id M;obtain⟨⟨I,m,D,k⟩,j,F,n2,C⟩:=id R;subst P hd F C;have e:O.toArray++ws.toArray=(O++ws).toArray:=03;by_cases u:ws=[]
 .exact concat_meets #[_,B,rfl] #[_,j,rfl] noFill_tuple_add seq_tuple_add Zee ZdN (ZdD _ _)
   (tuple_addW1 t b O.toArray ws.toArray n n2 G m H k (by simpa using hv)<|by simp[u]) #[B,j,h1 u]
 .refine concat_meets #[_,B,rfl] #[_,j,rfl] noFill_tuple_add seq_tuple_add Zee ZdN (ZdD _ _)
   (tuple_addW2 t b O.toArray ws.toArray n n2 G m H k (by simpa using hv) (by simpa using u)<|by simp_all) #[B,j,?_]
  rw[e];exact L u
noncomputable def sIx (n d:Nat):Wz->Nat|none=>d|some v=>if v<0 then(v+(n:Int)).toNat else min v.toNat n
theorem sIx_none(n d:Nat):sIx n d Zc=d:=rfl
theorem sIx_nat(n d k:Nat):sIx n d (J (k:Int))=min k n:=rfl
end
end HT
namespace L2
open PySem PySem.Spec PyProof.Rows
section
variable{X:Cx}{e:Expr}{te:TE}{lo hi:Wv}{tl th:TO}{pos p2:Pos}
def SlR(X:Cx)(r:hV->Wz->Wz->Hp->VK->Prop):Prop:=∀(V:PnT)(s:Zl)(U:St)(H:Hp)(x:hV)(v vl vu:Zh)(lo hi:Wz)(sl:Zm)(Q:VK),Inv X V U H s->RelV x v->s.heap.IsSliceOf sl vl vu .none->Zfi vl lo->Zfi vu hi->r x lo hi H Q ->∃T id,ZeR (.type T) "__getitem__"=pure (J<|.builtin id)/\s.TypeIs v T/\Zv (Zy X.prog X.w) X.A (Zef v<|.ref sl) (EP X V U Q) X.xe s
def cutV(xs:Ud)(lo hi:Wz):Ud:=(xs.drop<|HT.sIx xs.length 0 lo).take<|HT.sIx xs.length xs.length hi-HT.sIx xs.length 0 lo
theorem Jnb(xs:Ud)(lo hi:Wz):(cutV xs lo hi).length<=xs.length:=by unfold cutV;rw[ZaH,ZcQ];lia
def J7j(K:W.Frag):R2:=λx y H Q=>∃a b xs ys,x=.ref a/\y=.ref b/\SqT K H a xs/\SqT K H b ys/\xs≠[]/\xs.length+ys.length<=sizeLine /\ (ys=[]->Q (.ref a) H)/\(ys≠[]->∀p,H p=Zc->Q (.ref p) (upd H p<|.tup<|xs++ys))
theorem Vals.nil_iff{xs:Ud}{us:Tv}(r:Vals xs us):us=[]↔xs=[]:=by cases r with|nil=>simp|cons _ _=>simp
theorem J0j:OpR X (ZaW .Add) (J7j X.K):=by
 intro V s U H x y v u Q I D E h;obtain⟨a,b,xs,P,rfl,rfl,ha,F,hx,m,G,C⟩:=h;cases D;cases E;obtain⟨L,k,p1,_⟩:=I.tuple ha;obtain⟨B,j,M,_⟩:=I.tuple F;refine HT.cat_tup p1 M (λz=>hx<|k.nil_iff.mp z) (λz=>#[.ref a,H,I,rfl,G<|j.nil_iff.mp z]) (λz=>?_)<|by rw[<-k.length,<-j.length];exact m
 refine#[.ref s.heap.objs.size,_,I.laid (λb O q=>Ze _ q) (Zq _) ?_,rfl,C (λw=>z<|j.nil_iff.mpr w) _<|I.hok.fresh<|Zq _];exact#[by rw[Z0];exact m,_,k.append j,IsTup.new _ _]
end
noncomputable def ixN (n:Nat)(i:Int):Ta:=if 0<=i then(if i<n then J i.toNat else Zc)else if -(n:Int)<=i then J (i+n).toNat else Zc
noncomputable def atI {α:Type}(xs:List α)(i:Int):Option α:=(ixN xs.length i).bind λj=>xs[j]?
theorem Jsq{n:Nat}{i:Int}{j:Nat}(h:ixN n i=J j):seqIndex? i n=J j/\j<n/\ -(n:Int)<=i/\i<n:=by
 unfold ixN at h;by_cases m:0<=i
 .rw[if_pos m]at h;by_cases k:i<n
  .rw[if_pos k]at h;have e:=Zas h;exact#[by rw[Ze7 m k,e],05,05,k]
  .lia
 .rw[if_neg m]at h;by_cases k: -(n:Int)<=i
  .rw[if_pos k]at h;have e:=Zas h;exact#[by rw[ZeW 05 k,e],05,k,05]
  .lia
theorem Jjb{α:Type}{xs:List α}{i:Int}{v:α}(h:atI xs i=J v):∃j,seqIndex? i xs.length=J j/\xs[j]?=J v/\j<xs.length/\ -(xs.length:Int)<=i/\i<xs.length:=by unfold atI at h;cases e:ixN xs.length i with|none=>rw[e]at h;cases h|some j=>rw[e]at h;obtain⟨m,L,k,u⟩:=Jsq e;exact#[j,m,h,L,k,u]
def Jqw(b:Expr):Prop:=∀o i,Ze8 b Zi o i=operate [o,i] (Zef o i)
def IxR(X:Cx)(r:R2):Prop:=∀(value slice:Expr)(V:PnT)(s:Zl)(U:St)(H:Hp)(x y:hV)(v u:Zh)(Q:VK),Inv X V U H s->RelV x v->RelV y u->r x y H Q ->Ze8 slice Zi v u=operate [v,u] (Zef v u)->Zv (Zy X.prog X.w) X.A (ZeM value slice v u) (EP X V U Q) X.xe s
section
variable{X:Cx}{a b:Expr}{ta tb:TE}{pos:Pos}
def rIxL(K:W.Frag):R2:=λx y H Q=>∃p xs i v,x=.ref p/\y=.int i/\SqL K H p xs/\atI xs i=J v/\Q v H
def rIxT(K:W.Frag):R2:=λx y H Q=>∃p xs i v,x=.ref p/\y=.int i/\SqT K H p xs/\atI xs i=J v/\Q v H
def rIxS:R2:=λx y H Q=>∃z i c,x=.str z/\y=.int i/\z.length<=sizeLine/\atI z.cps.toList i=J c/\Q (.str ⟨#[c]⟩) H
theorem Jsr:IxR X (rIxL X.K):=by
 intro m C V s U H x y v u Q I G M h E;obtain⟨p,xs,i,z,rfl,rfl,S,Y,q⟩:=h;cases G;obtain⟨t,rfl⟩:=M;obtain⟨D,r,pl,Z⟩:=I.list S;obtain⟨j,k,L,h3,P,W⟩:=Jjb Y;obtain⟨w,ew,B⟩:=r.get L;have O:=r.length;have hn:=Xn;have fin:EP X V U Q w s:=#[z,H,I,B,q];by_cases F:0<=i
 .have R:i.toNat=j:=by rw[Ze7 F W]at k;exact Zas k
  exact item_listR pl.isList F 05 (by simp_all) fin E
 .have R:(i+(D.toArray.size:Int)).toNat=j:=by rw[ZeW 05 P]at k;rw[ZV,<-O];exact Zas k
  exact ZcH pl.isList.typeIs slot_list_getitem.lookup
   (wpAny_getItem_list_neg pl.isList 05 (by simp_all) 05 (by simp_all) #[rfl,fin]) E
theorem J3k:IxR X (rIxT X.K):=by intro k B V s U H x y v u Q I D E h C;obtain⟨p,xs,i,z,rfl,rfl,M,O,q⟩:=h;cases D;obtain⟨t,rfl⟩:=E;obtain⟨G,r,pl,P⟩:=I.tuple M;obtain⟨j,R,L,Z,W,Y⟩:=Jjb O;obtain⟨w,F,m⟩:=r.get L;have S:=r.length;have hn:=Xn;have fin:EP X V U Q w s:=#[z,H,I,m,q];exact ZcH (x:=w) pl.typeIs slot_tuple_getitem.lookup (getItem_tuple (j:=j) pl 05 05 (by simp_all) (by simpa using F) #[rfl,fin]) C
theorem J3j:IxR X rIxS:=by
 intro k m V s U H x y v u Q I D F h C;obtain⟨z,i,c,rfl,rfl,S,P,q⟩:=h;obtain⟨t,rfl⟩:=D;obtain⟨W,rfl⟩:=F;obtain⟨j,E,L,Y,M,O⟩:=Jjb P;have G:z.cps.toList.length=z.length:=by simp[ZeS]
 rw[G]at E M O;have hn:=Xn;exact tail_any (typeIs_str s z t) slot_str_getitem.lookup (getItem_str (by have R:decide (i< -(2^63:Int))=Zi:=decide_eq_false 05;have B:decide (i ≥ 2^63)=Zi:=decide_eq_false 05;rw[R,B,Bool.or_false]) (by simp_all) #[.str ⟨#[c]⟩,H,I.tok _,#[_,rfl],q]) C
theorem Jqb(its:Tv)(n j:Nat)(u:Zh):Zag (·.setIfInBounds j u) {cls:=.type "list",data:=.seq its.toArray n}={cls:=.type "list",data:=.seq (its.set j u).toArray n}:=by simp[Zag]
theorem Inv.lst{V:PnT}{U:St}{H:Hp}{s:Zl}{p:Zm}{xs:Ud}(I:Inv X V U H s)(h:H p=J (.lst xs)):∃(its:Tv) (n:Nat),Vals xs its/\s.heap.get? p=J {cls:=.type "list",data:=.seq its.toArray n}/\xs.length<=sizeLine:=by obtain⟨z,its,n,r,e⟩:=I.hok p _ h;exact#[its,n,r,e,z]
theorem Inv.lstUpd{V:PnT}{U:St}{H:Hp}{s:Zl}{p:Zm}{xs ys:Ud}{its j:Tv}{n k:Nat}{f:Obj->Obj}(I:Inv X V U H s)(h:H p=J (.lst xs)) (B:s.heap.get? p=J {cls:=.type "list",data:=.seq its.toArray n})(m:f {cls:=.type "list",data:=.seq its.toArray n}={cls:=.type "list",data:=.seq j.toArray k})(r:Vals ys j)(D:ys.length<=sizeLine)(t:Nat):Inv X V U (upd H p<|.lst ys) {s with heap:=s.heap.update p f,toks:=t}:=by
 have e:(s.heap.update p f).get? p=J {cls:=.type "list",data:=.seq j.toArray k}:=by rw[Zae f B (by rw[m]<;>rfl),m]
 refine I.write (by rw[h];trivial) (.inl rfl) (λb u C q=>(Zw _ _<|ZP C).trans q) #[_,e] ?_;exact#[D,j,k,r,e]
def J7k:hV->hV->hV->Hp->(Hp->Prop)->Prop:=λo i v H Q=>∃p xs k j,o=.ref p/\i=.int k/\H p=J (.lst xs)/\ixN xs.length k=J j/\Q (upd H p<|.lst<|xs.set j v)
theorem Jo5:PSet X J7k:=by
 intro V s U H o i v ov iv u Q I M G O h;obtain⟨p,xs,k,j,rfl,rfl,hp,Y,q⟩:=h;cases M;obtain⟨t,rfl⟩:=G;obtain⟨m,n,r,C,Z⟩:=I.lst hp;obtain⟨B,L,P,S⟩:=Jsq Y;have R:=r.length;have hn:=Xn;have F:Inv X V U (upd H p<|.lst<|xs.set j v) {s with heap:=s.heap.update p (Zag (·.setIfInBounds j u))}:=
  I.lstUpd hp C (Jqb m n j u) (r.set O j) (by simp_all) s.toks
 by_cases E:0<=k
 .have D:k.toNat=j:=by rw[Ze7 E S]at B;exact Zas B
  exact W.ki_setAt C E 05 (by simp_all)<|by rw[D];exact#[_,F,q]
 .have D:(k+(m.toArray.size:Int)).toNat=j:=by rw[ZeW 05 P]at B;rw[ZV,<-R];exact Zas B
  exact W.ki_setBack C 05 (by simp_all) 05<|by rw[D];exact#[_,F,q]
theorem Jmo(lo hi:Wz)(n:Nat):(ZcB lo hi Zc n).1=((HT.sIx n 0 lo:Nat):Int)/\(ZcB lo hi Zc n).2.1=((HT.sIx n n hi:Nat):Int)/\(ZcB lo hi Zc n).2.2=1:=by
 refine#[?_,?_,rfl]
 .cases lo with|none=>simp[ZcB,HT.sIx]|some i=>
   simp only[ZcB,HT.sIx,Option.getD_none];by_cases h:i<0
   .lia
   .lia
 .cases hi with|none=>simp[ZcB,HT.sIx]|some i=>
   simp only[ZcB,HT.sIx,Option.getD_none];by_cases h:i<0
   .lia
   .lia
theorem Jkq(its:Tv)(lo hi:Wz):slicePick its.toArray lo hi Zc=((its.drop<|HT.sIx its.length 0 lo).take<|HT.sIx its.length its.length hi-HT.sIx its.length 0 lo).toArray:=by obtain⟨k,L,j⟩:=Jmo lo hi its.toArray.size;unfold slicePick;rw[k,L,j];simp only[sliceRange_one,pick_run]<;>rfl
def rSlL(K:W.Frag):hV->Wz->Wz->Hp->VK->Prop:=λx lo hi H Q=>∃a xs,x=.ref a/\SqL K H a xs/\∀p,H p=Zc->Q (.ref p) (upd H p<|.lst<|cutV xs lo hi)
theorem Jtv:SlR X (rSlL X.K):=by
 intro V s U H x v O M k u L Q I D C pl F h;obtain⟨a,xs,rfl,hx,q⟩:=h;cases D;obtain⟨B,r,m,E⟩:=I.list hx;have j:=r.length;refine#["list",_,slot_list_getitem.lookup,m.isList.typeIs,?_];refine wpAny_getItem_list_slice m.isList C pl F .none 03 ?_<|by simp_all
 rw[Jkq,<-j];refine#[.ref s.heap.objs.size,_,I.laid (λb G q=>Ze _ q) (Zq _) ?_,rfl,q _<|I.hok.fresh<|Zq _];exact#[ZM (Jnb xs k u) E,_,0,(r.drop<|HT.sIx xs.length 0 k).take<|HT.sIx xs.length xs.length u-HT.sIx xs.length 0 k,Zs _ rfl]
theorem Jcw:Xd X (.type "list") (λxs H Q=>∃p ys,xs=[.ref p]/\(SqL X.K H p ys\/SqT X.K H p ys)/\∀l,H l=Zc->Q (.ref l) (upd H l<|.lst ys)):=by
 intro V s U H xs O Q I r h;obtain⟨p,ys,rfl,D,q⟩:=h;obtain⟨u,rfl,M⟩:=Qq r;cases M;have fin:∀(j:Tv),Vals ys j->ys.length<=sizeLine->∀(k:Zam)(B:Nat),(∀b L,s.heap.get? b=J L->k.get? b=J L) ->k.get? s.heap.objs.size=J {cls:=.type "list",dict:=Zc,data:=.seq j.toArray B,slots:=#[]}->EP X V U Q (.ref s.heap.objs.size) {s with heap:=k}:=λj m C k B kp e=>
  #[.ref s.heap.objs.size,_,I.laid kp (Zq _) (show JU X.prog X.w _ k _ (.lst ys)from#[C,j,B,m,e]),rfl,q _<|I.hok.fresh<|Zq _]
 rcases D with D|D
 .obtain⟨j,m,pl,C⟩:=I.list D;have E:=m.length;obtain⟨o,G,F,n,hd⟩:=pl.isList;exact call_list_seq p (.inl rfl) G F hd (λk B kp e=>fin j m C k B kp e)<|by simp<;>lia
 .obtain⟨j,m,pl,C⟩:=I.tuple D;have E:=m.length;obtain⟨o,G,F,n,hd⟩:=pl;exact call_list_seq p (.inr rfl) G F hd (λk B kp e=>fin j m C k B kp e)<|by simp<;>lia
theorem Jeq:Xd X (.type "tuple") (λxs H Q=>∃p ys,xs=[.ref p]/\((SqL X.K H p ys/\∀l,H l=Zc->Q (.ref l) (upd H l<|.tup ys))\/(SqT X.K H p ys/\Q (.ref p) H))):=by
 intro V s U H xs G Q I r h;obtain⟨p,ys,rfl,h⟩:=h;obtain⟨u,rfl,E⟩:=Qq r;cases E;rcases h with⟨m,q⟩|⟨m,q⟩
 .obtain⟨j,k,pl,C⟩:=I.list m;have D:=k.length;refine call_tuple_list pl.isList (λB kp=>?_)<|by simp<;>lia
  have I1:=I.kept (t':=s.toks) kp;have F:Inv X V U (upd H B.objs.size<|.tup ys) {s with heap:=B.push {cls:=.type "tuple",data:=.seq j.toArray} }:=
   I1.laid (λb o e=>Ze _ e) (Zq _) (#[C,j,k,IsTup.new _ _])
  exact#[.ref B.objs.size,_,F,rfl,q _<|I1.hok.fresh<|Zq _]
 .obtain⟨j,k,pl,C⟩:=I.tuple m;exact call_tuple_same pl #[.ref p,H,I,rfl,q]
def tyV(K:W.Frag)(T:String)(x:hV)(H:Hp):Prop:=match x with
 |.str _=>T="str"
 |.int _=>T="int"
 |.ref p=>(T="list"/\∃xs,SqL K H p xs)\/(T="tuple"/\∃o,K.lookup p=J o/\o.cls=.type "tuple"/\o.dict=Zc) \/
   (T="dict"/\((∃kvs,H p=J (.dK kvs))\/∃kvs,H p=J (.dT kvs)))\/(T="set"/\∃S n,H p=J (.set S n))
 |_=>False
theorem Jyf{V:PnT}{U:St}{H:Hp}{s:Zl}{T:String}{x:hV}{v:Zh}(I:Inv X V U H s)(r:RelV x v)(ty:tyV X.K T x H):s.TypeIs v T/\∀a,v=.ref a->∃u,s.heap.get? a=J u/\u.dict=Zc:=by
 cases x with
 |str z=>obtain⟨t,rfl⟩:=r;cases (ty);exact#[typeIs_str s z t,λ_ e=>nomatch e]
 |int i=>obtain⟨t,rfl⟩:=r;cases (ty);exact#[typeIs_int s i t,λ_ e=>nomatch e]
 |ref p=>
  cases r;rcases ty with⟨rfl,xs,C⟩|⟨rfl,o,j,hc,hd⟩|⟨rfl,j⟩|⟨rfl,S,n,j⟩
  .obtain⟨B,_,pl,_⟩:=I.list C;refine#[pl.isList.typeIs,λa e=>?_];cases e;obtain⟨o,n,e,c,hd,_⟩:=pl;exact#[o,e,hd]
  .refine#[#[o,I.kIn p o j,hc],λa e=>?_];cases e;exact#[o,I.kIn _ o j,hd]
  .have z:∃o,s.heap.get? p=J o/\o.ExactDict:=by
    rcases j with⟨m,j⟩|⟨m,j⟩
    .obtain⟨_,_,_,_,o,_,_,e,ex,_⟩:=I.hok p _ j;exact#[o,e,ex]
    .obtain⟨_,_,_,_,o,_,_,e,ex,_⟩:=I.hok p _ j;exact#[o,e,ex]
   obtain⟨o,e,ex⟩:=z;refine#[#[o,e,ex.1],λa k=>?_];cases k;exact#[o,e,ex.2.1]
  .obtain⟨o,_,_,_,e,ex,_⟩:=I.hok p _ j;refine#[#[o,e,ex.1],λa k=>?_];cases k;exact#[o,e,ex.2.1]
 |_=>exact ZaV ty
variable{o e:Expr}{es:Tf}{to:TE}{t:TA}{name:Str}{apos cpos:Pos}{T id:String}{r:hV->Ud->Hp->VK->Prop}
end
def MtM(X:Cx)(id:String)(r:hV->Ud->Hp->VK->Prop):Prop:=∀(V:PnT)(s:Zl)(U:St)(H:Hp)(x:hV)(xs:Ud)(v:Zh)(us:Tv)(Q:VK),Inv X V U H s->RelV x v->Vals xs us->r x xs H Q ->Zv (Zy X.prog X.w) X.A (call (.builtin id)<|v::us) (EP X V U Q) X.xe s
theorem Vals.one{x:hV}{us:Tv}(h:Vals [x] us):∃u,us=[u]/\RelV x u:=by cases h with|cons r e=>cases e;exact#[_,rfl,r]
theorem Vals.two{x y:hV}{us:Tv}(h:Vals [x,y] us):∃u v,us=[u,v]/\RelV x u/\RelV y v:=by
 cases h with|cons r e=>cases e with|cons q e=>cases e;exact#[_,_,rfl,r,q]
theorem Vals.zero:∀{us:Tv},Vals [] us->us=[]|_,.nil=>rfl
theorem Vals.dropLast{xs:Ud}{us:Tv}(h:Vals xs us):Vals xs.dropLast us.dropLast:=by
 induction h with|nil=>exact .nil|cons r t j=>cases t with|nil=>exact .nil|cons q k=>exact .cons r j
theorem Vals.eraseIdx:∀{xs:Ud}{us:Tv}(i:Nat),Vals xs us->Vals (xs.eraseIdx i) (us.eraseIdx i)|_,_,_,.nil=>.nil|_,_,0,.cons _ t=>t|_,_,i+1,.cons r t=>.cons r<|Vals.eraseIdx i t
theorem Vals.reverse{xs:Ud}{us:Tv}(h:Vals xs us):Vals xs.reverse us.reverse:=by induction h with|nil=>exact .nil|cons r t j=>rw[Zca,Zca];exact Vals.append j<|.cons r .nil
theorem Vals.rep{xs:Ud}{us:Tv}(h:Vals xs us):∀k:Nat,Vals (ZD k xs).flatten (ZD k us).flatten|0=>.nil|k+1=>by exact Vals.append h<|Vals.rep h k
theorem Jl0{α:Type}:∀(l:List α)(i:Nat),(l.eraseIdx i).length<=l.length|[],_=>Zq _|_::_,0=>Zay _|_::r,i+1=>ZcR<|Jl0 r i
theorem Jll(its:Tv):∀(k:Nat)(acc:Tv),List.foldl (λx1 x2=>x1++x2) acc.toArray (ZD k its.toArray)=(acc++(ZD k its).flatten).toArray
 |0,acc=>03
 |k+1,acc=>by
  have e:acc.toArray++its.toArray=(acc++its).toArray:=03;have j:(acc++its)++(ZD k its).flatten=acc++(ZD (k+1) its).flatten:=by rw[List.replicate_succ,List.flatten_cons,Zaa]
  rw[<-j,<-Jll its k (acc++its),<-e,List.replicate_succ,List.foldl_cons]
section
variable{X:Cx}{V:PnT}{U:St}{H:Hp}{s:Zl}{l b:Zm}{xs ys zs:Ud}
theorem Inv.lset{its j:Tv}{n:Nat}{f:Tk->Tk}{t':Nat}(I:Inv X V U H s)(B:H l=J (.lst xs)) (e:s.heap.get? l=J {cls:=.type "list",data:=.seq its.toArray n})(k:f its.toArray=j.toArray)(hv:Vals ys j)(D:ys.length<=sizeLine):Inv X V U (upd H l<|.lst ys) {s with heap:=s.heap.update l<|Zag f,toks:=t'}:=by have q:=PySem.IsL.update e f;rw[k]at q;refine I.write (by rw[B];exact trivial) (.inl rfl) (λE u C m=>(Zw s.heap (Zag f)<|ZP C).trans m) #[_,q] ?_;exact#[D,j,_,hv,q]
theorem Inv.lnew{its:Tv}{t':Nat}(I:Inv X V U H s)(hv:Vals ys its)(j:ys.length<=sizeLine):Inv X V U (upd H s.heap.objs.size<|.lst ys) {s with heap:=s.heap.push {cls:=.type "list",data:=.seq its.toArray},toks:=t'}:=I.laid (λ_ _ q=>Ze _ q) (Zq _) #[j,its,0,hv,Zs _ rfl]
theorem Inv.fresh(I:Inv X V U H s):H s.heap.objs.size=Zc:=I.hok.fresh<|Zq _
theorem Inv.lstM(I:Inv X V U H s)(j:H l=J (.lst xs)):xs.length<=sizeLine/\∃(its:Tv) (n:Nat),Vals xs its/\xs.length=its.length/\s.heap.get? l=J {cls:=.type "list",data:=.seq its.toArray n}:=by obtain⟨z,its,n,r,e⟩:=I.hok l _ j;exact#[z,its,n,r,r.length,e]
theorem Jv4{n:Nat}(h:n<=sizeLine):ZdE n=Zi:=by exact decide_eq_false 05
end
section
variable{X:Cx}
def J0o:hV->Ud->Hp->VK->Prop:=λx O H Q=>∃l xs y,x=.ref l/\O=[y]/\H l=J (.lst xs)/\xs.length<sizeLine/\Q .non (upd H l<|.lst<|xs++[y])
theorem Jl3:MtM X "list.append" J0o:=by intro V s U H x O v G Q I m C h;obtain⟨l,xs,y,rfl,rfl,k,E,q⟩:=h;cases m;obtain⟨u,rfl,B⟩:=C.one;obtain⟨z,j,n,r,D,e⟩:=I.lstM k;refine Zeg F.slot_list_append #[_,e,rfl] F.entry_list_append (F.args_list_append_2 _ _) (PySem.list_append l j.toArray n u<|by simp_all) #[e,?_];refine#[.non,_,I.lset k e 03 (r.append<|.cons B .nil) ?_,rfl,q];rw[Z0,ZaA];lia
def rPop:hV->Ud->Hp->VK->Prop:=λx O H Q=>∃l xs y,x=.ref l/\O=[]/\H l=J (.lst xs)/\xs[xs.length-1]?=J y/\Q y (upd H l<|.lst xs.dropLast)
theorem J33:MtM X "list.pop" rPop:=by
 intro V s U H x O v P Q I D G h;obtain⟨l,xs,y,rfl,rfl,B,M,q⟩:=h;cases D;have m:=G.zero;subst m;obtain⟨z,j,n,r,C,e⟩:=I.lstM B;obtain⟨u,L,E⟩:=r.get M;have k:j.toArray[j.toArray.size-1]?=J u:=by show j.toArray[j.length-1]?=J u;rw[<-ZbY,<-C];exact L
 refine Zeg F.slot_list_pop #[_,e,rfl] F.entry_list_pop (F.args_list_pop_1 _) (MeetsSeq.list_pop_last l j.toArray n u k<|by simp_all) #[e,?_];refine#[y,_,I.lset B e ?_ r.dropLast ?_,E,q]
 .simp
 .rw[List.length_dropLast];lia
def rCat:R2:=λx y H Q=>∃l b xs zs,x=.ref l/\y=.ref b/\H l=J (.lst xs)/\H b=J (.lst zs)/\xs.length+zs.length<=sizeLine/\∀p,H p=Zc->Q (.ref p) (upd H p<|.lst<|xs++zs)
theorem J39:OpR X (ZaW .Add) rCat:=by
 intro V s U H x y v u Q I C D h;obtain⟨l,b,xs,zs,rfl,rfl,F,G,M,q⟩:=h;cases C;cases D;obtain⟨z,k,n,r,P,e⟩:=I.lstM F;obtain⟨O,j,n2,L,E,m⟩:=I.lstM G;refine PySem.P.add_list e m ?_<|by simp_all
 have B:k.toArray++j.toArray=(k++j).toArray:=03;rw[B];exact#[.ref _,_,I.lnew (r.append L) (by simp_all),rfl,q _ I.fresh]
def rRep:R2:=λx y H Q=>∃l k xs,x=.ref l/\y=.int k/\H l=J (.lst xs)/\ -(2^63)<=k/\k<2^63/\xs.length*k.toNat<=sizeLine /\ ∀p,H p=Zc->Q (.ref p) (upd H p<|.lst (ZD k.toNat xs).flatten)
theorem Jz9{α:Type}(xs:List α)(k:Nat):(ZD k xs).flatten.length=k*xs.length:=03
theorem J4c:OpR X (ZaW .Mult) rRep:=by
 intro V s U H x y v u Q I R Y h;obtain⟨l,k,xs,rfl,rfl,Z,W,L,S,q⟩:=h;cases R;obtain⟨t,rfl⟩:=Y;obtain⟨z,j,n,r,hl,e⟩:=I.lstM Z;have G:j.toArray.size*k.toNat<=sizeLine:=by simp_all
 have C:¬j.toArray.size*k.toNat>(2^63-1)/8:=by have:(sizeLine:Nat)<=(2^63-1)/8:=01;lia
 have E:¬(!Builtin.List.listFitsIndex k)=Zg:=by rw[fitsIndex_both W L];exact Zt
 have B:¬ZdE (j.toArray.size*k.toNat)=Zg:=by rw[Jv4 G];exact Zt
 have D:List.foldl (λx1 M=>x1++M) #[] (ZD (if j.toArray.isEmpty=Zg then 0 else k.toNat) j.toArray)=(ZD k.toNat j).flatten.toArray:=by
  have P:=λm=>by have:=Jll j m [];rw[Zav]at this;exact this
  rw[P];cases j with|nil=>simp|cons a r'=>rw[if_neg 03]
 refine wpAny_binaryOp_repeat_ref 01 #[_,e,rfl] (λO=>typeIs_int O k t) noFill_list_mul F.fills_int_mul F.slot_int_rmul repeat_list F.slot_int_index.lookup (Zeg F.slot_int_rmul (typeIs_int s k t) F.entry_int_rmul (F.args_int_rmul_2 _ _) (int___rmul___int_list k t l j.toArray n) #[e,rfl,#[_,e,rfl],Zeg F.slot_list_mul #[_,e,rfl] F.entry_list_mul (F.args_list_mul_2 _ _) (AutoListH.list___mul___list_int_3 l j.toArray n k t E C B) #[e,?_]]);rw[D];exact#[.ref _,_,I.lnew (r.rep k.toNat) (by rw[Jz9,Nat.mul_comm];exact S),rfl,q _ I.fresh]
end
section
variable{κ:Type}[DecidableEq κ]
noncomputable def valV (kvs:List<|κ×hV)(k:κ):Tj:=(kvs.find? λkv=>decide (kv.1=k)).map (·.2)
noncomputable def putK (kvs:List<|κ×hV)(k:κ)(v:hV):List (κ×hV):=if (kvs.any λkv=>decide (kv.1=k))=Zg then kvs.map (λkv=>if kv.1=k then(kv.1,v)else kv)else kvs++[(k,v)]
theorem Jku{p:κ×hV}{r:List (κ×hV)}{k:κ}(e:p.1=k):valV (p::r) k=J p.2:=by simp[valV,e]
theorem Jkt{p:κ×hV}{r:List (κ×hV)}{k:κ}(e:¬p.1=k):valV (p::r) k=valV r k:=by simp[valV,e]
theorem Jpj(k:κ):∀kvs:List<|κ×hV,(kvs.any λj=>decide (j.1=k))=(valV kvs k).isSome
 |[]=>rfl
 |p::r=>by
  rw[Zcr];by_cases e:p.1=k
  .simp only[Jku e,decide_eq_true e,Bool.true_or,Option.isSome_some]
  .rw[Jkt e,decide_eq_false e];exact Jpj k r
theorem Jnm(kvs:List<|κ×hV)(k:κ)(v:hV):(putK kvs k v).length<=kvs.length+1:=by
 unfold putK;split
 .simp
 .simp
theorem RelO.isSome_eq{o:Tj}{u:Tc}(r:RelO o u):o.isSome=u.isSome:=by
 cases o with
 |none=>cases u with
  |none=>rfl
  |some _=>exact(r).elim
 |some _=>cases u with
  |none=>exact(r).elim
  |some _=>rfl
theorem KV.val{kvs:List (κ×hV)}{O:List (κ×Zh)}(r:KV kvs O)(k:κ):RelO (valV kvs k) (ZeX O k):=by
 induction r with|nil=>exact Zaq|@cons p q ps m h t B=>
  obtain⟨u,L⟩:=h;by_cases e:p.1=k
  .have j:q.1=k:=u.symm.trans e;have b:ZeX (q::m) k=J q.2:=by simp[ZeX,j]
   rw[Jku e,b];exact L
  .have j:¬q.1=k:=λz=>e<|u.trans z
   have b:ZeX (q::m) k=ZeX m k:=by simp[ZeX,j]
   rw[Jkt e,b];exact B
theorem KV.any{kvs:List (κ×hV)}{O:List (κ×Zh)}(r:KV kvs O)(k:κ):(kvs.any λj=>decide (j.1=k))=O.any λj=>decide (j.1=k):=by induction r with|nil=>rfl|cons h t m=>rw[Zcr,Zcr,m,h.1]
theorem KV.repl{kvs:List (κ×hV)}{O:List (κ×Zh)}(r:KV kvs O)(k:κ){y:hV}{u:Zh}(C:RelV y u):KV (kvs.map λj=>if j.1=k then(j.1,y)else j) (O.map λj=>if j.1=k then(j.1,u)else j):=by
 induction r with|nil=>exact .nil|@cons p q ps D h t m=>
  refine .cons ?_ m;obtain⟨B,L⟩:=h;by_cases e:p.1=k
  .lia
  .lia
theorem KV.put{kvs:List (κ×hV)}{O:List (κ×Zh)}(r:KV kvs O)(k:κ){y:hV}{u:Zh}(j:RelV y u):KV (putK kvs k y) (stored O k u):=by
 unfold putK stored;rw[r.any k];by_cases e:(O.any λm=>decide (m.1=k))=Zg
 .rw[if_pos e,if_pos e];exact r.repl k j
 .rw[if_neg e,if_neg e];exact Paired.snoc r #[rfl,j]
theorem KV.length{kvs:List (κ×hV)}{O:List (κ×Zh)}(r:KV kvs O):kvs.length=O.length:=ZeL r
end
theorem Jvu{P:Z7}{w:ZU}{k:Key}{u:Zh}(r:RelV (kV k) u):(Vq P w).is k u=Zg:=by cases k with|inl i=>obtain⟨t,e⟩:=(r);subst e;exact Jno P w i t|inr x=>obtain⟨t,e⟩:=(r);subst e;exact Jnp P w x t
section
variable{P:Z7}{w:ZU}{H:Hp}{h:Zam}{a:Zm}
theorem J7l{u:HO}(ok:HOk P w H h)(e:Rd H a u):JU P w H h a u:=e.ok ok
theorem J2k{kvs:Wt}(ok:HOk P w H h)(e:Rd H a<|.dK kvs):kvs.length<=sizeLine/\(a==Zc3)=Zi/\∃O,KV kvs O/\h.DictOf (Vq P w) a O:=show JU P w H h a (.dK kvs)from J7l ok e
theorem Juz{kvs:Wt}(ok:HOk P w H h)(e:H a=J (.dK kvs)):kvs.length<=sizeLine/\(a==Zc3)=Zi/\∃O,KV kvs O/\h.DictOf (Vq P w) a O:=J2k ok<|.inl e
end
section
variable{X:Cx}{V:PnT}{U:St}{H:Hp}{s:Zl}{a:Zm}{y v:hV}{u r:Zh}{o:Tj}{A:ZI}{E:QvT}
theorem Inv.big(I:Inv X V U H s):Zc3<s.heap.objs.size:=by have h:=(I.mod.glob.keeps I.bk).lt;exact ZeY 01 h
theorem Jri{h':Zam}{t':Nat}{j:HO}(I:Inv X V U H s)(k:Mut<|H a)(hs:Zbo a s.heap h')(u:∃q,h'.get? a=J q)(new:JU X.prog X.w (upd H a j) h' a j):Inv X V U (upd H a j) {s with heap:=h',toks:=t'}:=I.write k (.inl rfl) (λb q m z=>(hs.2 b m).trans z) u new
theorem Jxo{P:Z7}{w:ZU}{H':Hp}{h':Zam}{kvs:Wt}{O:List (Key×Zh)}(z:kvs.length<=sizeLine)(hd:(a==Zc3)=Zi)(rel:KV kvs O)(dd:h'.DictOf (Vq P w) a O):JU P w H' h' a (.dK kvs):=#[z,hd,O,rel,dd]
end
section
variable{X:Cx}{V:PnT}{U:St}{H:Hp}{s:Zl}{a:Zm}{kvs:Wt}{k:Key}{u:Zh}{A:ZI}{E:QvT}
theorem J6f{Q:QvT}(I:Inv X V U H s)(e:Rd H a<|.dK kvs)(h:∀t s',Inv X V U H s'->Q (.int kvs.length t) s'):Zv (Zy X.prog X.w) A (call (.builtin "len") [.ref a]) Q E s:=by obtain⟨z,hd,O,rel,j⟩:=J2k I.hok e;refine call_len_dict hd j (by rw[<-rel.length];rw[Za8]at z;lia) ?_;rw[<-rel.length];exact h _ _<|I.tok _
end
theorem Juy{P:Z7}{w:ZU}{H:Hp}(h:Zam)(j:Zc3<h.objs.size):JU P w H (h.push {cls:=.type "dict",data:=.dict #[]}) h.objs.size (.dK []):=#[ZN _,beq_eq_false_iff_ne.mpr<|ZP<|Z1 j,[],.nil,Heap.DictOf.new h]
end L2
namespace Att
open PySem PySem.W PySem.Calls PyProof.Rows
theorem Jhf{P:Params}{h:Zam}:∀(ns:Tq)(O:Tv),WellAll P h O (ns.map WData.int)->ZaZ O ns:=by
 intro ns;induction ns with|nil=>intro O w;cases w;exact .nil|cons n ns j=>intro O w;cases w with|cons a b=>cases a;exact .cons _ _<|j _ b
theorem Jtr{l:OpenLaw}{n:Nat}(hn:l.most=J n){P:Params}{h:Zam}{args:List WData}{k:Tv} (j:l.row.toRowW.claim.pre args=Zg)(C:WellAll P h k args):∃a O ns,k=[Zb6 a]/\args=[WData.list<|ns.map WData.int]/\h.get? a=J {cls:=.type "list",data:=.seq O.toArray}/\ZaZ O ns/\ns.length<=n:=by
 have E:=(pre_splitW j).1;have H:l.pre.holds [] {args:=args}=Zg:=(pre_splitW j).2;obtain⟨d,r,rfl,G,L⟩:=hasAllW_cons E;obtain rfl:=hasAllW_nil L;obtain⟨xs,rfl,M⟩:=hasW_list G;obtain⟨ns,rfl⟩:=items_int M;have u:ns.length<=n:=by
  have B:(WTm.not<|.lt (.lit<|.int (n:Int))<|.len<|.arg 0).holds [] {args:=[.list<|ns.map .int]}=Zg:=by have B:=(holds_andW H).1;rw[hn]at B;exact B
  have D:=condW_of B<|w_not<|w_lt w_lit<|w_len_list<|w_arg rfl;refine ZcS λq=>?_
  first
   | (rw[decide_eq_true q']at D;exact absurd D 01)
   | (simp at D;lia)
 cases C with|cons F Q=>cases Q;cases F with|list I m=>exact#[_,_,ns,rfl,rfl,I,Jhf ns _ m,u]
theorem Jtg(l:OpenLaw)(args:List WData):l.row.toRowW.claim.post args (.bool Zg) args=Zg:=postW_of (show WShape.has [] (.bool Zg) .bool=Zg by first|rfl|decide|simp) (w_eq_bool (w_res rfl) w_lit) rfl
theorem attach_call{l:OpenLaw}{n:Nat}{q:Z7}{loose:Tl}{D:(Str->Tc)->Zam->Prop}{C:ZU->Zam->Prop}{d:DefRec} (hn:l.most=J n)(B:d.params.defaults=[]) (call:∀(w:ZU)(s₀ s₁:Zl)(mg mb:Str->Tc)(fa:Zm)(o:Obj)(pm cd j:Zh)(a:Zm)(O:Tv)(ns:Tq),Ground q loose [] D w s₀ mg mb s₁.heap->C w s₁.heap ->s₁.heap.get? fa=J o->o.data=.func (docDef d.name d.params d.body d.scope pm cd j)->s₁.heap.CodeRec cd d.name->mg d.name=J (.ref fa) ->s₁.heap.get? a=J {cls:=.type "list",data:=.seq O.toArray}->ZaZ O ns->ns.length<=n->s₁.gens=#[] ->ZbI (Zy l.prog w) ZeG (.call (.ref fa) #[[.ref a],[]]) (λr s'=>r=.ok (.ret<|.bool Zg)/\OldK s₁.heap s'.heap/\s'.os=s₁.os/\Zdm s'.gens) s₁):WalkO q loose D C l.row.toRowW d [] (λf O=>PySem.call f O):=by
 intro w s₀ s₁ mg mb G YY fa o pm cd j dV kV ho hd hcd hD hmg hg args vals as hpre hlay hrd hwl hlo;obtain rfl:dV=.none:=Dflts.none hD B;obtain rfl:kV=.none:=Dflts.noKw hD;obtain⟨a,O,ns,rfl,rfl,u,k,m⟩:=Jtr hn hpre hwl;refine enter_call<|ZbA (call w s₀ s₁ mg mb fa o pm cd j a O ns G YY ho (fd_plain hd) hcd hmg u k m hg) λr s' F=>?_
 obtain⟨rfl,L,H,E⟩:=F;exact#[.inl #[.bool Zg,.bool Zg,[],rfl,λ_=>rfl,.bool Zg,Jtg l _,λ_=>#[List.Pairwise.nil,λ_ hm=>(nomatch hm)]],L,H,E]
end Att
namespace L2
open PySem PySem.Spec PyProof.Rows
theorem Xt:∀{O:Tv}{ns:Tq},ZaZ O ns->Vals (ns.map hV.int) O|_,_,.nil=>.nil|_,_,.cons n t h=>.cons #[t,rfl]<|Xt h
noncomputable def JP (s:Zcg)(j:Nat):Zcg:=match s with|.ClassDef _ _ _ body _ _ _ _ _ _ _=>body.getD j<|.Pass #[0,0,0,0]|_=>.Pass #[0,0,0,0]
def QN(s:Zcg):ZbW:=match s with|.FunctionDef _ a _ _ _ _ _ _ _ _=>a|_=>{posonlyargs:=[],args:=[],vararg:=Zc,kwonlyargs:=[],kw_defaults:=[],kwarg:=Zc,defaults:=[]}
def Q0(s:Zcg):To:=match s with|.FunctionDef _ _ b _ _ _ _ _ _ _=>b|_=>[]
def JS(s:Zcg):Zbm:=match s with|.FunctionDef _ _ _ _ _ _ sc _ _ _=>sc|_=>{kind:=.function,names:=[],isGenerator:=Zi,isCoroutine:=Zi}
end L2
set_option maxHeartbeats 4000000
namespace L3
open PySem PySem.Spec PyProof.Rows L2
inductive IV where|non|bl (b:Bool)|int (i:Int)|str (x:Str)|tup (xs:List IV)|rol (xs:List IV)|ref (i:Nat)
abbrev _root_.Wm:=List<|Str×IV
abbrev _root_.Wn:=List<|Key×IV
abbrev _root_.Tg:=Option IV
abbrev _root_.Tx:=List IV
inductive IX where|lst (xs:Tx)|ins (c:Str) (fs:Wm)|dct (kvs:Wn)|exc (c:Str) (fs:Wm)|tab (q:Str)|hld (c:Str) (fs:Wm)
abbrev IH:=List IX
abbrev ISt:=List<|Tg
inductive Res(α:Type) where|ok (a:α) (h:IH)|exc (n:Nat) (h:IH)|stuck
noncomputable def Res.bind {α β:Type}:Res α->(α->IH->Res β)->Res β|.ok a h,f=>f a h|.exc n h,_=>.exc n h|.stuck,_=>.stuck
inductive SRes where|next (U:ISt) (h:IH)|ret (v:IV) (h:IH)|brk (U:ISt) (h:IH)|cont (U:ISt) (h:IH)|exc (n:Nat) (U:ISt) (h:IH)|stuck
def SqR(K:W.Frag)(H:Hp)(a:Zm)(xs:Ud):Prop:=(∃o,H a=J (.frz o<|.lst xs)) \/ ∃(o:Obj) (its:Tk) (n:Nat),K.lookup a=J o/\o.cls=.type "list"/\o.dict=Zc/\o.data=.seq its n/\its.size<=sizeLine/\Vals xs its.toList
theorem SqR.sq{K:W.Frag}{H:Hp}{a:Zm}{xs:Ud}(h:SqR K H a xs):SqL K H a xs:=by
 rcases h with⟨o,h⟩|h
 .exact .inl<|.inr #[o,h]
 .exact .inr h
mutual
def RV(K:W.Frag)(Y:Tw)(H:Hp):IV->hV->Prop|.non,v=>v=.non|.bl b,v=>v=.bl b|.int i,v=>v=.int i|.str x,v=>v=.str x|.tup xs,v=>∃a O,v=.ref a/\SqT K H a O/\RVs K Y H xs O|.rol xs,v=>∃a O,v=.ref a/\SqR K H a O/\RVs K Y H xs O|.ref i,v=>∃a,v=.ref a/\Y[i]?=J a
def RVs(K:W.Frag)(Y:Tw)(H:Hp):Tx->Ud->Prop|[],O=>O=[]|x::xs,O=>∃v r,O=v::r/\RV K Y H x v/\RVs K Y H xs r
end
structure Ext(H H':Hp):Prop where
 tups:∀b xs,H b=J (.tup xs)->H' b=J (.tup xs)
 frzs:∀b o u,H b=J (.frz o u)->H' b=J (.frz o u)
structure Nxt(Y:Tw)(H:Hp)(Y':Tw)(H':Hp):Prop where
 pre:∃m,Y'=Y++m
 ext:Ext H H'
theorem Nxt.refl:Nxt Y H Y H:=#[#[[],03],#[λ_ _ h=>h,λ_ _ _ h=>h]]
theorem Nxt.trans(a:Nxt Y H U1 H1)(b:Nxt U1 H1 U2 H2):Nxt Y H U2 H2:=by obtain⟨⟨m,e⟩,x⟩:=a;obtain⟨⟨j,k⟩,y⟩:=b;exact#[#[m++j,by rw[k,e,Zaa]],#[λb xs h=>y.tups b xs<|x.tups b xs h,λb o u h=>y.frzs b o u<|x.frzs b o u h]]
theorem Nxt.at(n:Nxt Y H Y' H'){i:Nat}(h:Y[i]?=J a):Y'[i]?=J a:=by obtain⟨⟨m,e⟩,_⟩:=n;subst e;rw[Z8 (Zo.mp h).1];exact h
theorem Ext.rd(x:Ext H H')(h:Rd H a<|.tup xs):Rd H' a (.tup xs):=by
 rcases h with h|⟨o,h⟩
 .exact .inl<|x.tups _ _ h
 .exact .inr #[o,x.frzs _ _ _ h]
theorem Ext.sqT{K:W.Frag}{H H':Hp}(x:Ext H H'){a:Zm}{xs:Ud}(h:SqT K H a xs):SqT K H' a xs:=by
 rcases h with h|h
 .exact .inl<|x.rd h
 .exact .inr h
theorem Ext.sqR{K:W.Frag}{H H':Hp}(x:Ext H H'){a:Zm}{xs:Ud}(h:SqR K H a xs):SqR K H' a xs:=by
 rcases h with⟨o,h⟩|h
 .exact .inl #[o,x.frzs _ _ _ h]
 .exact .inr h
mutual
theorem RV.mono{K:W.Frag}{Y Y':Tw}{H H':Hp}(n:Nxt Y H Y' H'):∀(x:IV)(v:hV),RV K Y H x v->RV K Y' H' x v|.non,_,h=>h|.bl _,_,h=>h|.int _,_,h=>h|.str _,_,h=>h|.tup xs,_,h=>by obtain⟨a,O,e,q,r⟩:=h;exact#[a,O,e,n.ext.sqT q,RVs.mono n xs O r]|.rol xs,_,h=>by obtain⟨a,O,e,q,r⟩:=h;exact#[a,O,e,n.ext.sqR q,RVs.mono n xs O r]|.ref i,_,h=>by obtain⟨a,e,q⟩:=h;exact#[a,e,n.at q]
theorem RVs.mono{K:W.Frag}{Y Y':Tw}{H H':Hp}(n:Nxt Y H Y' H'):∀(xs:Tx)(O:Ud),RVs K Y H xs O->RVs K Y' H' xs O|[],_,h=>h|x::xs,_,h=>by obtain⟨v,r,e,q,t⟩:=h;exact#[v,r,e,RV.mono n x v q,RVs.mono n xs r t]
end
theorem RVs.length{K:W.Frag}{Y:Tw}{H:Hp}:∀{xs:Tx}{O:Ud},RVs K Y H xs O->O.length=xs.length|[],_,h=>by have e:=h;subst e;rfl|x::xs,_,h=>by obtain⟨v,r,e,_,t⟩:=h;subst e;simp[RVs.length t]
theorem RVs.get{K:W.Frag}{Y:Tw}{H:Hp}:∀{xs:Tx}{O:Ud}{i:Nat}{x:IV},RVs K Y H xs O->xs[i]?=J x->∃v,O[i]?=J v/\RV K Y H x v
 |[],_,_,_,_,e=>by simp at e
 |x::xs,_,0,y,h,e=>by obtain⟨v,r,j,q,t⟩:=h;subst j;simp at e;subst e;exact#[v,rfl,q]
 |x::xs,_,i+1,y,h,e=>by
  obtain⟨v,r,j,q,t⟩:=h;subst j;obtain⟨u,k,L⟩:=RVs.get t<|by simpa using e
  exact#[u,by simpa using k,L]
theorem RVs.get'{K:W.Frag}{Y:Tw}{H:Hp}{xs:Tx}{O:Ud}{i:Nat}{v:hV}(h:RVs K Y H xs O)(e:O[i]?=J v):∃x,xs[i]?=J x/\RV K Y H x v:=by have k:=h.length;have m:=(Zo.mp e).1;have hx:xs[i]?=J xs[i]:=Zd 00;obtain⟨u,j,L⟩:=h.get hx;rw[e]at j;cases j;exact#[_,hx,L]
theorem RVs.append{K:W.Frag}{Y:Tw}{H:Hp}:∀{xs ys:Tx}{O us:Ud},RVs K Y H xs O->RVs K Y H ys us->RVs K Y H (xs++ys) (O++us)|[],_,_,_,h,g=>by have e:=h;subst e;exact g|x::xs,_,_,_,h,g=>by obtain⟨v,r,e,q,t⟩:=h;subst e;exact#[v,_,rfl,q,RVs.append t g]
theorem RVs.take{K:W.Frag}{Y:Tw}{H:Hp}:∀{xs:Tx}{O:Ud}(n:Nat),RVs K Y H xs O->RVs K Y H (xs.take n) (O.take n)|_,_,0,_=>by simp;exact rfl|[],_,n+1,h=>by have e:=h;subst e;exact rfl|x::xs,_,n+1,h=>by obtain⟨v,r,e,q,t⟩:=h;subst e;exact#[v,r.take n,rfl,q,RVs.take n t]
theorem RVs.drop{K:W.Frag}{Y:Tw}{H:Hp}:∀{xs:Tx}{O:Ud}(n:Nat),RVs K Y H xs O->RVs K Y H (xs.drop n) (O.drop n)|_,_,0,h=>h|[],_,n+1,h=>by have e:=h;subst e;exact rfl|x::xs,_,n+1,h=>by obtain⟨v,r,e,q,t⟩:=h;subst e;exact RVs.drop n t
theorem RVs.set{K:W.Frag}{Y:Tw}{H:Hp}{x:IV}{v:hV}(q:RV K Y H x v):∀{xs:Tx}{O:Ud}(i:Nat),RVs K Y H xs O->RVs K Y H (xs.set i x) (O.set i v)|[],_,_,h=>by have e:=h;subst e;exact rfl|y::xs,_,0,h=>by obtain⟨u,r,e,_,t⟩:=h;subst e;exact#[v,r,rfl,q,t]|y::xs,_,i+1,h=>by obtain⟨u,r,e,p,t⟩:=h;subst e;exact#[u,r.set i v,rfl,p,RVs.set q i t]
theorem RVs.one{K:W.Frag}{Y:Tw}{H:Hp}{x:IV}{v:hV}(q:RV K Y H x v):RVs K Y H [x] [v]:=#[v,[],rfl,q,rfl]
theorem RVs.rev{K:W.Frag}{Y:Tw}{H:Hp}:∀{xs:Tx}{O:Ud},RVs K Y H xs O->RVs K Y H xs.reverse O.reverse|[],_,h=>by have e:=h;subst e;exact rfl|x::xs,_,h=>by obtain⟨v,r,e,q,t⟩:=h;subst e;rw[Zca,Zca];exact RVs.append (RVs.rev t)<|RVs.one q
theorem RVs.ints{K:W.Frag}{Y:Tw}{H:Hp}:∀(ns:Tq),RVs K Y H (ns.map IV.int) (ns.map hV.int)|[]=>rfl|_::ns=>#[_,_,rfl,rfl,RVs.ints ns]
def RPs{κ:Type}(K:W.Frag)(Y:Tw)(H:Hp):List (κ×IV)->List (κ×hV)->Prop|[],O=>O=[]|x::xs,O=>∃v r,O=(x.1,v)::r/\RV K Y H x.2 v/\RPs K Y H xs r
theorem RPs.mono{κ:Type}{K:W.Frag}{Y Y':Tw}{H H':Hp}(n:Nxt Y H Y' H'):∀(xs:List<|κ×IV)(O:List<|κ×hV),RPs K Y H xs O->RPs K Y' H' xs O|[],_,h=>h|x::xs,_,h=>by obtain⟨v,r,e,q,t⟩:=h;exact#[v,r,e,RV.mono n _ v q,RPs.mono n xs r t]
theorem RPs.length{κ:Type}{K:W.Frag}{Y:Tw}{H:Hp}:∀{xs:List (κ×IV)}{O:List (κ×hV)},RPs K Y H xs O->O.length=xs.length|[],_,h=>by have e:=h;subst e;rfl|x::xs,_,h=>by obtain⟨v,r,e,_,t⟩:=h;subst e;simp[RPs.length t]
theorem RPs.lookup{κ:Type}[BEq κ]{K:W.Frag}{Y:Tw}{H:Hp}{f:κ}:∀{xs:List (κ×IV)}{O:List (κ×hV)},RPs K Y H xs O ->(∀x,xs.lookup f=J x->∃v,O.lookup f=J v/\RV K Y H x v)/\(xs.lookup f=Zc->O.lookup f=Zc)
 |[],_,h=>by have e:=h;subst e;exact#[λx e=>by simp at e,λ_=>rfl]
 |(k,x)::xs,_,h=>by
  obtain⟨v,r,e,q,t⟩:=h;subst e;have j:=RPs.lookup (f:=f) t;simp only[Zan];cases m:f==k with
  |true=>exact#[λy e=>by cases e;exact#[v,rfl,q],λe=>by cases e]
  |false=>exact j
def QK(H:Hp)(q:Str)(cv:Zh):Prop:=∃c oc O t,cv=.ref c/\H c=J (.frz oc<|.own 0)/\oc.data=.fields O/\O[1]?=J (.str (q++".<locals>."++"<lambda>") t)
def TabO(K:W.Frag)(H:Hp)(q:Str)(a:Zm):Prop:=(∀cdv,W.codeIn K cdv q=Zg->∃c,cdv=.ref c/\W.codeHdIn K c a=Zg) /\ ∃ps,H a=J (.tbl ps)/\TriplesOk ps.toList/\∀pos cv,ZdO pos ps.toList=J cv->QK H q cv
theorem TabO.mono{K:W.Frag}{H H':Hp}{q:Str}{a:Zm}(B:∀b o u,H b=J (.frz o u)->H' b=J (.frz o u))(k:∀u,H a=J u->H' a=J u)(h:TabO K H q a):TabO K H' q a:=by obtain⟨C,ps,e,D,E⟩:=h;refine#[C,ps,k _ e,D,λj G q=>?_];obtain⟨c,F,O,t,I,m,r⟩:=E j G q;exact#[c,F,O,t,I,B _ _ _ m,r]
def ExF(a C:Zm)(tv:Zh)(d:Te):HO:=.ext λh=>∃oe O,h.get? a=J oe/\oe.cls=.ref C/\oe.data=.fields O/\O[1]?=J tv/\O[2]?=J .none/\oe.dict=d
def XV(Y:Tw):IV->Zh->Prop|.int i,u=>∃t,u=.int i t|.ref j,u=>∃b,u=.ref b/\Y[j]?=J b|_,_=>False
def XdOk(Y:Tw)(H:Hp)(d:Te)(fs:Wm):Prop:=(fs=[]/\d=Zc)\/∃f v dx od u,fs=[(f,v)]/\d=J dx/\H dx=J (.frz od<|.own 0)/\W.lookIn f od=J (J u)/\XV Y v u
theorem XdOk.mono(j:∀b o u,H b=J (.frz o u)->H' b=J (.frz o u))(h:XdOk Y H d fs):XdOk Y H' d fs:=by
 rcases h with h|⟨f,i,dx,od,t,e,q,r,z⟩
 .exact .inl h
 .exact .inr #[f,i,dx,od,t,e,q,j _ _ _ r,z]
theorem XdOk.nxt(n:Nxt Y H Y' H')(h:XdOk Y H d fs):XdOk Y' H' d fs:=by
 rcases h with h|⟨f,v,dx,od,t,e,q,r,z,x⟩
 .exact .inl h
 .refine .inr #[f,v,dx,od,t,e,q,n.ext.frzs _ _ _ r,z,?_];cases v with|ref j=>obtain⟨b,e,q⟩:=x;obtain⟨⟨m,rfl⟩,_⟩:=n;exact#[b,e,by rw[Z8 (Zo.mp q).1];exact q]|_=>exact x
def TvOk(H:Hp)(tv:Zh):Prop:=tv=.none\/∃T oT ts,tv=.ref T/\H T=J (.frz oT<|.own 0)/\oT.data=.fields ts/\ts[3]?=J .none
theorem TvOk.mono(j:∀b o u,H b=J (.frz o u)->H' b=J (.frz o u))(h:TvOk H tv):TvOk H' tv:=by
 rcases h with h|⟨T,oT,ts,e,q,r⟩
 .exact .inl h
 .exact .inr #[T,oT,ts,e,j _ _ _ q,r]
def RO(B:CeT)(K:W.Frag)(Y:Tw)(H:Hp)(a:Zm):IX->Prop|.lst xs=>∃O,H a=J (.lst O)/\RVs K Y H xs O|.ins c fs=>∃C dx O,B c=J C/\H a=J (.ins C dx O)/\RPs K Y H fs O|.dct kvs=>∃O,H a=J (.dK O)/\RPs K Y H kvs O|.exc c fs=>∃C tv d,XdOk Y H d fs/\W.nsIn K Zn c=J (J<|.ref C)/\H a=J (ExF a C tv d)/\TvOk H tv|.tab q=>TabO K H q a|.hld c fs=>∃C oe u O,XdOk Y H oe.dict fs/\W.nsIn K Zn c=J (J<|.ref C)/\H a=J (.frz oe u)/\oe.cls=.ref C/\oe.data=.fields O/\O[2]?=J .none
theorem RO.some{B:CeT}{K:W.Frag}{Y:Tw}{H:Hp}{a:Zm}{o:IX}(h:RO B K Y H a o):∃u,H a=J u:=by cases o with|lst xs=>obtain⟨O,e,_⟩:=h;exact#[_,e]|ins c fs=>obtain⟨_,_,O,_,e,_⟩:=h;exact#[_,e]|dct j=>obtain⟨O,e,_⟩:=h;exact#[_,e]|exc c fs=>obtain⟨C,k,d,_,_,e,_⟩:=h;exact#[_,e]|tab q=>obtain⟨_,ps,e,_⟩:=h;exact#[_,e]|hld c fs=>obtain⟨_,_,_,_,_,_,e,_⟩:=h;exact#[_,e]
theorem RO.mono{B:CeT}{K:W.Frag}{Y Y':Tw}{H H':Hp}{a:Zm}{o:IX}(n:Nxt Y H Y' H')(k:∀u,H a=J u->H' a=J u)(h:RO B K Y H a o):RO B K Y' H' a o:=by cases o with|lst xs=>obtain⟨O,e,r⟩:=h;exact#[O,k _ e,RVs.mono n _ _ r]|ins c fs=>obtain⟨C,D,O,j,e,r⟩:=h;exact#[C,D,O,j,k _ e,RPs.mono n _ _ r]|dct G=>obtain⟨O,e,r⟩:=h;exact#[O,k _ e,RPs.mono n _ _ r]|exc c fs=>obtain⟨C,F,d,m,j,e,r⟩:=h;exact#[C,F,d,m.nxt n,j,k _ e,r.mono n.ext.frzs]|tab q=>exact TabO.mono n.ext.frzs k h|hld c fs=>obtain⟨C,E,u,O,m,j,e,r⟩:=h;exact#[C,E,u,O,m.nxt n,j,k _ e,r]
structure Rel(B:CeT)(K:W.Frag)(Y:Tw)(h:IH)(H:Hp):Prop where
 len:Y.length=h.length
 nd:Y.Nodup
 at_:∀(i:Nat)(o:IX),h[i]?=J o->∃a,Y[i]?=J a/\RO B K Y H a o
section
variable{B:CeT}{K:W.Frag}{Y:Tw}{h:IH}{H:Hp}
theorem Rel.some(R:Rel B K Y h H){i:Nat}(e:Y[i]?=J a):∃u,H a=J u:=by
 have k:i<h.length:=by rw[<-R.len];exact(Zo.mp e).1
 obtain⟨b,j,r⟩:=R.at_ i _<|Zd k;rw[e]at j;cases j;exact r.some
theorem Rel.notin(R:Rel B K Y h H)(e:H l=Zc):l∉Y:=λk=>by
 obtain⟨i,m,q⟩:=Zab.mp k;obtain⟨u,j⟩:=R.some (i:=i) (a:=l)<|by simp_all
 rw[e]at j;cases j
theorem Ext.upd_new(e:H l=Zc):Ext H (upd H l o):=#[λb xs q=>by rw[Jo<|Vr q e];exact q,λb o u q=>by rw[Jo<|Vr q e];exact q]
theorem Rel.grow(R:Rel B K Y h H)(e:H l=Zc):Rel B K Y h (upd H l o)/\Nxt Y H Y (upd H l o):=by have n:Nxt Y H Y (upd H l o):=#[#[[],03],Ext.upd_new e];refine#[#[R.len,R.nd,λi u q=>?_],n];obtain⟨a,k,r⟩:=R.at_ i u q;exact#[a,k,r.mono n λw j=>by rw[Jo<|Vr j e];exact j]
theorem Rel.alloc(R:Rel B K Y h H)(e:H l=Zc)(r:RO B K (Y++[l]) (upd H l o) l io):Rel B K (Y++[l]) (h++[io]) (upd H l o)/\Nxt Y H (Y++[l]) (upd H l o):=by
 have n:Nxt Y H (Y++[l]) (upd H l o):=#[#[[l],rfl],Ext.upd_new e];refine#[#[by simp[R.len],?_,λi u q=>?_],n]
 .rw[List.nodup_append];refine#[R.nd,03,λa ha b D=>?_];have:b=l:=by simpa using D
  subst this;rintro rfl;exact R.notin e ha
 .by_cases m:i<h.length
  .rw[Z8 m]at q;obtain⟨a,E,C⟩:=R.at_ i u q;exact#[a,n.at E,C.mono n λw k=>by rw[Jo<|Vr k e];exact k]
  .have j:i=h.length:=by have:=(Zo.mp q).1;simp at this;omega
   subst j;simp at q;subst q;refine#[l,?_,r];rw[<-R.len];simp
theorem Rel.inj(R:Rel B K Y h H){i j:Nat}(e1:Y[i]?=J a)(k:Y[j]?=J a):i=j:=by obtain⟨C,m⟩:=Zo.mp e1;obtain⟨L,u⟩:=Zo.mp k;exact(ZcP R.nd).mp<|m.trans u.symm
theorem Ext.upd_mut(e:H l=J u)(m:Mut<|H l):Ext H (upd H l o):=by
 refine#[λb xs q=>?_,λb k w q=>?_]
 .by_cases j:b=l
  .subst j;rw[q]at m;exact(m).elim
  .rw[Jo j];exact q
 .by_cases j:b=l
  .subst j;rw[q]at m;exact(m).elim
  .rw[Jo j];exact q
theorem Rel.write(R:Rel B K Y h H)(e:Y[i]?=J a)(ha:H a=J u)(m:Mut<|H a)(r:RO B K Y (upd H a o) a io):Rel B K Y (h.set i io) (upd H a o)/\Nxt Y H Y (upd H a o):=by
 have n:Nxt Y H Y (upd H a o):=#[#[[],03],Ext.upd_mut ha m];refine#[#[by simp[R.len],R.nd,λj w q=>?_],n];by_cases k:j=i
 .subst k;have D:j<h.length:=by have:=(Zo.mp q).1;simpa using this
  rw[ZE D]at q;cases q;exact#[a,e,r]
 .rw[ZC<|ZP k]at q;obtain⟨b,C,E⟩:=R.at_ j w q;refine#[b,C,E.mono n λv hv=>?_];have:b≠a:=by rintro rfl;exact k<|R.inj C e
  rw[Jo this];exact hv
end
structure RSt(K:W.Frag)(Y:Tw)(H:Hp)(Z:ISt)(U:L2.St):Prop where
 len:Z.length=U.length
 at_:∀(j:Nat)(v:IV),Z[j]?=J (J v)->∃u,U[j]?=J (J u)/\RV K Y H v u
theorem RSt.mono{K:W.Frag}{Y Y':Tw}{H H':Hp}{Z:ISt}{U:L2.St}(n:Nxt Y H Y' H')(r:RSt K Y H Z U):RSt K Y' H' Z U:=#[r.len,λj v e=>let ⟨u,k,q⟩:=r.at_ j v e;#[u,k,RV.mono n _ _ q]]
theorem RSt.set{K:W.Frag}{Y:Tw}{H:Hp}{Z:ISt}{U:L2.St}(r:RSt K Y H Z U)(i:Nat){x:IV}{v:hV}(q:RV K Y H x v):RSt K Y H (Z.set i<|J x) (U.set i<|J v):=by
 refine#[by simp[r.len],λj w e=>?_];by_cases k:j=i
 .subst k;have m:j<Z.length:=by have:=(Zo.mp e).1;simpa using this
  rw[ZE m]at e;cases e;exact#[v,by rw[ZE<|by rw[<-r.len];exact m],q]
 .rw[ZC<|ZP k]at e;obtain⟨u,C,B⟩:=r.at_ j w e;exact#[u,by rw[ZC<|ZP k];exact C,B]
structure Now(B:CeT)(X:Cx)(V:PnT)(Y:Tw)(Z:ISt)(h:IH)(U:L2.St)(H:Hp)(s:Zl):Prop where
 inv:Inv X V U H s
 rel:Rel B X.K Y h H
 st:RSt X.K Y H Z U
def RU(K:W.Frag)(Y:Tw)(H:Hp)(v:IV)(u:Zh):Prop:=∃x,RelV x u/\RV K Y H v x
theorem RU.mono{K:W.Frag}{Y Y':Tw}{H H':Hp}{v:IV}{u:Zh}(n:Nxt Y H Y' H')(r:RU K Y H v u):RU K Y' H' v u:=let ⟨x,a,b⟩:=r;#[x,a,RV.mono n _ _ b]
def RUs(K:W.Frag)(Y:Tw)(H:Hp)(O:Tx)(us:Tv):Prop:=∃xs,Vals xs us/\RVs K Y H O xs
theorem RUs.mono{K:W.Frag}{Y Y':Tw}{H H':Hp}{v:Tx}{u:Tv}(n:Nxt Y H Y' H')(r:RUs K Y H v u):RUs K Y' H' v u:=let ⟨x,a,b⟩:=r;#[x,a,RVs.mono n _ _ b]
abbrev REL(α β:Type):=W.Frag->Tw->Hp->α->β->Prop
def RB:REL Bool Bool:=λ_ _ _ b c=>c=b
section
variable{α β γ δ:Type}
def Kont(B:CeT)(X:Cx)(R:REL α β)(V:PnT)(Y:Tw)(Z:ISt)(U:L2.St)(H:Hp)(r:Res α)(Q:β->Zl->Prop)(E:QvT):Prop:=match r with|.ok v h'=>∀u s' H' Y',Now B X V Y' Z h' U H' s'->Nxt Y H Y' H'->R X.K Y' H' v u->Q u s'|.exc n h'=>∀pl a s' H' Y',Now B X (V++pl) Y' Z h' U H' s'->Nxt Y H Y' H'->Y'[n]?=J a->E (.ref a) s'|.stuck=>False
variable{B:CeT}{X:Cx}{R:REL α β}{R':REL γ δ}{V:PnT}{Y Y':Tw}{Z:ISt}{U:L2.St}{H H':Hp}
theorem Kont.mono(k:Kont B X R V Y Z U H r Q E)(n:Nxt Y H Y' H'):Kont B X R V Y' Z U H' r Q E:=by cases r with|ok v F=>exact λu j D C N n2 q=>k u j D C N (n.trans n2) q|exc m F=>exact λpl a j D C N n2 q=>k pl a j D C N (n.trans n2) q|stuck=>exact k
def PX(B:CeT)(X:Cx)(R:REL α β)(t:Sem β)(m:ISt->IH->Res α):Prop:=∀(V:PnT)(s:Zl)(U:L2.St)(H:Hp)(Y:Tw)(Z:ISt)(h:IH)(Q:β->Zl->Prop)(E:QvT),Now B X V Y Z h U H s->Kont B X R V Y Z U H (m Z h) Q E ->Zv (Zy X.prog X.w) X.A t Q E s
theorem PX.run(p:PX B X R t m)(N:Now B X V Y Z h U H s){g:α->IH->Res γ}{Q:δ->Zl->Prop}{E:QvT}{k:β->Zl->Prop} (K:Kont B X R' V Y Z U H ((m Z h).bind g) Q E) (step:∀x h1 u s1 H1 j,Now B X V j Z h1 U H1 s1->Nxt Y H j H1->R X.K j H1 x u->Kont B X R' V j Z U H1 (g x h1) Q E->k u s1):Zv (Zy X.prog X.w) X.A t k E s:=by refine p V s U H Y Z h k E N ?_;cases e:m Z h with|ok v D=>rw[e]at K;exact λu F L G I C r=>step v D u F L G I C r<|Kont.mono K C|exc n D=>rw[e]at K;exact K|stuck=>rw[e]at K;exact K
end
abbrev PEi(B:CeT)(X:Cx)(e:Expr)(m:ISt->IH->Res IV):Prop:=PX B X RU (ZaQ e X.env) m
abbrev PTi(B:CeT)(X:Cx)(e:Expr)(m:ISt->IH->Res Bool):Prop:=PX B X RB (isTrue e X.env<|ZaQ e X.env) m
def PWi(B:CeT)(X:Cx)(e:Expr)(m:ISt->IH->Res Bool):Prop:=∀whole:Sem Zh,PX B X RB (isTrue e X.env whole) m
def PAi(B:CeT)(X:Cx)(es:Tf)(m:ISt->IH->Res (Tx)):Prop:=∀pos:Pos,PX B X RUs (spliced<|Zbh pos<|Z9 es X.env) m
abbrev E1:=ISt->IH->Res IV
abbrev _root_.Tz:=List E1
abbrev T1:=ISt->IH->Res Bool
abbrev A1:=ISt->IH->Res (Tx)
noncomputable def Ja (i:Nat):E1:=λU h=>match U[i]? with|some (J v)=>.ok v h|_=>.stuck
noncomputable def eC (v:IV):E1:=λ_ h=>.ok v h
def Jc(f:IV->IV->IH->Res IV)(a b:E1):E1:=λU h=>(a U h).bind λx h1=>(b U h1).bind λy L=>f x y L
def eUn(f:IV->IH->Res IV)(a:E1):E1:=λU h=>(a U h).bind λx h1=>f x h1
def eAnd(a b:E1)(tr:IV->IH->Res Bool):E1:=λU h=>(a U h).bind λx h1=>(tr x h1).bind λc L=>if c then b U L else .ok x L
def eOr(a b:E1)(tr:IV->IH->Res Bool):E1:=λU h=>(a U h).bind λx h1=>(tr x h1).bind λc L=>if c then .ok x L else b U L
def eIf(t:T1)(a b:E1):E1:=λU h=>(t U h).bind λc h1=>if c then a U h1 else b U h1
def QT(a b:T1):T1:=λU h=>(a U h).bind λc h1=>if c then b U h1 else .ok Zi h1
def tOrI(a b:T1):T1:=λU h=>(a U h).bind λc h1=>if c then .ok Zg h1 else b U h1
def JK(a:T1):T1:=λU h=>(a U h).bind λc h1=>.ok (!c) h1
def Jj(tr:IV->IH->Res Bool)(a:E1):T1:=λU h=>(a U h).bind λx h1=>tr x h1
noncomputable def Je:A1:=λ_ h=>.ok [] h
def Jb(a:E1)(r:A1):A1:=λU h=>(a U h).bind λx h1=>(r U h1).bind λxs L=>.ok (x::xs) L
def JJ(f g:IV->IV->IH->Res IV)(a b c:E1):E1:=λU h=>(a U h).bind λx h1=>(b U h1).bind λy L=>(f x y L).bind λk h3=>match k with|.bl Zg=>(c U h3).bind λz h4=>g y z h4|.bl Zi=>.ok (.bl Zi) h3|_=>.stuck
section
variable{B:CeT}{X:Cx}{a b c:Expr}{ma mb mc:E1}{pos:Pos}
def OpI(B:CeT)(X:Cx)(f:Zh->Zh->Sem Zh)(g:IV->IV->IH->Res IV):Prop:=∀(V:PnT)(s:Zl)(U:L2.St)(H:Hp)(Y:Tw)(Z:ISt)(h:IH)(x y:IV)(v u:Zh)(Q:QvT)(E:QvT),Now B X V Y Z h U H s->RU X.K Y H x v->RU X.K Y H y u ->Kont B X RU V Y Z U H (g x y h) Q E->Zv (Zy X.prog X.w) X.A (f v u) Q E s
def UnI(B:CeT)(X:Cx)(f:Zh->Sem Zh)(g:IV->IH->Res IV):Prop:=∀(V:PnT)(s:Zl)(U:L2.St)(H:Hp)(Y:Tw)(Z:ISt)(h:IH)(x:IV)(v:Zh)(Q:QvT)(E:QvT),Now B X V Y Z h U H s->RU X.K Y H x v ->Kont B X RU V Y Z U H (g x h) Q E->Zv (Zy X.prog X.w) X.A (f v) Q E s
def TrI(B:CeT)(X:Cx)(g:IV->IH->Res Bool):Prop:=∀(V:PnT)(s:Zl)(U:L2.St)(H:Hp)(Y:Tw)(Z:ISt)(h:IH)(x:IV)(v:Zh)(Q:Bool->Zl->Prop)(E:QvT),Now B X V Y Z h U H s->RU X.K Y H x v ->Kont B X RB V Y Z U H (g x h) Q E->Zv (Zy X.prog X.w) X.A (truthy v) Q E s
def Ql(B:CeT)(X:Cx)(f:Zh)(g:Tx->IH->Res IV):Prop:=∀(V:PnT)(s:Zl)(U:L2.St)(H:Hp)(Y:Tw)(Z:ISt)(h:IH)(xs:Tx)(us:Tv)(Q:QvT)(E:QvT),Now B X V Y Z h U H s->RUs X.K Y H xs us ->Kont B X RU V Y Z U H (g xs h) Q E->Zv (Zy X.prog X.w) X.A (call f us) Q E s
theorem XY{V:PnT}{s:Zl}{U:L2.St}{H:Hp}{Q E:QvT}{e:Expr}{t:TE}(p:PE (X.wish E) e t)(I:Inv X V U H s) (k:t U H λz H'=>∀u s',Inv X V U H' s'->RelV z u->Q u s'):Zv (Zy X.prog X.w) X.A (ZaQ e X.env) Q E s:=Zaf (p V s U H _ (I.wish E) k) (λu s' ⟨_,_,j,r,q⟩=>q u s' j.unwish r) λ_ _ z=>z
theorem Qg{V:PnT}{s:Zl}{U:L2.St}{H:Hp}{Q E:QvT}{f:Zh->Zh->Sem Zh}{r:R2}{x y:hV}{v u:Zh}(p:OpR (X.wish E) f r)(I:Inv X V U H s)(B:RelV x v)(j:RelV y u) (k:r x y H λz H'=>∀u s',Inv X V U H' s'->RelV z u->Q u s'):Zv (Zy X.prog X.w) X.A (f v u) Q E s:=Zaf (p V s U H x y v u _ (I.wish E) B j k) (λu s' ⟨_,_,m,r,q⟩=>q u s' m.unwish r) λ_ _ z=>z
theorem J5j{V:PnT}{s:Zl}{U:L2.St}{H:Hp}{Q E:QvT}{f:Zh->Sem Zh}{r:hV->Hp->VK->Prop}{x:hV}{v:Zh}(p:UnR (X.wish E) f r)(I:Inv X V U H s)(m:RelV x v) (k:r x H λz H'=>∀u s',Inv X V U H' s'->RelV z u->Q u s'):Zv (Zy X.prog X.w) X.A (f v) Q E s:=Zaf (p V s U H x v _ (I.wish E) m k) (λu s' ⟨_,_,j,r,q⟩=>q u s' j.unwish r) λ_ _ z=>z
theorem Xa{V:PnT}{s:Zl}{U:L2.St}{H:Hp}{Q:Bool->Zl->Prop}{E:QvT}{r:hV->Hp->(Bool->Hp->Prop)->Prop}{x:hV}{v:Zh}(p:TruR (X.wish E) r)(I:Inv X V U H s)(m:RelV x v) (k:r x H λz H'=>∀s',Inv X V U H' s'->Q z s'):Zv (Zy X.prog X.w) X.A (truthy v) Q E s:=Zaf (p V s U H x v _ (I.wish E) m k) (λ_ s' ⟨_,j,q⟩=>q s' j.unwish) λ_ _ z=>z
theorem QG{V:PnT}{s:Zl}{U:L2.St}{H:Hp}{Q E:QvT}{f:Zh}{r:Ud->Hp->VK->Prop}{xs:Ud}{us:Tv}(p:Xd (X.wish E) f r)(I:Inv X V U H s)(m:Vals xs us) (k:r xs H λz H'=>∀u s',Inv X V U H' s'->RelV z u->Q u s'):Zv (Zy X.prog X.w) X.A (call f us) Q E s:=Zaf (p V s U H xs us _ (I.wish E) m k) (λu s' ⟨_,_,j,r,q⟩=>q u s' j.unwish r) λ_ _ z=>z
theorem J3d(i:Nat){pos:Pos}(D:X.N[i]?=J x:=by rfl)(hv:Vis X.env.scope x:=by assumption)(hd:(x==("__debug__":Str))=Zi:=by decide) (j:(x==("__classdict__":Str))=Zi:=by decide):PEi B X (.Name x pos) (Ja i):=by
 intro V s U H Y Z h Q E N K;unfold Ja at K;cases e:Z[i]? with|none=>rw[e]at K;exact(K).elim|some o=>cases o with|none=>rw[e]at K;exact(K).elim|some v=>rw[e]at K;obtain⟨u,G,q⟩:=N.st.at_ i v e;exact XY (J4l D hv hd j) N.inv #[u,G,λk C F m=>K k C H Y #[F,N.rel,N.st] .refl #[u,m,q]]
theorem J23{i j pos}:PEi B X (.Constant (.int i) j pos) (eC<|.int i):=λ_ _ _ H Y _ _ _ E N K=>XY (J4i) N.inv λk u C m=>K k u H Y #[C,N.rel,N.st] .refl #[_,m,rfl]
theorem i_bl{i j pos}:PEi B X (.Constant (.bool i) j pos) (eC<|.bl i):=λ_ _ _ H Y _ _ _ E N K=>XY (J7g) N.inv λk u C m=>K k u H Y #[C,N.rel,N.st] .refl #[_,m,rfl]
theorem J29{j pos}:PEi B X (.Constant .none j pos) (eC .non):=λ_ _ _ H Y _ _ _ E N K=>XY (J4j) N.inv λk u C m=>K k u H Y #[C,N.rel,N.st] .refl #[_,m,rfl]
theorem J3b{i j pos}:PEi B X (.Constant (.str i) j pos) (eC<|.str i):=λ_ _ _ H Y _ _ _ E N K=>XY (J4k) N.inv λk u C m=>K k u H Y #[C,N.rel,N.st] .refl #[_,m,rfl]
theorem J22(D:Gl X x)(hm:X.mg x=J u)(r:RelV v u)(q:∀Y H,RV X.K Y H iv v)(hd:(x==("__debug__":Str))=Zi:=by decide):PEi B X (.Name x pos) (eC iv):=λ_ _ _ H Y _ _ _ E N K=>XY (J0m D hm r hd) N.inv λj m C k=>K j m H Y #[C,N.rel,N.st] .refl #[_,k,q _ _]
theorem J6r(O:OpI B X (ZaW op) f)(ha:PEi B X a ma)(P:PEi B X b mb):PEi B X (.BinOp a op b pos) (Jc f ma mb):=λV s U H Y Z h Q E N K=>wpAny_BinOp<|ha.run N K λx W u s1 R S C n1 j G=>P.run C G λy L w D F m k n2 M I=>O V D U F m Z L x y u w Q E k (j.mono n2) M I
theorem i_un(G:UnI B X (unaryOp op) f)(ha:PEi B X a ma):PEi B X (.UnaryOp op a pos) (eUn f ma):=λV s U H Y Z h Q E N K=>UnaryOp_<|ha.run N K λx F u I k C m n1 j D=>G V I U k C Z F x u Q E m j D
theorem J6t(O:OpI B X (Za0 op) f)(ha:PEi B X a ma)(P:PEi B X b mb)(hm:Zcs op b=Zi:=by assumption):PEi B X (.Compare a [op] [b] pos) (Jc f ma mb):=λV s U H Y Z h Q E N K=>wpAny_Compare1 (ha.run N K λx W u s1 R S C n1 j G=>P.run C G λy L w D F m k n2 M I=>O V D U F m Z L x y u w Q E k (j.mono n2) M I) hm
noncomputable def asB:IV->IH->Res Bool|.bl b,h=>.ok b h|_,_=>.stuck
theorem Kont.asB{r:Res IV}(K:Kont B X RB V Y Z U H (r.bind asB) Q E):Kont B X RU V Y Z U H r (λv s=>Zv (Zy X.prog X.w) X.A (truthy v) Q E s) E:=by
 cases r with|exc n h=>exact K|stuck=>exact K|ok v h=>intro u j C k N n q;obtain⟨x,m,q⟩:=q;cases v with|bl b=>have e:x=.bl b:=q;subst e;cases m;exact Zbq<|K b j C k N n rfl|_=>exact Zf K
theorem Res.bind_bind(r:Res α)(f:α->IH->Res β)(g:β->IH->Res γ):(r.bind f).bind g=r.bind λx h=>(f x h).bind g:=by cases r<;>rfl
theorem J7s(S:OpI B X (Za0 op) f)(ha:PEi B X a ma)(F:PEi B X b mb)(hm:Zcs op b=Zi:=by assumption):PTi B X (.Compare a [op] [b] pos) (Jj asB<|Jc f ma mb):=λV s U H Y Z h Q E N K=>by
  have O:Kont B X RB V Y Z U H ((ma Z h).bind λx j=>(mb Z j).bind λy L=>(f x y L).bind asB) Q E:=by unfold Jj Jc at K;simp only[Res.bind_bind]at K;exact K
  exact wpAny_isTrue_Compare1 (ha.run N O λx j u s1 W U1 m n1 G M=>F.run m M λy L w C D I k n2 R P=>S V C U D I Z L x y u w _ E k (G.mono n2) R<|Kont.asB P) hm
theorem J5c{k:IV->IH->Res Bool}(m:TrI B X k)(ha:PEi B X a ma)(O:∀j,isTrue a X.env j=(do let v<-j;Zeh a.pos;Zcb [v] (truthy v)):=by intro _;rfl):PTi B X a (Jj k ma):=λV s U H Y Z h Q E N K=>isTrue_plain (ha.run N K λx L u M D G F n1 C I=>m V M U D G Z L x u Q E F C I)<|O _
variable{rest:Tf}{ta tb:T1}
theorem J1i(ha:PTi B X a ta):PWi B X (.BoolOp .And [a] pos) ta:=λI V s U H Y Z h Q E N K=>by
 refine isTrue_and<|ha V s U H Y Z h _ E N ?_;cases e:ta Z h with
 |ok v G=>rw[e]at K;intro u k D m C j r;have F:=r;subst F;cases u with|true=>exact isTrue_and_nil<|K Zg k D m C j rfl|false=>exact K Zi k D m C j rfl
 |exc n G=>rw[e]at K;exact K
 |stuck=>rw[e]at K;exact K
theorem J5g(ha:PTi B X a ta):PWi B X (.BoolOp .Or [a] pos) ta:=λI V s U H Y Z h Q E N K=>by
 refine isTrue_or<|ha V s U H Y Z h _ E N ?_;cases e:ta Z h with
 |ok v G=>rw[e]at K;intro u k D m C j r;have F:=r;subst F;cases u with|false=>exact isTrue_or_nil<|K Zi k D m C j rfl|true=>exact K Zg k D m C j rfl
 |exc n G=>rw[e]at K;exact K
 |stuck=>rw[e]at K;exact K
theorem J5f(ha:PTi B X a ta)(M:PWi B X (.BoolOp .And (b::rest) pos) tb):PWi B X (.BoolOp .And (a::b::rest) pos) (QT ta tb):=λG V s U H Y Z h Q E N K=>
 isTrue_and (ha.run N K λc L u D j m k n1 I C=>by have F:=I;subst F;cases u with|true=>exact M G V D U j m Z L Q E k C|false=>exact C Zi D j m k .refl rfl)
theorem J7w(ha:PTi B X a ta)(M:PWi B X (.BoolOp .Or (b::rest) pos) tb):PWi B X (.BoolOp .Or (a::b::rest) pos) (tOrI ta tb):=λG V s U H Y Z h Q E N K=>
 isTrue_or (ha.run N K λc L u D j m k n1 I C=>by have F:=I;subst F;cases u with|false=>exact M G V D U j m Z L Q E k C|true=>exact C Zg D j m k .refl rfl)
theorem PWi.t(h:PWi B X a ta):PTi B X a ta:=h _
theorem J7t(ha:PTi B X a ta):PTi B X (.UnaryOp .Not a pos) (JK ta):=λV s U H Y Z h Q E N K=>
 isTrue_not (ha.run N K λc I u G m D C n1 k F=>by have j:=k;subst j;exact F (!u) G m D C .refl rfl)
theorem J3a{op}(h:PEi B X a ma):PEi B X (.BoolOp op [a] pos) ma:=λV s U H Y Z j Q E N K=>BoolOp_one<|h V s U H Y Z j Q E N K
theorem J6q(O:TrI B X tr)(ha:PEi B X a ma)(R:PEi B X (.BoolOp .And (b::rest) pos) mb):PEi B X (.BoolOp .And (a::b::rest) pos) (eAnd ma mb tr):=λV s U H Y Z h Q E N K=>
 BoolOp_and (ha.run N K λx D u s1 S W P n1 F j=>by
  refine O V s1 U S W Z D x u _ E P F ?_;cases e:tr x D with
  |ok c L=>rw[e]at j;intro d m C G k n2 r2;have M:=r2;subst M;have I:=Kont.mono j n2;cases d with|true=>exact R V m U C G Z L Q E k I|false=>exact I u m C G k .refl<|F.mono n2
  |exc n h'=>rw[e]at j;exact j
  |stuck=>rw[e]at j;exact j)
theorem i_or(O:TrI B X tr)(ha:PEi B X a ma)(R:PEi B X (.BoolOp .Or (b::rest) pos) mb):PEi B X (.BoolOp .Or (a::b::rest) pos) (eOr ma mb tr):=λV s U H Y Z h Q E N K=>
 BoolOp_or (ha.run N K λx D u s1 S W P n1 F j=>by
  refine O V s1 U S W Z D x u _ E P F ?_;cases e:tr x D with
  |ok c L=>rw[e]at j;intro d m C G k n2 r2;have M:=r2;subst M;have I:=Kont.mono j n2;cases d with|false=>exact R V m U C G Z L Q E k I|true=>exact I u m C G k .refl<|F.mono n2
  |exc n h'=>rw[e]at j;exact j
  |stuck=>rw[e]at j;exact j)
def VS(tr:IV->IH->Res Bool):IV->IH->Res IV:=λx h=>(tr x h).bind λc h1=>.ok (.bl (!c)) h1
theorem J1j(k:TrI B X tr):UnI B X (unaryOp .Not) (VS tr):=λV s U H Y Z h x v Q E N r K=>by refine not_of<|k V s U H Y Z h x v _ E N r ?_;unfold VS at K;cases e:tr x h with|ok c L=>rw[e]at K;intro d C D u m n2 F;have j:=F;subst j;exact K _ C D u m n2 #[.bl (!d),rfl,rfl]|exc n G=>rw[e]at K;exact K|stuck=>rw[e]at K;exact K
theorem Jzu{t:Expr}{D:T1}(L:PTi B X t D)(ha:PEi B X a ma)(O:PEi B X b mb):PEi B X (.IfExp t a b pos) (eIf D ma mb):=λV s U H Y Z h Q E N K=>
 wpAny_IfExp (L.run N K λc F u G j m k n1 M C=>by have I:=M;subst I;cases u with|true=>exact ha V G U j m Z F Q E k C|false=>exact O V G U j m Z F Q E k C)
theorem Jzt(ho:OpI B X (Za0 op) f)(m:OpI B X (Za0 op') g)(ha:PEi B X a ma)(hb:PEi B X b mb)(W:PEi B X c mc) (hm:ZdP [op,op'] [b,c]=Zi:=by with_unfolding_all rfl):PEi B X (.Compare a [op,op'] [b,c] pos) (JJ f g ma mb mc):=λV s U H Y Z h Q E N K=>
 Compare_chain (ha.run N K λx h1 u s1 H1 U1 O n1 r1 K1=>chain_link (hb.run O K1 λy L w R S U2 M n2 G j=>by
  refine ho V R U S U2 Z L x y u w _ E M (r1.mono n2) G ?_;cases e:f x y L with|exc n h'=>rw[e]at j;exact j|stuck=>rw[e]at j;exact j|ok k h3=>
   rw[e]at j;intro d P I U3 C D r3;obtain⟨z,rz,q⟩:=r3;cases k with
   |bl k=>have e':=q;subst e';cases rz;refine Zbq ?_;have F:=Kont.mono j D;cases k with|false=>exact ite_ff<|F _ P I U3 C .refl #[.bl Zi,rfl,rfl]|true=>exact ite_tt<|chain_last<|W.run C F λz h4 w' s4 H4 U4 N4 n4 r4 K4=>m V s4 U H4 U4 Z h4 y z w w' Q E N4 ((G.mono D).mono n4) r4 K4
   |_=>exact(j).elim)) hm
theorem J1e(ho:OpI B X (Za0 op) f)(F:OpI B X (Za0 op') g)(ha:PEi B X a ma)(hb:PEi B X b mb)(hc:PEi B X c mc) (hm:ZdP [op,op'] [b,c]=Zi:=by with_unfolding_all rfl):PTi B X (.Compare a [op,op'] [b,c] pos) (Jj asB<|JJ f g ma mb mc):=λV s U H Y Z h Q E N K=>by
 have K':Kont B X RB V Y Z U H ((ma Z h).bind λx I=>(mb Z I).bind λy L=>(f x y L).bind λk C=>(match k with|.bl Zg=>(mc Z C).bind λz j=>g y z j|.bl Zi=>.ok (.bl Zi) C|_=>.stuck:Res IV).bind asB) Q E:=by unfold Jj JJ at K;simp only[Res.bind_bind]at K;exact K
 refine isTrue_chain (ha.run N K' λx I u s1 H1 U1 N1 n1 r1 K1=>test_link<|hb.run N1 K1 λy L w s2 H2 U2 W n2 R m=>?_) hm;refine ho V s2 U H2 U2 Z L x y u w _ E W (r1.mono n2) R ?_;cases e:f x y L with|exc n h'=>rw[e]at m;exact m|stuck=>rw[e]at m;exact m|ok k C=>
  rw[e]at m;intro d s3 G S M O r3;obtain⟨z,rz,q⟩:=r3;cases k with
  |bl k=>
   have e':=q;subst e';cases rz;refine Zbq ?_;have P:=Kont.mono (r:=(match IV.bl k with|.bl Zg=>(mc Z C).bind λz j=>g y z j|.bl Zi=>.ok (.bl Zi) C|_=>.stuck:Res IV).bind asB) m O;cases k with|false=>exact ite_ff<|P _ s3 G S M .refl rfl|true=>
    have D:Kont B X RB V S Z U G ((mc Z C).bind λz j=>(g y z j).bind asB) Q E:=by have:=P;rw[Res.bind_bind]at this;exact this
    exact ite_tt<|test_last<|hc.run M D λz j w' s4 H4 U4 N4 n4 r4 K4=>F V s4 U H4 U4 Z j y z w w' _ E N4 ((R.mono O).mono n4) r4<|Kont.asB K4
  |_=>exact(m).elim
variable{es:Tf}{mr:A1}
theorem RUs.nil{K:W.Frag}{Y:Tw}{H:Hp}:RUs K Y H [] []:=#[[],.nil,rfl]
theorem RUs.cons{K:W.Frag}{Y:Tw}{H:Hp}{x:IV}{u:Zh}{xs:Tx}{us:Tv}(a:RU K Y H x u)(b:RUs K Y H xs us):RUs K Y H (x::xs) (u::us):=let ⟨v,r,q⟩:=a;let ⟨O,j,k⟩:=b;#[v::O,.cons r j,v,O,rfl,q,k]
theorem Q9:PAi B X [] Je:=λ_ V s U H Y Z h Q E N K=>Calls.spliced_nil<|K [] s H Y N .refl .nil
theorem Qy(ha:PEi B X a ma)(F:PAi B X es mr)(hs:Z9 (a::es) X.env=(Zi,ZaQ a X.env)::Z9 es X.env:=by rfl):PAi B X (a::es) (Jb ma mr):=by intro j V s U H Y Z h Q E N K;rw[hs];exact Zdx<|ha.run N K λx R u s1 S W m n1 G M=>(F j).run m M λxs L us C D I k n2 P O=>O _ C D I k .refl<|.cons (G.mono n2) P
end
noncomputable def Jm:IV->IV->IH->Res IV
 |.int i,.int j,h=>.ok (.int<|i+j) h
 |.str x,.str y,h=>if x.length+y.length<=sizeLine then .ok (.str<|x++y) h else .stuck
 |.ref i,.ref j,h=>match h[i]?,h[j]? with
  |some (.lst xs),J (.lst ys)=>if xs.length+ys.length<=sizeLine then .ok (.ref h.length) (h++[.lst<|xs++ys])else .stuck
  |_,_=>.stuck
 |.tup xs,.tup ys,h=>if xs≠[]/\ys≠[]/\xs.length+ys.length<=sizeLine then .ok (.tup<|xs++ys) h else .stuck
 |_,_,_=>.stuck
noncomputable def Qo:IV->IV->IH->Res IV|.int i,.int j,h=>.ok (.int<|i-j) h|_,_,_=>.stuck
def Vc(i j:Int):Prop:=i.natAbs<2^64\/j.natAbs<2^64\/(i.natAbs.log2<1048576/\j.natAbs.log2<1048576)
instance (i j:Int):Decidable (Vc i j):=by unfold Vc;exact inferInstance
noncomputable def VR:IV->IV->IH->Res IV
 |.int i,.int j,h=>if Vc i j then .ok (.int<|i*j) h else .stuck
 |.ref i,.int k,h=>match h[i]? with
  |some (.lst xs)=>if -(2^63)<=k/\k<2^63/\xs.length*k.toNat<=sizeLine then .ok (.ref h.length) (h++[.lst (ZD k.toNat xs).flatten])else .stuck
  |_=>.stuck
 |_,_,_=>.stuck
noncomputable def JG:IV->IV->IH->Res IV|.int i,.int j,h=>if 0<j/\j.natAbs.log2<9000 then .ok (.int<|i/j) h else .stuck|_,_,_=>.stuck
noncomputable def Ju:IV->IV->IH->Res IV|.int i,.int j,h=>if 0<j then .ok (.int<|i%j) h else .stuck|_,_,_=>.stuck
noncomputable def JM:IV->IV->IH->Res IV|.int i,.int j,h=>if 0<=j/\j<=1000000/\i.natAbs<2^64 then .ok (.int<|i^j.toNat) h else .stuck|_,_,_=>.stuck
noncomputable def Jv6:IV->IH->Res IV|.int i,h=>.ok (.int (-i)) h|_,_=>.stuck
section
variable{B:CeT}{X:Cx}
theorem fin0{w:hV}(N:Now B X V Y Z h U H s)(K:Kont B X RU V Y Z U H (.ok v h) Q E) (q:RV X.K Y H v w):∀u s',Inv X V U H s'->RelV w u->Q u s':=λu s' I r=>K u s' H Y #[I,N.rel,N.st] .refl #[w,r,q]
theorem finA{io:IX}{o:HO}{Q E:QvT}(N:Now B X V Y Z h U H s) (K:Kont B X RU V Y Z U H (.ok (.ref h.length)<|h++[io]) Q E)(l:Zm)(e:H l=Zc)(r:RO B X.K (Y++[l]) (upd H l o) l io):∀u s',Inv X V U (upd H l o) s'->RelV (.ref l) u->Q u s':=λu s' I j=>by obtain⟨R,n⟩:=N.rel.alloc e r;refine K u s' _ _ #[I,R,N.st.mono n] n #[.ref l,j,l,rfl,?_];rw[<-N.rel.len];simp
theorem finT{xs:Tx}{O:Ud}{Q E:QvT}(N:Now B X V Y Z h U H s) (K:Kont B X RU V Y Z U H (.ok (.tup xs) h) Q E)(l:Zm)(e:H l=Zc)(r:RVs X.K Y H xs O):∀u s',Inv X V U (upd H l<|.tup O) s'->RelV (.ref l) u->Q u s':=λu s' I j=>by obtain⟨R,n⟩:=N.rel.grow e;exact K u s' _ _ #[I,R,N.st.mono n] n #[.ref l,j,l,O,rfl,SqT.of J2,RVs.mono n _ _ r]
theorem RVs.new{K:W.Frag}{Y:Tw}{H:Hp}{l:Zm}{o:HO}(e:H l=Zc){xs:Tx}{O:Ud}(r:RVs K Y H xs O):RVs K (Y++[l]) (upd H l o) xs O:=RVs.mono #[#[[l],rfl],Ext.upd_new e] _ _ r
theorem Now.at(N:Now B X V Y Z h U H s){i:Nat}(e:h[i]?=J o)(ha:Y[i]?=J a):RO B X.K Y H a o:=by obtain⟨b,j,r⟩:=N.rel.at_ i o e;rw[ha]at j;cases j;exact r
theorem J63:OpI B X (ZaW .Add) Jm:=by
 intro V s U H Y Z h x y v u Q E N C D K;obtain⟨xv,C,P⟩:=C;obtain⟨yv,D,I⟩:=D;cases x with
 |int i=>cases y with|int j=>have m:=P;have k:=I;subst m k;exact Qg (J38) N.inv C D #[i,j,rfl,rfl,fin0 N K rfl]|_=>exact(K).elim
 |str i=>
  cases y with
  |str j=>
   have m:=P;have k:=I;subst m k;dsimp only[Jm]at K;split at K
   .rename_i F;exact Qg (Jqc) N.inv C D #[i,j,rfl,rfl,F,fin0 N K rfl]
   .exact(K).elim
  |_=>exact(K).elim
 |tup xs=>
  cases y with
  |tup ys=>
   obtain⟨a,O,m,sa,R⟩:=P;obtain⟨b,M,k,sb,W⟩:=I;subst m k;dsimp only[Jm]at K;split at K
   .rename_i F;obtain⟨h1,L,h3⟩:=F;have n1:O≠[]:=λz=>h1 (by have:=R.length;rw[z]at this;exact Zat this.symm)
    have n2:M≠[]:=λz=>L (by have:=W.length;rw[z]at this;exact Zat this.symm)
    exact Qg (J0j) N.inv C D #[a,b,O,M,rfl,rfl,sa,sb,n1,by rw[R.length,W.length];exact h3,λz=>absurd z n2,λ_ p hp=>finT N K p hp<|R.append W]
   .exact(K).elim
  |_=>exact(K).elim
 |ref i=>
  cases y with
  |ref j=>
   obtain⟨a,m,ha⟩:=P;obtain⟨b,k,hb⟩:=I;subst m k;dsimp only[Jm]at K;cases G:h[i]? with|none=>rw[G]at K;exact(K).elim|some oi=>
    cases S:h[j]? with|none=>rw[G,S]at K;cases oi<;>exact(K).elim|some oj=>
     rw[G,S]at K;cases oi with
     |lst xs=>
      cases oj with
      |lst ys=>
       dsimp only at K;split at K
       .rename_i F;obtain⟨O,m,r1⟩:=N.at G ha;obtain⟨M,k,r2⟩:=N.at S hb;exact Qg (J39) N.inv C D #[a,b,O,M,rfl,rfl,m,k,by rw[r1.length,r2.length];exact F,λp hp=>finA N K p hp #[_,J2,RVs.new hp<|r1.append r2]]
       .exact(K).elim
      |_=>exact(K).elim
     |_=>exact(K).elim
  |_=>exact(K).elim
 |_=>cases y<;>exact(K).elim
theorem J69:OpI B X (ZaW .Sub) Qo:=by
 intro V s U H Y Z h x y v u Q E N k m K;obtain⟨L,k,D⟩:=k;obtain⟨I,m,F⟩:=m;cases x with
 |int i=>cases y with|int j=>have G:=D;have C:=F;subst G C;exact Qg (J4d) N.inv k m #[i,j,rfl,rfl,fin0 N K rfl]|_=>exact(K).elim
 |_=>cases y<;>exact(K).elim
theorem Vc.ok(h:Vc i j):IntMulOk i j:=by
 rcases h with h|h|⟨h1,L⟩
 .exact .of_left<|intBits_le_64 05 05
 .exact .of_right<|intBits_le_64 05 05
 .refine .of_bits ?_ ?_
  .unfold Builtin.Int.intBits;split
   .exact ZN _
   .lia
  .unfold Builtin.Int.intBits;split
   .exact ZN _
   .lia
theorem J0k:OpR X (ZaW .Mult) (rI Vc λi j=>.int<|i*j):=opI λ_ _ _ _ _ _ _ k q=>mul_int q k.ok
theorem J67:OpI B X (ZaW .Mult) VR:=by
 intro V s U H Y Z h x y v u Q E N D F K;obtain⟨xv,D,P⟩:=D;obtain⟨yv,F,L⟩:=F;cases x with
 |int i=>
  cases y with
  |int j=>
   have C:=P;have G:=L;subst C G;dsimp only[VR]at K;split at K
   .rename_i m;exact Qg (J0k) N.inv D F #[i,j,rfl,rfl,m,fin0 N K rfl]
   .exact(K).elim
  |_=>exact(K).elim
 |ref i=>
  cases y with
  |int k=>
   obtain⟨a,C,ha⟩:=P;have G:=L;subst C G;dsimp only[VR]at K;cases I:h[i]? with|none=>rw[I]at K;exact(K).elim|some R=>
    rw[I]at K;cases R with
    |lst xs=>
     dsimp only at K;split at K
     .rename_i m;obtain⟨O,C,M⟩:=N.at I ha;have W:∀n:Nat,RVs X.K Y H (ZD n xs).flatten (ZD n O).flatten:=λn=>by induction n with|zero=>exact rfl|succ n S=>exact M.append S
      exact Qg (J4c) N.inv D F #[a,k,O,rfl,rfl,C,m.1,m.2.1,by rw[M.length];exact m.2.2,λp hp=>finA N K p hp #[_,J2,RVs.new hp<|W _]]
     .exact(K).elim
    |_=>exact(K).elim
  |_=>exact(K).elim
 |_=>cases y<;>exact(K).elim
theorem Jv7:OpR X (ZaW .FloorDiv) (rI (λ_ j=>0<j/\j.natAbs.log2<9000) λi j=>.int<|i/j):=opI λi j _ _ _ _ _ k q=>by exact floordiv_int 05 (by rw[Int.fdiv_eq_ediv_of_nonneg i 05];exact q)<|.inl<|PyProof.noPylong_of_log2 k.2
theorem J36:OpI B X (ZaW .FloorDiv) JG:=by
 intro V s U H Y Z h x y v u Q E N k m K;obtain⟨M,k,F⟩:=k;obtain⟨L,m,G⟩:=m;cases x with
 |int i=>
  cases y with
  |int j=>
   have I:=F;have C:=G;subst I C;dsimp only[JG]at K;split at K
   .rename_i D;exact Qg (Jv7) N.inv k m #[i,j,rfl,rfl,D,fin0 N K rfl]
   .exact(K).elim
  |_=>exact(K).elim
 |_=>cases y<;>exact(K).elim
theorem J66:OpI B X (ZaW .Mod) Ju:=by
 intro V s U H Y Z h x y v u Q E N k m K;obtain⟨M,k,F⟩:=k;obtain⟨L,m,G⟩:=m;cases x with
 |int i=>
  cases y with
  |int j=>
   have I:=F;have C:=G;subst I C;dsimp only[Ju]at K;split at K
   .rename_i D;exact Qg (J4a) N.inv k m #[i,j,rfl,rfl,D,fin0 N K rfl]
   .exact(K).elim
  |_=>exact(K).elim
 |_=>cases y<;>exact(K).elim
theorem J68:OpI B X (ZaW .Pow) JM:=by
 intro V s U H Y Z h x y v u Q E N k m K;obtain⟨M,k,F⟩:=k;obtain⟨L,m,G⟩:=m;cases x with
 |int i=>
  cases y with
  |int j=>
   have I:=F;have C:=G;subst I C;dsimp only[JM]at K;split at K
   .rename_i D;exact Qg (J4b) N.inv k m #[i,j,rfl,rfl,D,fin0 N K rfl]
   .exact(K).elim
  |_=>exact(K).elim
 |_=>cases y<;>exact(K).elim
theorem J7x:UnI B X (unaryOp .USub) Jv6:=by intro V s U H Y Z h x v Q E N j K;obtain⟨u,j,k⟩:=j;cases x with|int i=>have m:=k;subst m;exact J5j (J5h) N.inv j #[i,rfl,fin0 N K rfl]|_=>exact(K).elim
noncomputable def cLt:IV->IV->IH->Res IV|.int i,.int j,h=>.ok (.bl<|decide (i<j)) h|.str x,.str y,h=>.ok (.bl<|decide (x.cps.toList<y.cps.toList)) h|_,_,_=>.stuck
noncomputable def cLe:IV->IV->IH->Res IV|.int i,.int j,h=>.ok (.bl<|decide (i<=j)) h|.str x,.str y,h=>.ok (.bl (!decide (y.cps.toList<x.cps.toList))) h|_,_,_=>.stuck
noncomputable def cGt:IV->IV->IH->Res IV|.int i,.int j,h=>.ok (.bl<|decide (j<i)) h|_,_,_=>.stuck
noncomputable def cGe:IV->IV->IH->Res IV|.int i,.int j,h=>.ok (.bl<|decide (j<=i)) h|_,_,_=>.stuck
theorem o_lt:OpI B X (Za0 .Lt) cLt:=by
 intro V s U H Y Z h x y v u Q E N k m K;obtain⟨L,k,F⟩:=k;obtain⟨I,m,G⟩:=m;cases x with
 |int i=>cases y with|int j=>have D:=F;have C:=G;subst D C;exact Qg (J7e) N.inv k m #[i,j,rfl,rfl,fin0 N K rfl]|_=>exact Zf K
 |str i=>cases y with|str j=>have D:=F;have C:=G;subst D C;exact Qg (Jtb) N.inv k m #[i,j,rfl,rfl,fin0 N K rfl]|_=>exact(K).elim
 |_=>cases y<;>exact(K).elim
theorem o_le:OpI B X (Za0 .LtE) cLe:=by
 intro V s U H Y Z h x y v u Q E N k m K;obtain⟨L,k,F⟩:=k;obtain⟨I,m,G⟩:=m;cases x with
 |int i=>cases y with|int j=>have D:=F;have C:=G;subst D C;exact Qg (J7d) N.inv k m #[i,j,rfl,rfl,fin0 N K rfl]|_=>exact(K).elim
 |str i=>cases y with|str j=>have D:=F;have C:=G;subst D C;obtain⟨t,rfl⟩:=k;obtain⟨M,rfl⟩:=m;exact PySem.P.le_str<|fin0 N K rfl _ s N.inv rfl|_=>exact(K).elim
 |_=>cases y<;>exact(K).elim
theorem o_gt:OpI B X (Za0 .Gt) cGt:=by
 intro V s U H Y Z h x y v u Q E N k m K;obtain⟨L,k,D⟩:=k;obtain⟨I,m,F⟩:=m;cases x with
 |int i=>cases y with|int j=>have G:=D;have C:=F;subst G C;exact Qg (J7c) N.inv k m #[i,j,rfl,rfl,fin0 N K rfl]|_=>exact(K).elim
 |_=>cases y<;>exact(K).elim
theorem o_ge:OpI B X (Za0 .GtE) cGe:=by
 intro V s U H Y Z h x y v u Q E N k m K;obtain⟨L,k,D⟩:=k;obtain⟨I,m,F⟩:=m;cases x with
 |int i=>cases y with|int j=>have G:=D;have C:=F;subst G C;exact Qg (J7b) N.inv k m #[i,j,rfl,rfl,fin0 N K rfl]|_=>exact(K).elim
 |_=>cases y<;>exact(K).elim
noncomputable def tru:IV->IH->Res Bool|.non,h=>.ok Zi h|.bl b,h=>.ok b h|.int i,h=>.ok (i != 0) h|.str x,h=>if x.length<=sizeLine then .ok ((x.length:Int) != 0) h else .stuck|.tup xs,h=>.ok (!xs.isEmpty) h|.rol xs,h=>.ok (!xs.isEmpty) h|.ref i,h=>match h[i]? with|some (.lst xs)=>.ok (!xs.isEmpty) h|some (.dct kvs)=>.ok (!kvs.isEmpty) h|_=>.stuck
theorem RVs.empty{K:W.Frag}{Y:Tw}{H:Hp}{xs:Tx}{O:Ud}(r:RVs K Y H xs O):O.isEmpty=xs.isEmpty:=by have:=r.length;cases xs<;>cases O<;>simp_all
theorem RPs.empty{κ:Type}{K:W.Frag}{Y:Tw}{H:Hp}{xs:List (κ×IV)}{O:List (κ×hV)}(r:RPs K Y H xs O):O.isEmpty=xs.isEmpty:=by have:=r.length;cases xs<;>cases O<;>simp_all
theorem finB(N:Now B X V Y Z h U H s)(K:Kont B X RB V Y Z U H (.ok c h) Q E):∀s',Inv X V U H s'->Q c s':=λs' I=>K c s' H Y #[I,N.rel,N.st] .refl rfl
theorem YI:TrI B X tru:=by
 intro V s U H Y Z h x v Q E N k K;obtain⟨L,k,m⟩:=k;cases x with
 |non=>have j:=m;subst j;exact Xa (VY) N.inv k #[_,rfl,finB N K]
 |bl b=>have j:=m;subst j;exact Xa (VY) N.inv k #[_,rfl,finB N K]
 |int i=>have j:=m;subst j;exact Xa (VY) N.inv k #[_,rfl,finB N K]
 |str y=>
  have j:=m;subst j;dsimp only[tru]at K;split at K
  .rename_i G;exact Xa (VY) N.inv k #[_,#[G,rfl],finB N K]
  .exact(K).elim
 |tup xs=>obtain⟨a,O,j,sa,C⟩:=m;subst j;exact Xa (VY) N.inv k #[!xs.isEmpty,.inr (.inl #[O,sa,by rw[C.empty]]),finB N K]
 |rol xs=>obtain⟨a,O,j,sa,C⟩:=m;subst j;exact Xa (VY) N.inv k #[!xs.isEmpty,.inl #[O,sa.sq,by rw[C.empty]],finB N K]
 |ref i=>
  obtain⟨a,j,ha⟩:=m;subst j;dsimp only[tru]at K;cases u:h[i]? with|none=>rw[u]at K;exact(K).elim|some I=>rw[u]at K;cases I with|lst xs=>obtain⟨O,j,D⟩:=N.at u ha;exact Xa (VY) N.inv k #[!xs.isEmpty,.inl #[O,SqL.of j,by rw[D.empty]],finB N K]|dct F=>obtain⟨O,j,D⟩:=N.at u ha;exact Xa (VY) N.inv k #[!F.isEmpty,.inr (.inr #[O,j,by rw[D.empty]]),finB N K]|_=>exact(K).elim
def Jz(a:A1):E1:=λU h=>(a U h).bind λxs h1=>if xs.length<=sizeLine then .ok (.tup xs) h1 else .stuck
def Jx(a:A1):E1:=λU h=>(a U h).bind λxs h1=>if xs.length<=sizeLine then .ok (.ref h1.length) (h1++[.lst xs])else .stuck
variable{es:Tf}{mr:A1}{pos:Pos}
theorem J3c{x1}(R:PAi B X es mr):PEi B X (.Tuple es x1 pos) (Jz mr):=λV s U H Y Z h Q E N K=>by
 refine wpAny_Tuple_spliced<|(R pos).run N K λxs h1 M P S W k n1 L C=>?_
 split at C
 .rename_i m;obtain⟨O,F,D⟩:=L;have G:=F.length;have j:=D.length;have I:=k.inv.hok.fresh<|Zq _;refine#[by rw[<-G,j];exact m,?_];exact finT k C P.heap.objs.size I D _ _ (k.inv.laid (λb u e=>Ze _ e) (Zq _) #[by rw[j];exact m,M,F,#[_,Zs _ rfl,rfl,_,rfl]]) rfl
 .trivial
theorem J6x(R:PAi B X es mr):PEi B X (.List es pos) (Jx mr):=λV s U H Y Z h Q E N K=>by
 refine wpAny_List_spliced<|(R pos).run N K λxs h1 M P S W k n1 L D=>?_
 split at D
 .rename_i C;obtain⟨O,G,F⟩:=L;have I:=G.length;have j:=F.length;have m:=k.inv.hok.fresh<|Zq _;refine#[by rw[<-I,j];exact C,?_];exact finA k D P.heap.objs.size m #[_,J2,RVs.new m F] _ _ (k.inv.laid (λb u e=>Ze _ e) (Zq _) #[by rw[j];exact C,M,0,G,Zs _ rfl]) rfl
 .trivial
end
section
variable{prog:Z7}{w:ZU}{A:ZI}{E:QvT}{s:Zl}
theorem Jli(j:t≠it):∀(n i:Nat)(s:Zl)(Q:Tv->Zl->Prop),s.heap.IsListIter it t i->s.heap.IsList t items->i+n<=items.size ->(∀h',h'.IsListIter it t (i+n)->Zbo it s.heap h'->Q ((items.toList.drop i).take n) {s with heap:=h'})->Zv (Zy prog w) A (draw (.ref it) n) Q E s
 |0,i,s,Q,hit,_,_,hQ=>by exact Zk<|by simpa using hQ s.heap hit<|Heap.SameBut.refl ..
 |n+1,i,s,Q,hit,ht,hle,hQ=>by
  have k:i<items.size:=05;refine Zb<|Zeb hit ht (x:=items[i]) 03 λh₁ hit₁ hs₁=>?_
  refine Zb<|ZO<|Jli j n (i+1) _ _ hit₁ (ht.extBut hs₁.extBut j) 05 λh₂ hit₂ hs₂=>Zk ?_
  have hd:items.toList.drop i=items[i]::items.toList.drop (i+1):=by simp[Za4,k]
  have:=hQ h₂ 05<|hs₁.trans hs₂;rw[hd]at this;exact this
theorem Jf9{Q:Tv->Zl->Prop}(C:A.handled=Zc)(j:s.heap.IsList t items)
  (D:∀h',ZcC s.heap.objs.size s.heap h'->Q items.toList {s with heap:=h'}):Zv (Zy prog w) A (unpackItems (.ref t) items.size Zc) Q E s:=by
 have k:t≠s.heap.objs.size:=by obtain⟨o,B,_⟩:=j;exact Z1<|Zu B
 refine Zb ?_
 .unfold notIterableAtAll;refine Zb<|wpAny_specialOf j.typeIs slot_list_iter.lookup ?_;refine Zk ?_;refine Zb<|ZO<|ZaO j ?_;refine Zb<|ZO<|Jli k items.size 0 _ _ #[_,Zs _ rfl,rfl,rfl] (j.push _) 05 λh₁ hit₁ hs₁=>?_
  have m:List.take items.size (List.drop 0 items.toList)=items.toList:=by rw[List.drop_zero];exact Zba 03
  rw[m];rw[if_neg 03];have ht₁:=(j.push _).extBut hs₁.extBut k;refine Zb<|ZO<|Zey C hit₁ ht₁ 03 λh₂ he₂=>?_
  refine Zk<|D h₂ λb o u e=>he₂ b o u<|hs₁.extBut b o u<|Ze _ e
theorem Jfa{env:Env}{j:Tf}{x1}{pos:Pos}{t:Zm}{items:Tk}{Q:Unit->Zl->Prop}(k:A.handled=Zc)(m:s.heap.IsList t items)
  (hn:(ZaL j env).length=items.size)(hstar:(ZaL j env).findIdx? (·.1)=Zc)
  (h:∀h',ZcC s.heap.objs.size s.heap h'->Zv (Zy prog w) A (ZeN ((ZaL j env).map (·.2)) items.toList) Q E {s with heap:=h'}):
  Zv (Zy prog w) A (Zei (.Tuple j x1 pos) env<|.ref t) Q E s:=by
 refine Zb<|ZaS ?_;unfold unpack;rw[hn,hstar];exact Zb<|ZO<|Jf9 k m h
end
abbrev S1:=ISt->IH->SRes
structure Noted(hJ:Zm)(fs:Tw)(e:Zm)(h h3:Zam):Prop where
 ex:∃oe O T ts,h.get? e=J oe/\oe.data=.fields O/\1<O.size/\h3.get? e=J (Zao (·.setIfInBounds 1 (.ref T)) oe)/\T≠e/\h.get? T=Zc/\h3.get? T=J {cls:=.type "traceback",dict:=Zc,data:=.fields ts}/\ts[3]?=J (Za9 hJ)
 slot:∀b o,h.get? b=J o->b≠e->∃sl,h3.get? b=J {o with slots:=sl}
 keep:∀b o,h.get? b=J o->b≠e->b∉fs->h3.get? b=J o
def Fly(hJ:Zm)(fs:Tw)(e:Zm)(s s1:Zl):Prop:=s1=s\/∃h',s1={s with heap:=h'}/\Noted hJ fs e s.heap h'
def JE(B:CeT)(X:Cx)(V:PnT)(Y:Tw)(H:Hp)(r:SRes)(Q:Flow->Zl->Prop)(E:QvT):Prop:=match r with|.next Ui' h'=>∀s' U' H' Y',Now B X V Y' Ui' h' U' H' s'->Nxt Y H Y' H'->Q .next s'|.brk Ui' h'=>∀s' U' H' Y',Now B X V Y' Ui' h' U' H' s'->Nxt Y H Y' H'->Q .brk s'|.cont Ui' h'=>∀s' U' H' Y',Now B X V Y' Ui' h' U' H' s'->Nxt Y H Y' H'->Q .cont s'|.ret v h'=>∀u s' Ui' U' H' Y',Now B X V Y' Ui' h' U' H' s'->Nxt Y H Y' H'->RU X.K Y' H' v u->Q (.ret u) s'|.exc n Ui' h'=>∀pl a s' U' H' Y',Now B X (V++pl) Y' Ui' h' U' H' s'->Nxt Y H Y' H'->Y'[n]?=J a->∀s1,Fly X.env.locals (frs X.stack) a s' s1->E (.ref a) s1|.stuck=>False
theorem JE.mono(k:JE B X V Y H r Q E)(n:Nxt Y H Y' H'):JE B X V Y' H' r Q E:=by cases r with|next U h=>exact λj C F D N n2=>k j C F D N<|n.trans n2|brk U h=>exact λj C F D N n2=>k j C F D N<|n.trans n2|cont U h=>exact λj C F D N n2=>k j C F D N<|n.trans n2|ret v h=>exact λu j G C F D N n2=>k u j G C F D N<|n.trans n2|exc m U h=>exact λpl a j C F D N n2=>k pl a j C F D N<|n.trans n2|stuck=>exact k
def PSi(B:CeT)(X:Cx)(t:Sem Flow)(m:S1):Prop:=∀(V:PnT)(s:Zl)(U:L2.St)(H:Hp)(Y:Tw)(Z:ISt)(h:IH)(Q:Flow->Zl->Prop)(E:QvT),Now B X V Y Z h U H s->JE B X V Y H (m Z h) Q E->Zv (Zy X.prog X.w) X.A t Q E s
abbrev PS1(B:CeT)(X:Cx)(st:Zcg)(m:S1):Prop:=PSi B X (exec st X.env) m
abbrev PS2(B:CeT)(X:Cx)(sts:To)(m:S1):Prop:=PSi B X (execs sts X.env) m
noncomputable def Jr:S1:=λU h=>.next U h
def Jf(a b:S1):S1:=λU h=>match a U h with|.next U' h'=>b U' h'|r=>r
noncomputable def J0u:S1:=λU h=>.next U h
def Jx4:S1:=λU h=>.brk U h
def J4t:S1:=λU h=>.cont U h
noncomputable def rS {α:Type}(U:ISt)(r:Res α)(k:α->IH->SRes):SRes:=match r with|.ok a h=>k a h|.exc n h=>.exc n U h|.stuck=>.stuck
def JA(e:E1):S1:=λU h=>rS U (e U h) λ_ h'=>.next U h'
def Jk(e:E1):S1:=λU h=>rS U (e U h) λv h'=>.ret v h'
noncomputable def J4u:S1:=λ_ h=>.ret .non h
def sIf(t:T1)(a b:S1):S1:=λU h=>rS U (t U h) λc h'=>if c then a U h' else b U h'
def Jh(i:Nat)(e:E1):S1:=λU h=>rS U (e U h) λv h'=>.next (U.set i<|J v) h'
section
variable{B:CeT}{X:Cx}{st:Zcg}{rest:To}{m m1 m2:S1}{e:Expr}{me:E1}{pos:Pos}
theorem krun{α β:Type}{R:REL α β}{t:Sem β}{C:ISt->IH->Res α}(p:PX B X R t C){V:PnT}{s:Zl}{U:L2.St}{H:Hp}{Y:Tw}{Z:ISt}{h:IH}(N:Now B X V Y Z h U H s){g:α->IH->SRes}{Q:Flow->Zl->Prop}{E:QvT}{D:β->Zl->Prop} (K:JE B X V Y H (rS Z (C Z h) g) Q E) (step:∀x h1 u s1 H1 m,Now B X V m Z h1 U H1 s1->Nxt Y H m H1->R X.K m H1 x u->JE B X V m H1 (g x h1) Q E->D u s1):Zv (Zy X.prog X.w) X.A t D E s:=by refine p V s U H Y Z h D E N ?_;cases e:C Z h with|ok v L=>rw[e]at K;exact λu k I F G j r=>step v L u k I F G j r<|JE.mono K j|exc n L=>rw[e]at K;exact λpl a k I F G j q=>K pl a k U I F G j q k<|.inl rfl|stuck=>rw[e]at K;exact K
theorem J4r:PS2 B X [] Jr:=λ_ s U H Y _ _ _ _ N K=>Zc1<|K s U H Y N .refl
theorem J0s(h1:PS1 B X st m1)(L:PS2 B X rest m2):PS2 B X (st::rest) (Jf m1 m2):=by intro V s U H Y Z h Q E N K;refine wpAny_execs_cons<|h1 V s U H Y Z h _ E N ?_;unfold Jf at K;cases e:m1 Z h with|next k j=>rw[e]at K;exact λC u G D F m=>L V C u G D k j Q E F<|JE.mono K m|brk k j=>rw[e]at K;exact K|cont k j=>rw[e]at K;exact K|ret v j=>rw[e]at K;exact K|exc n k j=>rw[e]at K;exact K|stuck=>rw[e]at K;exact K
theorem J4s(h1:PS1 B X st m1):PS2 B X [st] m1:=by intro V s U H Y Z h Q E N K;refine wpAny_execs_cons<|h1 V s U H Y Z h _ E N ?_;cases e:m1 Z h with|next k j=>rw[e]at K;exact λC u G D F m=>Zc1<|K C u G D F m|brk k j=>rw[e]at K;exact K|cont k j=>rw[e]at K;exact K|ret v j=>rw[e]at K;exact K|exc n k j=>rw[e]at K;exact K|stuck=>rw[e]at K;exact K
theorem Jx6:PS1 B X (.Pass pos) J0u:=λ_ s U H Y _ _ _ _ N K=>wpAny_Pass<|K s U H Y N .refl
theorem J0v:PS1 B X (.Break pos) Jx4:=λ_ s U H Y _ _ _ _ N K=>wpAny_Break<|K s U H Y N .refl
theorem J4x:PS1 B X (.Continue pos) J4t:=λ_ s U H Y _ _ _ _ N K=>wpAny_Continue<|K s U H Y N .refl
theorem J4y(F:PEi B X e me)(hs:ZcT e Zc pos.line X.env=pure Zi:=by rfl):PS1 B X (.Expr e pos) (JA me):=λV s U H Y Z h Q E N K=>
 wpAny_Expr_any (krun F N K λx I u D j m k n1 G C=>C D U j m k .refl) N.inv.quiet hs
theorem J40(G:PEi B X e me):PS1 B X (.Return (J e) pos) (Jk me):=λV s U H Y Z h Q E N K=>
 wpAny_Return_some (krun G N K λx I u F k C m n1 j D=>D u F Z U k C m .refl j)
theorem J41:PS1 B X (.Return Zc pos) J4u:=λV s U H Y Z h Q E N K=>wpAny_Return_none<|K .none s Z U H Y N .refl #[.non,rfl,rfl]
theorem s_if{c:Expr}{a b:To}{D:T1}(M:PTi B X c D)(ha:PS2 B X a m1)(O:PS2 B X b m2):PS1 B X (.If c a b pos) (sIf D m1 m2):=λV s U H Y Z h Q E N K=>
 wpAny_If (krun M N K λx F u G j m k n1 L C=>by have I:=L;subst I;cases u with|true=>exact ha V G U j m Z F Q E k C|false=>exact O V G U j m Z F Q E k C)
theorem J0x{i:Nat}{x:Str}{pos':Pos}(F:X.N.Nodup)(O:PEi B X e me)(hi:X.N[i]?=J x:=by rfl)(hx:Loc X.env.scope x:=by assumption)(hs:ZcT e (J<|.Name x pos') pos.line X.env=pure Zi:=by rfl) (m:X.fn x=Zg\/X.env.scope.names.lookup x=J .local:=by assumption):PS1 B X (.Assign [.Name x pos'] e pos) (Jh i me):=λV s U H Y Z h Q E N K=>
 wpAny_Assign_Name (krun O N K λv P u R D I j n1 C L=>by obtain⟨w,k,q⟩:=C;exact YF j.inv F hi hx k (λG M=>L G _ D I #[M,j.rel,j.st.set i q] .refl) m) hs
abbrev G1:=IV->ISt->IH->SRes
def PGi(B:CeT)(X:Cx)(tg:Expr)(g:G1):Prop:=∀(V:PnT)(s:Zl)(U:L2.St)(H:Hp)(Y:Tw)(Z:ISt)(h:IH)(v:IV)(u:Zh)(Q:Flow->Zl->Prop)(E:QvT),Now B X V Y Z h U H s->RU X.K Y H v u->JE B X V Y H (g v Z h) Q E ->Zv (Zy X.prog X.w) X.A (Zei tg X.env u) (λ_ s'=>Q .next s') E s
noncomputable def gNm (i:Nat):G1:=λv U h=>.next (U.set i<|J v) h
theorem g_nm(m:X.N.Nodup)(hi:X.N[i]?=J x:=by rfl)(hx:Loc X.env.scope x:=by assumption)(k:X.fn x=Zg\/X.env.scope.names.lookup x=J .local:=by assumption):PGi B X (.Name x pos) (gNm i):=by intro V s U H Y Z h v u Q E N r K;obtain⟨w,j,q⟩:=r;exact wpAny_assign_Name<|YF N.inv m hi hx j (λC D=>K C _ H Y #[D,N.rel,N.st.set i q] .refl) k
def PGsi(B:CeT)(X:Cx)(ts:Tf)(g:Tx->ISt->IH->SRes):Prop:=∀(V:PnT)(s:Zl)(U:L2.St)(H:Hp)(Y:Tw)(Z:ISt)(h:IH)(O:Tx)(us:Tv)(Q:Flow->Zl->Prop)(E:QvT),Now B X V Y Z h U H s->RUs X.K Y H O us->JE B X V Y H (g O Z h) Q E ->Zv (Zy X.prog X.w) X.A (ZeN ((ZaL ts X.env).map (·.2)) us) (λ_ s'=>Q .next s') E s
noncomputable def gN:Tx->ISt->IH->SRes|[],U,h=>.next U h|_::_,_,_=>.stuck
def gC(g:G1)(r:Tx->ISt->IH->SRes):Tx->ISt->IH->SRes
 |v::O,U,h=>match g v U h with
  |.next U' h'=>r O U' h'
  |.exc n U' h'=>.exc n U' h'
  |_=>.stuck
 |[],_,_=>.stuck
theorem J2t:PGsi B X [] gN:=by intro V s U H Y Z h O m Q E N r K;cases O with|nil=>obtain⟨xs,j,q⟩:=r;have k:=q;subst k;cases j;exact assignInOrder_nil<|K s U H Y N .refl|cons v O=>exact(K).elim
theorem Jzj{tg:Expr}{C:Tf}{g:G1}{r:Tx->ISt->IH->SRes}(h1:PGi B X tg g)(L:PGsi B X C r) (hs:(ZaL (tg::C) X.env).map (·.2)=Zei tg X.env::(ZaL C X.env).map (·.2):=by rfl):PGsi B X (tg::C) (gC g r):=by
 intro V s U H Y Z h O us Q E N I K;cases O with|nil=>exact(K).elim|cons v O=>
  obtain⟨xs,P,x,G,e1,q,qs⟩:=I;subst e1;cases P with|cons W r2=>rw[hs];refine assignInOrder_cons (h1 V s U H Y Z h v _ (λf u=>Zv (Zy X.prog X.w) X.A (ZeN ((ZaL C X.env).map (·.2)) _) (λ_ u=>Q .next u) E u) E N #[x,W,q] ?_);have k:JE B X V Y H (match g v Z h with|.next m j=>r O m j|.exc n m j=>.exc n m j|_=>.stuck) Q E:=K;cases e:g v Z h with|next m j=>rw[e]at k;exact λu F R S M D=>L V u F R S m j O _ Q E M #[G,r2,RVs.mono D _ _ qs]<|JE.mono k D|exc n m j=>rw[e]at k;exact k|_=>rw[e]at k;exact(k).elim
noncomputable def gTp (n:Nat)(g:Tx->ISt->IH->SRes):G1:=λv U h=>match v with|.tup xs=>if xs.length=n then g xs U h else .stuck|.ref i=>(match h[i]? with|some (.lst xs)=>if xs.length=n then g xs U h else .stuck|_=>.stuck)|_=>.stuck
theorem J6m{es:Tf}{k n:Nat}{g:Tx->ISt->IH->SRes}(M:X.calm=Zg)(P:PGsi B X es g)(hn:(ZaL es X.env).length=n:=by rfl)(m:(ZaL es X.env).findIdx? (·.1)=Zc:=by rfl):PGi B X (.Tuple es k pos) (gTp n g):=by
 intro V s U H Y Z h v u Q E N r K;obtain⟨w,C,q⟩:=r;cases v with
 |tup xs=>
  obtain⟨a,O,L,sa,j⟩:=q;subst L;cases C;unfold gTp at K;dsimp only at K;split at K
  .rename_i hl;obtain⟨I,D,F,W⟩:=N.inv.tuple sa;have l1:=j.length;have l2:=D.length;refine assign_Tuple_tuple (N.inv.ok.hd M) F (by simp_all) m λS hx=>?_
   have I1:=N.inv.kept (t':=s.toks) λb o e=>hx b o (Z1<|Zu e) e
   exact P V _ U H Y Z h xs _ Q E #[I1,N.rel,N.st] #[O,by simpa using D,j] K
  .exact(K).elim
 |ref i=>
  obtain⟨a,L,ha⟩:=q;subst L;cases C;unfold gTp at K;dsimp only at K;cases G:h[i]? with|none=>rw[G]at K;exact(K).elim|some R=>
   rw[G]at K;cases R with
   |lst xs=>
    dsimp only at K;split at K
    .rename_i hl;obtain⟨O,g1,j⟩:=N.at G ha;obtain⟨I,D,F,W⟩:=N.inv.list<|SqL.of g1;have l1:=j.length;have l2:=D.length;refine Jfa (N.inv.ok.hd M) F.isList (by simp_all) m λS hx=>?_
     have I1:=N.inv.kept (t':=s.toks) λb o e=>hx b o (Z1<|Zu e) e
     exact P V _ U H Y Z h xs _ Q E #[I1,N.rel,N.st] #[O,by simpa using D,j] K
    .exact(K).elim
   |_=>exact(K).elim
 |_=>exact(K).elim
def sAsg(e:E1)(g:G1):S1:=λU h=>rS U (e U h) λv h'=>g v U h'
theorem J7m{tg:Expr}{g:G1}(M:PEi B X e me)(D:PGi B X tg g)(hs:swapsWithSole [tg] e pos.line X.env=pure Zi:=by rfl)(k:swappedStores [tg] e X.env=pure Zc:=by rfl) (h1:(ZaL [tg] X.env).map (·.2)=[Zei tg X.env]:=by rfl):PS1 B X (.Assign [tg] e pos) (sAsg me g):=λV s U H Y Z h Q E N K=>
 wpAny_Assign_stores (krun M N K λv L u I m F C n1 j G=>by rw[h1];exact D V I U m F Z L v u Q E C j G) hs k
end
theorem ExF.ok{h:Zam}(e:h.get? a=J oe)(c:oe.cls=.ref C)(d:oe.data=.fields O)(v:O[1]?=J tv)(u:O[2]?=J .none)(m:oe.dict=dd):JU P w H h a (ExF a C tv dd):=#[#[oe,O,e,c,d,v,u,m],#[oe,e],λ_ _ ⟨o,j,B,r⟩ k=>#[o,j,k _ B,r]]
theorem ExF.get(x:HOk P w H h)(e:H a=J (ExF a C tv d)):∃j O,h.get? a=J j/\j.cls=.ref C/\j.data=.fields O/\O[1]?=J tv/\O[2]?=J .none/\j.dict=d:=(x a _ e).1
theorem Jlh(o:Obj)(f:Tk->Tk):(o.mapFields f).dict=o.dict:=by unfold Zao;split<;>rfl
theorem Ju6(x:HOk P w H h)(e1:H a=J (ExF a C tv d))(k:H a=J (ExF a C' tv' d')):d=d':=by obtain⟨o,_,g,_,_,_,_,q⟩:=ExF.get x e1;obtain⟨u,_,m,_,_,_,_,j⟩:=ExF.get x k;cases g.symm.trans m;exact q.symm.trans j
theorem Jta:∀{o:HO},JU P w H h a o->∃u,h.get? a=J u:=λ{o} q=>by cases o with|lst _=>obtain⟨_,_,_,_,e⟩:=q;exact#[_,e]|tup _=>obtain⟨_,_,_,⟨_,e,_⟩⟩:=q;exact#[_,e]|dK _=>obtain⟨_,_,_,_,o,_,_,e,_⟩:=q;exact#[o,e]|dT _=>obtain⟨_,_,_,_,o,_,_,e,_⟩:=q;exact#[o,e]|set _ _=>obtain⟨o,_,_,_,e,_⟩:=q;exact#[o,e]|ins _ _ _=>obtain⟨_,_,_,e,_⟩:=q;exact#[_,e]|own _=>obtain⟨_,e⟩:=q;exact#[_,e]|xd _=>obtain⟨_,⟨_,_,_,e,_⟩,_⟩:=q;exact#[_,e]|rng _ _=>obtain⟨_,_,_,e⟩:=q;exact#[_,e]|frz _ _=>obtain⟨e,_⟩:=q;exact#[_,e]|tbl _=>exact#[_,(q)]|met _ _=>exact#[_,(q)]|ext _=>obtain⟨_,⟨_,e⟩,_⟩:=q;exact#[_,e]
theorem Jn2{h:Zam}{T:Zm}{j:Obj}{k:Tk}{v:Zh}(e:h.get? T=J j)(d:j.data=.fields k)(q:k[3]?=J v):(h.update T (Zao (·.setIfInBounds 3 v))).get? T=J j:=by
 have u:k.setIfInBounds 3 v=k:=by
  refine Array.ext 03 λi B L=>?_
  rw[Array.getElem_setIfInBounds];split
  .simp_all
  .rfl
 have m:Zao (·.setIfInBounds 3 v) j=j:=by obtain⟨c,C,E,D⟩:=j;subst d;simp only[Zao,u]
 rw[Zae _ e (by rw[m];exact ZaB d),m]
section
variable{X:Cx}{V:PnT}{U:L2.St}{H:Hp}{s:Zl}{M:Model}{E:QvT}{Q:Unit->Zl->Prop}{a C:Zm}{tv:Zh}{d:Te}{h3:Zam}{s1:Zl}
structure Past(X:Cx)(H:Hp)(h:Zam)(a C:Zm)(d:Te)(T:Zm)(oT:Obj)(h':Zam):Prop where
 new:H T=Zc
 ne:T≠a
 fld:∃ts,oT.data=.fields ts/\ts[3]?=J .none
 un:Un (frs X.stack) [] H (upd (upd H T<|.frz oT<|.own 0) a<|ExF a C (.ref T) d) h h'
 hok:HOk X.prog X.w (upd (upd H T<|.frz oT<|.own 0) a<|ExF a C (.ref T) d) h'
theorem Jkf(I:Inv X V U H s)(hs:X.stack=X.env::X.outer)(hf:X.env.frame=J X.env.locals)(ha:H a=J (ExF a C tv d))(ht:TvOk H tv)
  (k:∀h3,Noted X.env.locals (frs X.stack) a s.heap h3->Q () {s with heap:=h3}):Zv M X.A (ZeH (.ref a) X.env) Q E s:=by
 obtain⟨oe,O,e1,e2,S,e4,e5,e6⟩:=ExF.get I.hok ha;have G:a∉frs X.stack:=λz=>by rw[I.stkFree a z]at ha;cases ha
 have fr:=I.ok.frames;have ff:=I.stack;have len1:=(Za1.mp e4).1;have go:∀(h:Zam){j:Zh}{hn:Bool},(∀b,h.get? b=s.heap.get? b)->Zv M X.A (do let f<-frameOf X.env;let pl<-entryPlaceOf X.env.locals hn;let b<-EntryCells.newEntry j f .none (Za9 X.env.locals) .none pl;setField (.ref a) 1 b) Q E {s with heap:=h}:=by
  intro h j hn F;have L:=ff.of_keeps λb o q _=>#[o,(F b).trans q,rfl]
  rw[hs]at fr L;refine Zb<|wpAny_frameOf_fun fr L hf λu Y=>?_
  have D:=(Y.2.1 a<|by rw[hs]at G;exact G).trans<|(F a).trans e1;refine Zb<|wpAny_entryPlaceOf λpl hpl=>?_
  refine Zb<|ZbB ?_<|hpl.sizeOk5 _ _ _ _ _;have t3:([j,Zb6 X.env.locals,Zaj,Za9 X.env.locals,Zaj]++(if pl.isEmpty then ZD 6 Zaj else pl)).toArray[3]?=J (Za9 X.env.locals):=03;generalize ([j,Zb6 X.env.locals,Zaj,Za9 X.env.locals,Zaj]++(if pl.isEmpty then ZD 6 Zaj else pl)).toArray=P at t3 ⊢;have R:∀b o,u.get? b=J o->b≠u.objs.size:=λb o q=>Z1<|Zu q
  have nT:=ZP<|R a _ D;have B:∀b o,u.get? b=J o->(u.push {cls:=.type "traceback",dict:=Zc,data:=.fields P}).get? b=J o:=λb o q=>Ze _ q
  have Z:(u.push {cls:=.type "traceback",dict:=Zc,data:=.fields P}).get? u.objs.size=J {cls:=.type "traceback",dict:=Zc,data:=.fields P}:=Zs u rfl;refine ZaF (B _ _ D) S len1<|k _ #[#[oe,O,u.objs.size,P,e1,S,len1,Zae _ (B _ _ D)<|ZaB<|ZS S _,nT,?_,(Zw _ _<|ZP nT).trans Z,t3],λb o q n=>?_,λb o q n m=>?_]
  .cases q:s.heap.get? u.objs.size with|none=>rfl|some o=>obtain⟨sl,z⟩:=Y.2.2 _ _<|(F _).trans q;exact absurd rfl (R _ _ z)
  .obtain⟨sl,z⟩:=Y.2.2 _ _<|(F b).trans q;exact#[sl,(Zw _ _<|ZP n).trans<|B _ _ z]
  .exact(Zw _ _<|ZP n).trans (B _ _<|(Y.2.1 b<|by rw[hs]at m;exact m).trans<|(F b).trans q)
 unfold ZeH;rw[hf];refine Zb<|Zch e1 S e4 ?_;rcases ht with rfl|⟨T,oT,P,rfl,q1,q2,q3⟩
 .rw[if_neg 01];exact go s.heap λ_=>rfl
 .have W:s.heap.get? T=J oT:=(I.hok T _ q1).1;refine Zb<|Zch W q2 q3 ?_;refine Zb<|ZaF W q2 (Za1.mp q3).1 ?_;refine go _ λb=>?_
  by_cases z:b=T
  .subst z;exact(Jn2 W q2 q3).trans W.symm
  .exact Zw _ _<|ZP z
theorem Jd5{env:Env}(m:env.frame=J env.locals)(n:Noted env.locals fs a h h3)(q:Q () {s with heap:=h3}):Zv M A (ZeH (.ref a) env) Q E {s with heap:=h3}:=by obtain⟨⟨D,O,T,G,g1,g2,j,k,C,F,u,B⟩,_,_⟩:=n;unfold ZeH;rw[m];refine Zb (Zch (x:=.ref T) k (ZS g2 _) (by simp[j]) ?_);refine Zb<|Zch u rfl B ?_;rw[if_pos 03];exact Zk q
theorem Ji1{env:Env}(I:env.frame=J env.locals)(n:Noted env.locals fs a h h3)(k:∀F,Noted env.locals fs a h F->E (.ref a) {s with heap:=F}):cameBackBy M A env E (.ref a) {s with heap:=h3}:=by
 obtain⟨⟨Q,O,T,L,g1,g2,C,D,P,R,j,B⟩,G,kp⟩:=n;refine Zb (Zch (x:=.ref T) D (ZS g2 _) (by simp[C]) ?_);rw[I];refine Zb (Zch (x:=.ref T) D (ZS g2 _) (by simp[C]) ?_);refine ZaF j rfl (Za1.mp B).1 ?_;have u:∀b o,h3.get? b=J o->(h3.update T (Zao (·.setIfInBounds 3 (Za9 env.locals)))).get? b=J o:=λb o q=>by
  by_cases z:b=T
  .subst z;rw[j]at q;cases q;exact Jn2 j rfl B
  .exact(Zw _ _<|ZP z).trans q
 exact k _ #[#[Q,O,T,L,g1,g2,C,u _ _ D,P,R,u _ _ j,B],λb o q n=>let ⟨H,z⟩:=G b o q n;#[H,u _ _ z],λb o q n m=>u _ _<|kp b o q n m]
theorem Ji2(I:Inv X V U H s)(ha:H a=J (ExF a C tv d))(n:Noted hJ (frs X.stack) a s.heap h3)(k:∀T F h',Past X H s.heap a C d T F h'->Q () {s with heap:=h'}):Zv M X.A (ZeI (.ref a) Zc) Q E {s with heap:=h3}:=by
 obtain⟨⟨oe,O,T,ts,g1,g2,g3,g4,g5,G,Z,g8⟩,L,kp⟩:=n;obtain⟨oe',vs',x1,x2,x3,x4,x5,x6⟩:=ExF.get I.hok ha;rw[g1]at x1;cases x1;rw[g2]at x3;cases x3;have hok:=I.hok;have j:=I.stkFree;have Y:H T=Zc:=by cases q:H T with|none=>rfl|some u=>obtain⟨o,z⟩:=Jta<|hok T u q;rw[G]at z;cases z
 have tz:=(Za1.mp g8).1;refine Zb (Zch (x:=.ref T) g4 (ZS g2 _) (by simp[g3]) ?_);rw[if_pos 03];refine ZaF Z rfl tz ?_;have S:=(Zw h3 (Zao (·.setIfInBounds 3 ((Zc:Te).elim Zaj λf=>Za9 f))) g5).trans g4;have P:=Zae (Zao (·.setIfInBounds 3 ((Zc:Te).elim Zaj λf=>Za9 f))) Z<|ZaB<|ZS rfl _;have d7:=ZS (o:={cls:=.type "traceback",dict:=Zc,data:=.fields ts}) rfl (·.setIfInBounds 3 ((Zc:Te).elim Zaj λf=>Za9 f));have lt:∀b o,s.heap.get? b=J o->T≠b:=λb o q z=>by rw[z,q]at G;cases G
 have keep:∀b o,s.heap.get? b=J o->b≠a->b∉frs X.stack->(h3.update T (Zao (·.setIfInBounds 3 ((Zc:Te).elim Zaj λf=>Za9 f)))).get? b=J o:=λb o q n1 n2=>(Zw _ _<|lt b o q).trans<|kp b o q n1 n2
 have slot:∀b o,s.heap.get? b=J o->b≠a->∃L,(h3.update T (Zao (·.setIfInBounds 3 ((Zc:Te).elim Zaj λf=>Za9 f)))).get? b=J {o with slots:=L}:=λb o q n1=>let ⟨s',z⟩:=L b o q n1;#[s',(Zw _ _<|lt b o q).trans z]
 generalize h3.update T (Zao (·.setIfInBounds 3 ((Zc:Te).elim Zaj λf=>Za9 f)))=h' at S P keep slot;generalize Zao (·.setIfInBounds 3 ((Zc:Te).elim Zaj λf=>Za9 f)) {cls:=.type "traceback",dict:=Zc,data:=.fields ts}=F at P d7;have na:∀{b:Zm}{u:HO},H b=J u->(∀φ,u≠.ext φ)->b≠a:=λ{b u} q n z=>by subst z;rw[ha]at q;cases q;exact n _ rfl
 have W:∀{b:Zm}{u:HO},H b=J u->b≠T:=λ{b u} q z=>by subst z;rw[Y]at q;cases q
 have D:∀{b:Zm}{u:HO},H b=J u->(∀φ,u≠.ext φ)->upd (upd H T<|.frz F<|.own 0) a (ExF a C (.ref T) d) b=J u:=λ{b u} q n=>by rw[Jo<|na q n,Jo<|W q];exact q
 have fa:a∉frs X.stack:=λz=>by rw[j a z]at ha;cases ha
 refine k T F h' #[Y,g5,#[_,d7,by simp[tz]],#[λb o q n R _=>keep b o q (λz=>by subst z;rw[ha]at n;cases n) R,λb o q _ R _=>slot b o q λz=>fa<|z▸R,λb o q n _=>?_,λb o q _=>?_,λb xs q=>D q nofun,λb o u q=>D q nofun,λb ps q=>#[#[],by rw[D q nofun];simp]],λb u q=>?_]
 .rw[Jo (λz=>by subst z;rw[ha]at n;cases n),Jo λz=>by subst z;rw[G]at q;cases q];exact n
 .by_cases z:b=a
  .subst z;exact#[_,S]
  .obtain⟨L,w⟩:=slot b o q z;exact#[_,w]
 .by_cases z:b=a
  .subst z;rw[J2]at q;cases q;exact ExF.ok S ((Zcc _ _).trans x2) (ZS g2 _) (by simp[g3]) (by simp_all)<|(Jlh _ _).trans x6
  .rw[Jo z]at q;by_cases y:b=T
   .subst y;rw[J2]at q;cases q;exact#[P,#[F,P]]
   .rw[Jo y]at q;refine(hok b u q).stay (λc v B p=>?_) (λc p=>D p nofun) λc xs p=>D p nofun
    refine keep c v p ?_ ?_
    .rcases B with rfl|B
     .exact z
     .exact na B nofun
    .intro m;rcases B with rfl|B
     .rw[j _ m]at q;cases q
     .rw[j _ m]at B;cases B
theorem Jox(I:Inv X V U H s)(fl:Fly X.env.locals (frs X.stack) a s s1)(hs:X.stack=X.env::X.outer)(j:X.env.frame=J X.env.locals)(ha:H a=J (ExF a C tv d))(m:TvOk H tv) (k:∀T u h',Past X H s.heap a C d T u h'->Q () {s with heap:=h'}):Zv M X.A (ZeH (.ref a) X.env) (λ_ s'=>Zv M X.A (ZeI (.ref a) Zc) Q E s') E s1:=by
 rcases fl with rfl|⟨h',rfl,n⟩
 .exact Jkf I hs j ha m λB n=>Ji2 I ha n k
 .exact Jd5 j n<|Ji2 I ha n k
theorem Jsy(I:Inv X V U H s)(fl:Fly X.env.locals (frs X.stack) a s s1)(hs:X.stack=X.env::X.outer)(m:X.env.frame=J X.env.locals)(ha:H a=J (ExF a C tv d))(u:TvOk H tv) (k:∀T j h',Past X H s.heap a C d T j h'->Q () {s with heap:=h'}):Zv M X.A (leaving X.env<|.ref a) Q E s1:=by exact Zb<|Jox I fl hs m ha u k
end
def CXI(P:Z7)(w:ZU):CXT:=λouter H s E e s'=>∃H',s'.os=s.os/\Zdm s'.gens/\Un (frs outer) [] H H' s.heap s'.heap/\HOk P w H' s'.heap/\E e Zc H'
theorem Un.tail(a:Un fs [] H H1 h h1)(b:Un (hJ::fs) [] H1 H2 h1 L)(n:h.get? hJ=Zc):Un fs [] H H2 h L where
 keep:=λc o q m k _=>b.keep c o (a.keep c o q m k 03) (a.free c o q m 03) (λz=>(ZA.mp z).elim (λy=>by subst y;rw[n]at q;cases q) k) 03
 slot:=λc o q m k _=>by obtain⟨G,j⟩:=a.slot c o q m k 03;obtain⟨C,B⟩:=b.any j (a.free c o q m 03) 03;exact#[C,B]
 free:=λc o q m _=>by obtain⟨D,j⟩:=a.there c o q 03;exact b.free c D j (a.free c o q m 03) 03
 there:=λc o q _=>by obtain⟨D,j⟩:=a.there c o q 03;exact b.there c D j 03
 tups:=λc xs q=>b.tups c xs<|a.tups c xs q
 frzs:=λc o u q=>b.frzs c o u<|a.frzs c o u q
 tbls:=λc ps q=>by obtain⟨F,j⟩:=a.tbls c ps q;obtain⟨E,B⟩:=b.tbls c _ j;exact#[F++E,by rw[B,Array.append_assoc]]
section
variable{X:Cx}{V:PnT}{U:L2.St}{H:Hp}{s:Zl}{k:Nat}{f C:Zm}{fd:ZaK}{ps:Tl}{sp:Sp}{dvs:Ud}{ds:Tv}{E:XK}{Q:VK}{us:Tv}{O:Ud}{W:QvT}
theorem Jt2(I:Inv X V U H s)(h:CXI X.prog X.w X.stack H s E e s'):∃H',Inv X V U H' s'/\E e Zc H':=by obtain⟨H',os,bare,un,hok,q⟩:=h;exact#[H',I.call' os un hok bare λb z=>absurd z 03,q]
theorem J0r(F:FnOk X.prog X.w X.K X.mg X.base (CXI X.prog X.w) k f fd ps sp)(D:Room k X.A)(B:Qc X.K fd ps ds)(hd:Vals dvs ds)(I:Inv X V U H s)(r:Vals O us)(h:sp (O++dvs) H Q E) (hx:∀e s' H',Inv X V U H' s'->E e Zc H'->W e s'):Zv (Zy X.prog X.w) X.A (call (.ref f) us) (EP X V U Q) W s:=by
 have m:=r.append hd;have G:=m.length;have L:=F.len _ _ _ _ h;refine Zc5<|ZbA (F.run _ _ _ _ #[us,[]] _ _ _ _ D I.env0 (B s us I.kIn 05) m h) λj s' q=>?_
 match j,q with|.error e,q=>obtain⟨H',C,z⟩:=Jt2 I q;exact hx e s' H' C z|.ok (.ret u),q=>exact I.after q|.ok .next,q=>exact ZaV q|.ok .brk,q=>exact ZaV q|.ok .cont,q=>exact ZaV q
theorem Jtn(M:Mk X.K C f)(F:FnOk X.prog X.w X.K X.mg X.base (CXI X.prog X.w) k f fd ps sp)(Z:Room (k+1) X.A)(S:Qc X.K fd ps ds)(hd:Vals dvs ds)(I:Inv X V U H s)(r:Vals O us) (h:∀x dx,H x=Zc->H dx=Zc->dx≠x->sp (.ref x::(O++dvs)) (upd (upd H dx<|.own x) x<|.ins C dx []) (λv H2=>v=.non/\Q (.ref x) H2) E) (hx:∀e s' H',Inv X V U H' s'->E e Zc H'->W e s'):Zv (Zy X.prog X.w) X.A (call (.ref C) us) (EP X V U Q) W s:=by
 have z0:=s.heap.objs.size;have D:=h (s.heap.objs.size+1) s.heap.objs.size (I.hok.fresh<|Zay _) (I.hok.fresh<|Zq _)<|Z1<|Zau _;have j:=Inv.made (C:=C) I;have B:Vals (hV.ref (s.heap.objs.size+1)::(O++dvs)) (Zb6 (s.heap.objs.size+1)::(us++ds)):=.cons rfl (r.append hd);have la:=B.length;have lf:=F.len _ _ _ _ D;have G:(Zb6 (s.heap.objs.size+1)::us++ds).length=ps.length:=by rw[Zac];lia
 refine Zc5<|Jv2 I.kIn M.makes M.init (beq_iff_eq.mp M.fn)<|ZbA (F.run _ _ _ _ #[.ref (s.heap.objs.size+1)::us,[]] _ _ _ _ (Z.make C us []) (j.env0.make C us []) (S _ (.ref (s.heap.objs.size+1)::us) j.kIn G) B D) λm s' q=>?_
 match m,q with|.error e,q=>obtain⟨H',L,z⟩:=Jt2 j q;exact hx e s' H' L z|.ok (.ret u),q=>obtain⟨v,H',P,R,ev,Y⟩:=j.after q;subst ev;exact#[R,#[hV.ref<|s.heap.objs.size+1,H',P,rfl,Y]]|.ok .next,q=>exact ZaV q|.ok .brk,q=>exact ZaV q|.ok .cont,q=>exact ZaV q
end
structure ItI where
 xs:Tx
 chk:IH->Prop
open Classical in
def Qj(chk:IH->Prop)(g:G1)(b:S1):Tx->ISt->IH->SRes|[],U,h=>if chk h then .next U h else .stuck|x::xs,U,h=>if chk h then(match g x U h with|.next W1 h1=>(match b W1 h1 with|.next W2 L=>Qj chk g b xs W2 L|.cont W2 L=>Qj chk g b xs W2 L|.brk W2 L=>.next W2 L|.ret v L=>.ret v L|.exc n W2 L=>(match L[n]? with|some (.exc _ _)=>.exc n W2 L|_=>.stuck)|_=>.stuck)|_=>.stuck)else .stuck
abbrev I1:=ISt->IH->Res ItI
def sFor(it:I1)(g:G1)(b:S1):S1:=λU h=>rS U (it U h) λcK h'=>Qj cK.chk g b cK.xs U h'
structure ItOk(B:CeT)(K:W.Frag)(Y:Tw)(H₀:Hp)(cK:It)(I:ItI):Prop where
 go:∀(k:Nat)(x:IV)(h:IH)(H:Hp)(Y':Tw),Nxt Y H₀ Y' H->Rel B K Y' h H->I.chk h->I.xs[k]?=J x ->cK.go k H/\∀y H',cK.yld k H y H'->Rel B K Y' h H'/\Nxt Y' H Y' H'/\RV K Y' H' x y
 stop:∀(k:Nat)(h:IH)(H:Hp)(Y':Tw),Nxt Y H₀ Y' H->Rel B K Y' h H->I.chk h->I.xs.length<=k->cK.stop k H
theorem Rel.get{B:CeT}{K:W.Frag}{Y:Tw}{h:IH}{H:Hp}(R:Rel B K Y h H){i:Nat}{o:IX}(e:h[i]?=J o){a:Zm}(ha:Y[i]?=J a):RO B K Y H a o:=by obtain⟨b,j,r⟩:=R.at_ i o e;rw[ha]at j;cases j;exact r
def RIt(B:CeT)(X:Cx)(tg:Expr)(V:PnT)(Y':Tw)(I:ItI)(itv:Zh)(s2:Zl)(H':Hp):Prop:=∃(it:Zm)(fp:Tw)(tn:Nat->Zam->Prop)(cK:It),itv=.ref it/\Turn X.prog X.w X.K tg cK fp it tn/\tn 0 s2.heap/\(∀b∈fp,FpOk X V H' b)/\ItOk B X.K Y' H' cK I
def PIi(B:CeT)(X:Cx)(tg iter:Expr)(m:I1):Prop:=∀(V:PnT)(s:Zl)(U:L2.St)(H:Hp)(Y:Tw)(Z:ISt)(h:IH)(Q:QvT)(E:QvT),Now B X V Y Z h U H s ->(match m Z h with|.ok I h'=>∀itv s' H' Y',Now B X V Y' Z h' U H' s'->Nxt Y H Y' H'->RIt B X tg V Y' I itv s' H'->Q itv s'|.exc n h'=>∀pl a s' H' Y',Now B X (V++pl) Y' Z h' U H' s'->Nxt Y H Y' H'->Y'[n]?=J a->E (.ref a) s'|.stuck=>False) ->
  Zv (Zy X.prog X.w) X.A (ZaQ iter X.env) (λv s1=>Zv (Zy X.prog X.w) X.A (Zdv v) Q E s1) E s
section
variable{B:CeT}{X:Cx}
theorem nof{M:Model}{A:ZI}{α:Type}{t:Sem α}{Q:α->Zl->Prop}{E:QvT}{s:Zl}(h:Zv M A t Q (λ_ _=>False) s):Zv M A t Q E s:=Zaf h (λ_ _ x=>x) λ_ _ z=>z.elim
theorem Now.pins{V pl:PnT}{Y:Tw}{Z:ISt}{h:IH}{U:L2.St}{H:Hp}{s:Zl}(N:Now B X (V++pl) Y Z h U H s):Now B X V Y Z h U H s:=#[N.inv.unpinned,N.rel,N.st]
theorem J7p{tg iter:Expr}{body:To}{mi:I1}{g:G1}{mb:S1}{pos:Pos}(hc:X.calm=Zg)(hst:X.stack=X.env::X.outer)(hf:X.env.frame=J X.env.locals)(hi:PIi B X tg iter mi)(hg:PGi B X tg g)(S:PS2 B X body mb)
  (hs:∀x,Zcd iter X.env x=pure x:=by intro _;rfl):PS1 B X (.For tg iter body [] pos) (sFor mi g mb):=by
 intro V s U H Y Z h Q E N K;refine wpAny_For (hi V s U H Y Z h _ E N ?_) hs;unfold sFor at K;cases e0:mi Z h with|exc n h'=>rw[e0]at K;exact λpl a s' M Y' N' n' q=>K pl a s' U M Y' N' n' q s'<|.inl rfl|stuck=>rw[e0]at K;exact K|ok I h'=>
  rw[e0]at K;intro itv s2 H2 U2 N2 n2 R;obtain⟨it,fp,tn,cK,e,T,st2,f2,OK⟩:=R;subst e;have W:∀{M:Hp},(∀b∈fp,M b=Zc)->∀b∈fp,FpOk X V M b:=λhn b S=>#[hn b S,(f2 b S).2]
  have K2:=JE.mono (r:=Qj I.chk g mb I.xs Z h') K n2;refine codeAny_forLoop_any (λn s'=>∃k L Uk hk U' M,Now B X V L Uk hk U' M s'/\Nxt U2 H2 L M/\tn k s'.heap/\(∀b∈fp,M b=Zc)/\n=I.xs.length-k/\k<=I.xs.length/\JE B X V L M (Qj I.chk g mb (I.xs.drop k) Uk hk) Q E) ?_ I.xs.length
   #[0,U2,Z,h',U,H2,N2,.refl,st2,λb S=>(f2 b S).1,03,ZN _,by simpa using K2]
  rintro n s3 ⟨k,L,Uk,hk,W3,H3,N3,n3,st3,fr3,rfl,hkl,j⟩;by_cases hlt:k<I.xs.length
  ·-- a turn
   have hd:=Za4 hlt;rw[hd]at j;unfold Qj at j;split at j
   .rename_i hck;obtain⟨go,yl⟩:=OK.go k I.xs[k] hk H3 L n3 N3.rel hck<|Zd hlt;refine nof<|thn (T.item X rfl rfl rfl hc k V s3 W3 H3 (λ_ _=>False) N3.inv (W fr3) st3 go) λr s4 ⟨u,hr,h4⟩=>?_
    subst hr;refine nof<|thn h4 λ_ s5 ⟨x,H5,I5,r5,y5,st5,fr5⟩=>?_
    obtain⟨R5,n5,q5⟩:=yl x H5 y5;have I5':=I5.pinned (W fr5)<|T.obj _ _ st5;have N5:Now B X (V++QR fp s5.heap) L Uk hk W3 H5 s5:=#[I5',R5,N3.st.mono n5];cases eg:g I.xs[k] Uk hk with
    |next Ug hgg=>
     rw[eg]at j;dsimp only at j;refine nof<|hg _ s5 W3 H5 L Uk hk _ u (λ_ s6=>Zv (Zy X.prog X.w) X.A (execs body X.env) _ _ s6) (λ_ _=>False) N5 #[x,r5,q5] ?_;rw[eg];intro s6 U6 H6 W6 N6 n6;refine S _ s6 U6 H6 W6 Ug hgg _ _ N6 ?_;have again:∀{U7:L2.St}{P:Hp}{F:Zl}{D:ISt}{h7:IH}{O:Tw},Now B X (V++QR fp s5.heap) O D h7 U7 P F->Nxt W6 H6 O P->JE B X V L H3 (Qj I.chk g mb (I.xs.drop<|k+1) D h7) Q E ->
       ∃m,m<I.xs.length-k/\∃k L Uk hk U' M,Now B X V L Uk hk U' M F/\Nxt U2 H2 L M/\tn k F.heap/\(∀b∈fp,M b=Zc)/\m=I.xs.length-k/\k<=I.xs.length/\JE B X V L M (Qj I.chk g mb (I.xs.drop k) Uk hk) Q E:=
      λ{U7 P F D h7 O} G n7 K7=>by have nn:=(n5.trans n6).trans n7;refine#[I.xs.length-(k+1),00,k+1,O,D,h7,U7,P,G.pins,n3.trans nn,T.keep _ _ _ st5 λb S o e=>(G.inv.pin (b,o)<|Zp _<|Zp _<|Y5 S e).1,λb S=>?_,rfl,hlt,K7.mono nn];obtain⟨o,e,d⟩:=T.obj _ _ st5 b S;exact(G.inv.pin (b,o)<|Zp _<|Zp _<|Y5 S e).2.1
     cases eb:mb Ug hgg with
     |next D h7=>rw[eb]at j;exact λF U7 P O G n7=>again G n7 j
     |cont D h7=>rw[eb]at j;exact λF U7 P O G n7=>again G n7 j
     |brk D h7=>rw[eb]at j;exact λF U7 P O G n7=>j F U7 P O G.pins<|(n5.trans n6).trans n7
     |ret v h7=>rw[eb]at j;exact λu F D U7 P O G n7 r=>j u F D U7 P O G.pins ((n5.trans n6).trans n7) r
     |exc n D h7=>
      rw[eb]at j;dsimp only at j;cases hj:h7[n]? with|none=>rw[hj]at j;exact(j).elim|some ob=>
       cases ob with
       |exc c fs=>
        rw[hj]at j;intro pl a F U7 P O G n7 q s8 fl;obtain⟨C,tv,d,fe,hC,ha,ht⟩:=G.rel.get hj q;have back:∀h8,Noted X.env.locals (frs X.stack) a F.heap h8->cameBackBy (Zy X.prog X.w) X.A X.env E (.ref a) {F with heap:=h8}:=λh8 n8=>
         Ji1 hf n8 λh9 n9=>j (QR fp s5.heap++pl) a F U7 P O (by simp_all) ((n5.trans n6).trans n7) q _<|.inr #[h9,rfl,n9]
        rcases fl with rfl|⟨h8,rfl,n8⟩
        .exact Jkf G.inv hst hf ha ht back
        .exact Jd5 hf n8<|back h8 n8
       |_=>rw[hj]at j;exact(j).elim
     |stuck=>rw[eb]at j;exact(j).elim
    |_=>rw[eg]at j;exact(j).elim
   .exact(j).elim
  .have hke:I.xs.drop k=[]:=ZcI 00;rw[hke]at j;unfold Qj at j;split at j
   .rename_i hck;have stop:=OK.stop k hk H3 L n3 N3.rel hck 00;refine nof<|thn (T.done X rfl rfl rfl hc k V s3 W3 H3 (λ_ _=>False) N3.inv (W fr3) st3 stop) λr s4 ⟨hr,I4⟩=>?_
    subst hr;exact Zc1<|j s4 W3 H3 L #[I4,N3.rel,N3.st] .refl
   .exact(j).elim
noncomputable def itOf:IV->IH->Res ItI
 |.ref i,h=>match h[i]? with
  |some (.lst xs)=>.ok #[xs,λh'=>h'[i]?=J (.lst xs)] h
  |_=>.stuck
 |.rol xs,h=>.ok #[xs,λ_=>True] h
 |.tup xs,h=>.ok #[xs,λ_=>True] h
 |_,_=>.stuck
def iVal(e:E1):I1:=λU h=>(e U h).bind itOf
variable{tg:Expr}
theorem J3g{a:Zm}{i:Nat}{xs:Tx}{Y:Tw}{H₀:Hp}(ha:Y[i]?=J a):ItOk B X.K Y H₀ (Itl X.K a) #[xs,λh'=>h'[i]?=J (.lst xs)]:=by
 refine#[λk x h H E hp R j hx=>?_,λk h H E hp R j hx=>?_]
 .obtain⟨O,m,u⟩:=R.get j<|hp.at ha;obtain⟨v,hv,D⟩:=u.get hx;refine#[#[O,v,SqL.of m,hv],λy F C=>?_];obtain⟨rfl,C⟩:=C;have:=C O<|SqL.of m;rw[hv]at this;cases this;exact#[R,.refl,D]
 .obtain⟨O,m,u⟩:=R.get j<|hp.at ha;exact#[O,SqL.of m,by rw[u.length];exact hx]
theorem J3h{a:Zm}{xs:Tx}{O:Ud}{Y:Tw}{H₀:Hp}(sa:SqR X.K H₀ a O)(u:RVs X.K Y H₀ xs O):ItOk B X.K Y H₀ (Itl X.K a) #[xs,λ_=>True]:=by
 refine#[λk x h H D hp R j hx=>?_,λk h H D hp R j hx=>?_]
 .obtain⟨v,hv,C⟩:=u.get hx;have sq:=(hp.ext.sqR sa).sq;refine#[#[O,v,sq,hv],λy E m=>?_];obtain⟨rfl,m⟩:=m;have:=m O sq;rw[hv]at this;cases this;exact#[R,.refl,RV.mono hp _ _ C]
 .exact#[O,(hp.ext.sqR sa).sq,by rw[u.length];exact hx]
theorem J3i{a:Zm}{xs:Tx}{O:Ud}{Y:Tw}{H₀:Hp}(sa:SqT X.K H₀ a O)(u:RVs X.K Y H₀ xs O):ItOk B X.K Y H₀ (Itt X.K a) #[xs,λ_=>True]:=by
 refine#[λk x h H D hp R j hx=>?_,λk h H D hp R j hx=>?_]
 .obtain⟨v,hv,C⟩:=u.get hx;have sq:=hp.ext.sqT sa;refine#[#[O,v,sq,hv],λy E m=>?_];obtain⟨rfl,m⟩:=m;have:=m O sq;rw[hv]at this;cases this;exact#[R,.refl,RV.mono hp _ _ C]
 .exact#[O,hp.ext.sqT sa,by rw[u.length];exact hx]
theorem Jsh{l:Expr}{P:E1}(hl:PEi B X l P):PIi B X tg l (iVal P):=by
 intro V s U H Y Z h Q E N K;refine hl V s U H Y Z h _ E N ?_;unfold iVal at K;cases L:P Z h with|exc n R=>rw[L]at K;exact K|stuck=>rw[L]at K;exact K|ok v R=>
  rw[L]at K;intro u k G M j n1 r1;obtain⟨w,m,q⟩:=r1;have fresh:∀b∈[k.heap.objs.size],FpOk X V G b:=λb hb=>by
   have e:b=k.heap.objs.size:=by simpa using hb
   subst e;exact j.inv.fpOk (Zq _)<|j.inv.hok.fresh<|Zq _
  cases v with
  |ref i=>
   obtain⟨a,C,ha⟩:=q;subst C;cases m;cases F:R[i]? with|none=>simp only[Res.bind,itOf,F]at K|some o=>cases o with|lst xs=>simp only[Res.bind,itOf,F]at K;obtain⟨O,C,r1⟩:=j.at F ha;obtain⟨D,W,p,S⟩:=j.inv.list<|SqL.of C;refine ZaO p.isList<|K _ _ G M #[j.inv.kept λb o e=>Ze _ e,j.rel,j.st] n1 ?_;exact#[k.heap.objs.size,[k.heap.objs.size],_,Itl X.K a,rfl,Jmt a _,#[_,Zs _ rfl,rfl,rfl],fresh,J3g ha]|_=>simp only[Res.bind,itOf,F]at K
  |rol xs=>obtain⟨a,O,C,sa,I⟩:=q;subst C;cases m;obtain⟨D,W,p,S⟩:=j.inv.list sa.sq;refine ZaO p.isList<|K _ _ G M #[j.inv.kept λb o e=>Ze _ e,j.rel,j.st] n1 ?_;exact#[k.heap.objs.size,[k.heap.objs.size],_,Itl X.K a,rfl,Jmt a _,#[_,Zs _ rfl,rfl,rfl],fresh,J3h sa I]
  |tup xs=>obtain⟨a,O,C,sa,I⟩:=q;subst C;cases m;obtain⟨D,W,p,S⟩:=j.inv.tuple sa;refine wpAny_pyIter_tuple (p)<|K _ _ G M #[j.inv.kept λb o e=>Ze _ e,j.rel,j.st] n1 ?_;exact#[k.heap.objs.size,[k.heap.objs.size],_,Itt X.K a,rfl,Jqr a _,#[_,Zs _ rfl,rfl,rfl],fresh,J3i sa I]
  |_=>simp only[Res.bind,itOf]at K
noncomputable def rngI (lo hi:Int):Tx:=(ZR (hi-lo).toNat).map λk=>.int<|lo+(k:Nat)
def QC:Tx->IH->Res ItI|[.int j],h=>if -(2^62)<=j/\j<2^62 then .ok #[rngI 0 j,λ_=>True] h else .stuck|_,_=>.stuck
def iRg(f:Tx->IH->Res ItI)(a:A1):I1:=λU h=>(a U h).bind f
theorem J4n{lo hi:Int}{Y:Tw}{H₀:Hp}:ItOk B X.K Y H₀ (Itr lo (hi-lo).toNat) #[rngI lo hi,λ_=>True]:=by
 refine#[λk x h H u hp R j hx=>?_,λk h H u hp R j hx=>?_]
 .have m:k<(hi-lo).toNat:=by have:=(Zo.mp hx).1;simpa[rngI]using this
  refine#[m,λy D C=>?_];obtain⟨rfl,rfl⟩:=C;simp only[rngI,Z4,Zdi m]at hx;cases hx;exact#[R,.refl,rfl]
 .have:(rngI lo hi).length=(hi-lo).toNat:=by simp[rngI]
  rw[<-this];exact hx
theorem Jti{V:PnT}{U:L2.St}{H:Hp}{Y:Tw}{Z:ISt}{h:IH}{s:Zl}{Q E:QvT}{lo hi:Int}{t u v:Tok}{tk:Nat}(N:Now B X V Y Z h U H s)
  (h1: -(2^62)<=lo)(L:lo<2^62)(h3: -(2^62)<=hi)(m:hi<2^62)
  (K:∀j s' H' Y',Now B X V Y' Z h U H' s'->Nxt Y H Y' H'->RIt B X tg V Y' #[rngI lo hi,λ_=>True] j s' H'->Q j s'):
  Zv (Zy X.prog X.w) X.A (Zdv<|.ref s.heap.objs.size) Q E {s with heap:=s.heap.push {cls:=.type "range",data:=.fields (ZaE [.int lo t,.int hi u,.int 1 v])},toks:=tk}:=by
 have:=Jwe (X:=X) (tg:=tg) (E:=E) (R:=λk H'=>k=Itr lo (hi-lo).toNat/\H'=H) (t:=t) (u:=u) (v:=v) (tk:=tk) N.inv h1 L h3 m #[rfl,rfl];refine Zaf this (λj s' C=>?_) λ_ _ z=>z
 obtain⟨it,fp,F,k,H',e,D,T,st,f,rfl,rfl⟩:=C;exact K j s' _ Y #[D,N.rel,N.st] .refl #[it,fp,F,_,e,T,st,f,J4n]
theorem Jvi{a:Expr}{ma:A1}{p pos:Pos}(hg:Gl X "range")(hm:X.mg "range"=Zc)(ha:PAi B X [a] ma)(hs:Z9 [a] X.env=[(Zi,ZaQ a X.env)]:=by rfl):PIi B X tg (.Call (.Name "range" p) [a] [] pos) (iRg QC ma):=by
 intro V s U H Y Z h Q E N K;refine Call_<|Qt N.inv hg hm boot_range<|ZaD ?_ hs rfl;refine ha pos V s U H Y Z h _ E N ?_;unfold iRg at K;cases m:ma Z h with|exc n M=>rw[m]at K;exact K|stuck=>rw[m]at K;exact K|ok O M=>
  rw[m]at K;intro us s1 H1 U1 I n1 r1;obtain⟨xs,S,qs⟩:=r1;match O,K with
  |[.int j],K=>
   obtain⟨w,r,e1,q,L⟩:=qs;have C:r=[]:=L;subst e1 C;have G:w=.int j:=q;subst G;cases S with|cons r rr=>
    cases rr;obtain⟨t,rfl⟩:=r;simp only[Res.bind,QC]at K;by_cases k: -(2^62)<=j/\j<2^62
    .rw[if_pos k]at K;exact call_range_1<|Jti I 00 00 k.1 k.2 λu F W Y' P D R=>K u F W Y' P (n1.trans D) R
    .lia
  |[],K=>exact Zf K
  |.non::_,K=>exact Zf K
  |.bl _::_,K=>exact Zf K
  |.str _::_,K=>exact Zf K
  |.tup _::_,K=>exact Zf K
  |.rol _::_,K=>exact Zf K
  |.ref _::_,K=>exact Zf K
  |.int _::_::_,K=>exact Zf K
end
end L3
namespace L3
open PySem PySem.Spec PySem.Calls PyProof.Rows L2
section
variable{prog:Z7}{w:ZU}{A:ZI}{E:QvT}{s:Zl}{K:W.Frag}{x D:Zm}{ox:Obj}
open PySem.W PySem.Builtin PySem.Builtin.ObjectAttr PySem.Builtin.Getset_descriptor in
theorem J53{tp:Zh}(X:K.In s.heap)(hx:s.heap.get? x=J ox)(hcl:ox.cls=.ref D)(hm:mroIn K D (.type "object")=J Zg)(k:R (.ok<|.ret<|.ref D) s):ZbI (Zy prog w) A (.call (.builtin "getset_descriptor.__get__") #[[.builtin "object.__class__",.ref x,tp],[]]) R s:=by
 obtain⟨hh,g,d,t,os⟩:=s;have L0:Looks (Zy prog w) hh (Zej<|.ref x) (.ref D):=hcl▸(Looks.ld hx).andThen .now;have L5:=looks_mroIn (M:=Zy prog w) X hm;have sl:=KF.slot_gs;refine ZaX sl.plain KF.entry_gs<|sl.check _ _ _ _ _ _ _ _ KF.type_class (KF.args_gs _ _ _) ?_;unfold Zbp.«getset_descriptor.__get__»;unfold descrGet;rw[dga_obj];apply Zb;apply Zk;unfold descrGetter descrCheckInstance;unfold descrNameAndClass isInstance;simp only[KF.owner_class];repeat lk
 have quiet:=ZbR (id:="object.__class__") #[[.ref x],[]]<|by decide +kernel
 refine#[quiet,Zai KF.entry_class ?_];unfold Zbp.«object.__class__»;unfold shownTypeOf;repeat lk
 exact k
theorem Jxd{tk:Tok}{Q:Fin->Zl->Prop}(X:K.In s.heap)(hx:s.heap.get? x=J ox)(j:ox.cls=.ref D)(m:W.findIn K (.ref D) "__class__"=J (J<|.builtin "object.__class__"))(hm:W.mroIn K D (.type "object")=J Zg) (I:Q (.done<|.ret<|.ref D) s):Zv (Zy prog w) A (Zbp.«object.__getattribute__» #[[.ref x,.str "__class__" tk],[]]) Q E s:=by
 obtain⟨B,g,d,t,os⟩:=s;have u:W.Looks (Zy prog w) B (Zej<|.ref x) (.ref D):=j▸(W.Looks.ld hx).andThen .now;have k:=W.looks_findIn (M:=Zy prog w) X m;have C:=F.typeOf_object_class;have G:=F.slot_gs_get.lookup;have H:=F.slot_gs_set.lookup;repeat (any_goals (first|assumption|with_reducible refine u.at ?_|with_reducible refine k.at ?_|wp_step))
 refine J53 X hx j hm ?_;repeat (any_goals (first|assumption|wp_step))
theorem Jpq(X:K.In s.heap)(hx:s.heap.get? x=J ox)(j:ox.cls=.ref D)(G:W.mroIn K D (.type "BaseException")=J Zg)(m:Q () s):Zv M A (checkBuiltinCall "BaseException.__getattribute__" #[[.ref x,v],[]]) Q E s:=by
 obtain⟨C,g,d,t,os⟩:=s;have u:W.Looks M C (Zej<|.ref x) (.ref D):=j▸(W.Looks.ld hx).andThen .now;have B:=W.looks_mroIn (M:=M) X G;have H:builtinKind "BaseException.__getattribute__"=J .slot:=by decide +kernel
 have k:splitId "BaseException.__getattribute__"=J ("BaseException","__getattribute__"):=by decide +kernel
 have I:=F.args_bexc_ga (.ref x) v;simp only[checkBuiltinCall,k];refine Zb ?_;unfold isInstance;repeat (first|with_reducible refine u.at ?_|with_reducible refine B.at ?_|wp_step)
 exact m
theorem J78{tk:Tok}{Q:QvT}(X:K.In s.heap)(hx:s.heap.get? x=J ox)(j:ox.cls=.ref D)(u:W.findIn K (.ref D) "__getattribute__"=J (J<|.builtin "BaseException.__getattribute__"))(G:W.mroIn K D (.type "BaseException")=J Zg)(hn:W.findIn K (.ref D) "__getattr__"=J Zc) (k:W.findIn K (.ref D) "__class__"=J (J<|.builtin "object.__class__"))(hm:W.mroIn K D (.type "object")=J Zg)(O:Q (.ref D) s):Zv (Zy prog w) A (getAttrBy (.ref x) (.str "__class__" tk) Zi) Q E s:=by
 obtain⟨C,g,d,t,os⟩:=s;have B:W.Looks (Zy prog w) C (Zej<|.ref x) (.ref D):=j▸(W.Looks.ld hx).andThen .now;have H:=W.looks_findIn (M:=Zy prog w) X u;have I:=W.looks_findIn (M:=Zy prog w) X hn;have L:=F.attr_ValueError.ga.bind<|.ref x;have m:(ZcW "BaseException.__getattribute__"==ZcW "object.__getattribute__")=Zi:=by decide +kernel
 repeat (any_goals (first|assumption|with_reducible refine B.at ?_|with_reducible refine H.at ?_|with_reducible refine I.at ?_|wp_step))
 refine ZaX F.attr_ValueError.ga.plain F.entry_bexc_ga<|Jpq X hx j G<|Jxd X hx j k hm ?_;repeat (any_goals (first|assumption|wp_step))
theorem J19{Q:Tc->Zl->Prop}(X:K.In s.heap)(hx:s.heap.get? x=J ox)(j:ox.cls=.ref D)(B:W.findIn K (.ref D) "__getattribute__"=J (J<|.builtin "BaseException.__getattribute__"))(u:W.mroIn K D (.type "BaseException")=J Zg)(hn:W.findIn K (.ref D) "__getattr__"=J Zc) (k:W.findIn K (.ref D) "__class__"=J (J<|.builtin "object.__class__"))(hm:W.mroIn K D (.type "object")=J Zg)(m:Q (J<|.ref D) {s with toks:=s.toks+1}):Zv (Zy prog w) A (getAttr? (.ref x) "__class__") Q E s:=by obtain⟨C,g,d,t,os⟩:=s;unfold getAttr? getAttrBy?;refine Zb<|wpAny_mkText<|Zb<|Zct<|J78 X hx j B u hn k hm ?_;exact Zk m
end
structure ExI(K:W.Frag)(C:Zm):Prop where
 ga:W.findIn K (.ref C) "__getattribute__"=J (J<|.builtin "BaseException.__getattribute__")
 mb:W.mroIn K C (.type "BaseException")=J Zg
 gn:W.findIn K (.ref C) "__getattr__"=J Zc
 ca:W.findIn K (.ref C) "__class__"=J (J<|.builtin "object.__class__")
 mo:W.mroIn K C (.type "object")=J Zg
 hd:W.hasDictIn K C=Zg
theorem ExI.at_{K:W.Frag}{C:Zm}(e:ExI K C):∃c d cd sl,K.lookup C=J #[c,d,.cls cd,sl]:=by
 obtain⟨cd,k,_⟩:=W.any_some e.hd;unfold W.clsIn at k;split at k;case h_2=>cases k
 rename_i c d j sl m;exact#[c,d,j,sl,m]
theorem Jot{K:W.Frag}{x D:Zm}(e:ExI K D):W.KitX K (.ref x) (.ref D) (λh=>∃ox,h.get? x=J ox/\ox.cls=.ref D) where
 ty:=λ_ _ _ ⟨ox,hx,j⟩=>j▸(W.Looks.ld hx).andThen .now
 it:=λ_ _ X _=>by obtain⟨c,d,cd,B,m⟩:=e.at_;intro H L M G kp q;unfold isType;unfold loadHead;exact Zb<|Ze4 (kp _ _<|X D _ m)<|Zk q
 ne:=λh I F E n B X u=>by obtain⟨c,d,cd,C,m⟩:=e.at_;rw[ZbC];intro q;cases (Value.ref.inj<|beq_iff_eq.mp q);have z:=(X D _ m).symm.trans u;cases z
 ca:=λX ⟨ox,hx,j⟩ k=>J19 X hx j e.ga e.mb e.gn e.ca e.mo k
end L3
namespace L3
open PySem PySem.Spec PyProof.Rows L2
noncomputable def XX (n:Nat)(O:Tx):ISt:=O.map J++ZD (n-O.length) Zc
noncomputable def SRes.fin (r:SRes):Res IV:=match r with|.next _ h'=>.ok .non h'|.ret v h'=>.ok v h'|.exc n _ h'=>(match h'[n]? with|some (.exc _ _)=>.exc n h'|_=>.stuck)|_=>.stuck
noncomputable def fnI (n:Nat)(m:S1):Tx->IH->Res IV:=λO h=>(m (XX n O) h).fin
def spI(B:CeT)(K:W.Frag)(ps:Tl)(f:Tx->IH->Res IV):Sp:=λO H Q E=>
 O.length=ps.length/\∃Y h ivs,Rel B K Y h H/\RVs K Y H ivs O /\ match f ivs h with|.ok v h'=>∀x H' Y',Rel B K Y' h' H'->Nxt Y H Y' H'->RV K Y' H' v x->Q x H'|.exc n h'=>∀a H' Y',Rel B K Y' h' H'->Nxt Y H Y' H'->Y'[n]?=J a->E (.ref a) Zc H'|.stuck=>False
theorem RVs.start{K:W.Frag}{Y:Tw}{H:Hp}{N:Tl}{k:Tx}{O:Ud}(r:RVs K Y H k O):RSt K Y H (XX N.length k) (L2.start N O):=by
 have C:=r.length;refine#[by simp[XX,L2.start,C],λj v e=>?_];unfold XX at e;unfold L2.start;by_cases B:j<k.length
 .rw[Z8 (by simpa using B),Z4]at e;rw[Z8 (by simp;lia),Z4];cases m:k[j]? with|none=>rw[m]at e;cases e|some w=>rw[m]at e;cases e;obtain⟨u,D,q⟩:=r.get m;exact#[u,by rw[D];rfl,q]
 .rw[ZK (by simpa using B),ZbK]at e;split at e<;>cases e
theorem Jkp{α:Type}:∀{l:List α}{i:Nat}{x:α},l[i]?=J x->l.set i x=l|[],_,_,e=>by simp at e|a::l,0,x,e=>by cases e;rfl|a::l,i+1,x,e=>by show a::l.set i x=a::l;rw[Jkp (l:=l) e]
theorem Vs{B:CeT}{K:W.Frag}{Y:Tw}{h:IH}{H:Hp}{i:Nat}{o:IX}{a:Zm}(R:Rel B K Y h H)(e:h[i]?=J o)(q:Y[i]?=J a):RO B K Y H a o:=by obtain⟨b,j,r⟩:=R.at_ i o e;rw[q]at j;cases j;exact r
structure FunD(K:W.Frag)(x qual:Str)(st:Zcg)(f:Zm)(fd:ZaK)(dV:Zh):Prop where
 ex:∃(oc:Zh)(od:Te)(kV doc pm:Zh)(an:Te)(cdv ct:Zh)(osl:Wb),fd=W.fnOf x qual (QN st) (Q0 st) (JS st) dV kV doc pm an cdv ct/\K.lookup f=J #[oc,od,.func fd,osl]/\W.codeIn K cdv qual=Zg
 kp:W.keepIn K (.ref f)=Zg
section
variable{P:Z7}{w:ZU}{K:W.Frag}{mg:Str->Tc}{base:Zam}{B:CeT}
theorem FunD.fn{x qual:Str}{st:Zcg}{f:Zm}{fd:ZaK}{dV:Zh}{N ps:Tl}{k n:Nat}{m:S1}(F:FunD K x qual st f fd dV)(S:FnScope N ps<|JS st)
  (hbody:∀(X:Zh)(A:ZI)(outer:Tn)(s:Zl)(H:Hp)(E:XK),W.codeIn K X qual=Zg->Room k (A.deeper<|Ze6 qual (JS st) s.heap.objs.size f X)->PS2 B (cxOf (CXI P w) P w K mg base N qual (JS st) f X A outer s H E).nox (Q0 st) m)(hn:N.length=n:=by rfl):
  FnOk P w K mg base (CXI P w) (k+1) f fd ps (spI B K ps<|fnI n m):=by
 subst hn;obtain⟨oc,od,kV,doc,pm,an,X,ct,osl,rfl,lk,hcd⟩:=F.ex;refine J6j lk hcd S (λO H Q E h=>h.1) λA outer s H O Q E hr hsp=>?_
 obtain⟨hl,Y,h,ivs,R,rv,M⟩:=hsp;refine#[λD U H=>∃Y Z h,Rel B K Y h H/\RSt K Y H Z U/\match m Z h with|.next Ui' h'=>∀U' G Y',Rel B K Y' h' G->RSt K Y' G Ui' U'->Nxt Y H Y' G->D.nx U' G|.ret v h'=>∀x G Y',Rel B K Y' h' G->Nxt Y H Y' G->RV K Y' G v x->D.rt x G|.exc n _ h'=>(∃c fs,h'[n]?=J (.exc c fs))/\∀a G Y',Rel B K Y' h' G->Nxt Y H Y' G->Y'[n]?=J a->E (.ref a) Zc G|_=>False,λV s' U' G D I ht=>?_,Y,XX N.length ivs,h,R,rv.start,?_]
 .obtain⟨Y,Z,h,R,rs,hm⟩:=ht;refine Zaf (hbody X A outer s H E hcd hr V s' U' G Y Z h (SP _ V D) _ #[I.wish _,R,rs] ?_) (λ_ _ z=>z) λ_ _ z=>z
  cases e:m Z h with
  |next W2 L=>rw[e]at hm;exact λs3 W3 H3 U3 N3 n3=>#[W3,H3,N3.inv.unwish,hm W3 H3 U3 N3.rel N3.st n3]
  |ret v L=>rw[e]at hm;exact λu s3 U3i W3 H3 U3 N3 n3 ⟨z,rz,q⟩=>#[z,W3,H3,N3.inv.unwish,rz,hm z H3 U3 N3.rel n3 q]
  |exc j W2 L=>
   rw[e]at hm;obtain⟨⟨c,fs,hj⟩,hm⟩:=hm;intro pl a s3 W3 H3 U3 N3 n3 hi s4 fl;have I3:=N3.inv.unwish;obtain⟨C,tv,d,fe,hC,ha,ht⟩:=Vs N3.rel hj hi;refine Jsy I3 fl rfl rfl ha ht λT oT h' p=>?_
   have nl:s.heap.get? s.heap.objs.size=Zc:=Zcf<|Zq _;obtain⟨R4,n4⟩:=N3.rel.grow (o:=.frz oT<|.own 0) p.new;have ha4:upd H3 T (.frz oT<|.own 0) a=J (ExF a C tv d):=by rw[Jo<|ZP p.ne];exact ha
   obtain⟨R5,n5⟩:=R4.write hi ha4 (by rw[ha4];trivial) (o:=ExF a C (.ref T) d) (io:=.exc c fs) #[C,.ref T,d,fe.mono p.un.frzs,hC,J2,.inr #[T,oT,_,rfl,by rw[Jo p.ne,J2],p.fld.choose_spec]];rw[Jkp hj]at R5;exact#[_,I3.os,I3.bare,Un.tail I3.base p.un nl,p.hok,hm a _ U3 R5 ((n3.trans n4).trans n5) hi]
  |_=>rw[e]at hm;exact hm.elim
 .unfold fnI SRes.fin at M;cases e:m (XX N.length ivs) h with
  |next W2 L=>rw[e]at M;exact λW3 H3 U3 R3 _ n3=>M .non H3 U3 R3 n3 rfl
  |ret v L=>rw[e]at M;exact M
  |exc j W2 L=>
   rw[e]at M;dsimp only at M;cases q:L[j]? with|none=>rw[q]at M;exact M.elim|some o=>cases o with|exc c fs=>rw[q]at M;exact#[#[c,fs,q],M]|_=>rw[q]at M;exact M.elim
  |_=>rw[e]at M;exact M.elim
end
noncomputable def Res.nx {α:Type}:Res α->Res α|.ok a h=>.ok a h|_=>.stuck
def Ji(f:Tx->IH->Res IV)(dvs:Tx)(a:A1):E1:=λU h=>(a U h).bind λO h1=>f (O++dvs) h1
def Q2(c:Str)(f:Tx->IH->Res IV)(dvs:Tx)(a:A1):E1:=λU h=>(a U h).bind λO h1=>(f (.ref h1.length::(O++dvs))<|h1++[.ins c []]).bind λr L=>match r with|.non=>.ok (.ref h1.length) L|_=>.stuck
def Ju3(m:Str)(disp:Str->Option ((Tx->IH->Res IV)×Tx))(o:E1)(a:A1):E1:=λU h=>(o U h).bind λv h1=>match v with|.ref i=>(match h1[i]? with|some (.ins c fs)=>(match disp c,fs.lookup m with|some (f,dvs),Zc=>(a U h1).bind λO L=>f (.ref i::(O++dvs)) L|_,_=>.stuck)|_=>.stuck)|_=>.stuck
section
variable{B:CeT}{X:Cx}{k:Nat}{fa C:Zm}{fd:ZaK}{ps:Tl}{f:Tx->IH->Res IV}{dvs:Tx}{ds:Tv}{x m:Str}{p pos apos:Pos}{e o:Expr}{es:Tf}{mo:E1}{ma:A1}
theorem Y9{V:PnT}{U:L2.St}{H:Hp}{Y:Tw}{Z:ISt}{h:IH}{s:Zl}{Q E:QvT}{us:Tv}{xs:Tx}(F:FnOk X.prog X.w X.K X.mg X.base (CXI X.prog X.w) k fa fd ps<|spI B X.K ps f)(hr:Room k X.A)(hb:Qc X.K fd ps ds) (hd:∃O,Vals O ds/\∀Y H,RVs X.K Y H dvs O)(M:us.length+ds.length=ps.length)(N:Now B X V Y Z h U H s)(r:RUs X.K Y H xs us)(K:Kont B X RU V Y Z U H (f (xs++dvs) h) Q E):Zv (Zy X.prog X.w) X.A (call (.ref fa) us) Q E s:=by
 obtain⟨O,L,q⟩:=r;obtain⟨dv,rd,W⟩:=hd;have R:=L.length;have hl2:=rd.length;refine Zaf (J0r (Q:=λz m=>∀u j,Inv X V U m j->RelV z u->Q u j) (E:=λv _ m=>∀j,Inv X V U m j->E v j) F hr hb rd N.inv L #[by rw[Z0];lia,Y,h,xs++dvs,N.rel,q.append<|W Y H,?_] λ_ j _ C z=>z j C) (λu j ⟨z,m,C,P,k'⟩=>k' u j C P) λ_ _ z=>z
 cases e:f (xs++dvs) h with|ok v h'=>rw[e]at K;exact λz m G I D S u j C ru=>K u j m G #[C,I,N.st.mono D] D #[z,ru,S]|exc n h'=>rw[e]at K;exact λa m G I D hi j C=>K [] a j m G #[by simpa using C,I,N.st.mono D] D hi|stuck=>rw[e]at K;exact K
theorem J2y(F:FnOk X.prog X.w X.K X.mg X.base (CXI X.prog X.w) k fa fd ps<|spI B X.K ps f)(M:Room k X.A)(R:Gl X x)(hm:X.mg x=J (.ref fa))(S:W.keepIn X.K (.ref fa)=Zg)(P:Qc X.K fd ps ds)(hd:∃O,Vals O ds/\∀Y H,RVs X.K Y H dvs O) (ha:PAi B X (e::es) ma)(m:∀U h xs h',ma U h=.ok xs h'->xs.length+ds.length=ps.length)(D:(x==("__debug__":Str))=Zi:=by decide)(he:Z9 (e::es) X.env=(Zi,ZaQ e X.env)::Z9 es X.env:=by rfl)(C:(Zbh pos<|Z9 es X.env).any (·.1)=Zi:=by rfl):PEi B X (.Call (.Name x p) (e::es) [] pos) (Ji f dvs ma):=by
 intro V s U H Y Z h Q E N K;refine ZT<|Vp N.inv R hm ?_ D;refine W.callWith_K (h₀:=X.base) N.inv.ok.mod.kin S ?_ he C;have j:=K;unfold Ji at j;refine ha pos V s U H Y Z h _ E N ?_;cases u:ma Z h with|exc n h'=>rw[u]at j;exact j|stuck=>rw[u]at j;exact j|ok xs h'=>
  rw[u]at j;intro us s1 H1 U1 G n1 I;have hl:xs.length=us.length:=by obtain⟨O,L,q⟩:=I;rw[<-L.length,q.length]
  exact#[G.inv.kIn,Y9 (us:=us) F M P hd (by have:=m Z h xs h' u;lia) G I<|Kont.mono j n1]
theorem Jzs(F:FnOk X.prog X.w X.K X.mg X.base (CXI X.prog X.w) k fa fd ps<|spI B X.K ps f)(D:Room k X.A)(u:Gl X x)(hm:X.mg x=J (.ref fa))(C:W.keepIn X.K (.ref fa)=Zg)(G:Qc X.K fd ps ds)(hd:∃O,Vals O ds/\∀Y H,RVs X.K Y H dvs O) (j:ds.length=ps.length)(m:(x==("__debug__":Str))=Zi:=by decide):PEi B X (.Call (.Name x p) [] [] pos) (Ji f dvs Je):=by intro V s U H Y Z h Q E N K;refine ZT<|Vp N.inv u hm ?_ m;exact W.callWith_K0 N.inv.kIn C (Y9 F D G hd (by simpa using j) N .nil K)
theorem Jl6{c:Str}{V:PnT}{U:L2.St}{H:Hp}{Y:Tw}{Z:ISt}{h:IH}{s:Zl}{Q E:QvT}{us:Tv}{xs:Tx}(M:Mk X.K C fa)(F:FnOk X.prog X.w X.K X.mg X.base (CXI X.prog X.w) k fa fd ps<|spI B X.K ps f)(hC:B c=J C)(hr:Room (k+1) X.A)(hb:Qc X.K fd ps ds) (hd:∃O,Vals O ds/\∀Y H,RVs X.K Y H dvs O)(hlen:us.length+ds.length+1=ps.length)(N:Now B X V Y Z h U H s)(r:RUs X.K Y H xs us) (K:Kont B X RU V Y Z U H ((f (.ref h.length::(xs++dvs))<|h++[.ins c []]).bind λr L=>match r with|.non=>.ok (.ref h.length) L|_=>.stuck) Q E):Zv (Zy X.prog X.w) X.A (call (.ref C) us) Q E s:=by
 obtain⟨O,rv,q⟩:=r;obtain⟨dv,rd,qd⟩:=hd;have hl1:=rv.length;have hl2:=rd.length;refine Zaf (Jtn (Q:=λz D=>∀u j,Inv X V U D j->RelV z u->Q u j) (E:=λv _ D=>∀j,Inv X V U D j->E v j) M F hr hb rd N.inv rv (λx S hx hdx hne=>#[by rw[Zar,Z0];lia,?_]) λ_ j _ G z=>z j G) (λu j ⟨z,D,G,r',k'⟩=>k' u j G r') λ_ _ z=>z
 -- the new instance in the reading's heap
 obtain⟨R1,n1⟩:=N.rel.grow (o:=.own x) hdx;have R:upd H S (.own x) x=Zc:=by rw[Jo<|ZP hne];exact hx
 obtain⟨R2,n2⟩:=R1.alloc (o:=.ins C S []) (io:=.ins c []) R #[C,S,[],hC,J2,rfl];have m:=n1.trans n2;have P:(Y++[x])[h.length]?=J x:=by rw[<-N.rel.len];simp
 refine#[Y++[x],h++[.ins c []],.ref h.length::(xs++dvs),R2,#[_,_,rfl,#[x,rfl,P],(RVs.mono m _ _ q).append<|qd _ _],?_];cases e:f (.ref h.length::(xs++dvs)) (h++[.ins c []])with
 |ok v h'=>rw[e]at K;intro z D W R' I qz;cases v with|non=>have ez:=qz;subst ez;exact#[rfl,λu j G ru=>K u j D W #[G,R',N.st.mono<|m.trans I] (m.trans I) #[.ref x,ru,x,rfl,I.at P]]|_=>exact Zf K
 |exc n h'=>rw[e]at K;exact λa D W R' I hi j G=>K [] a j D W #[by simpa using G,R',N.st.mono<|m.trans I] (m.trans I) hi
 |stuck=>rw[e]at K;exact Zf K
theorem J25{c:Str}(M:Mk X.K C fa)(F:FnOk X.prog X.w X.K X.mg X.base (CXI X.prog X.w) k fa fd ps<|spI B X.K ps f)(R:B c=J C)(S:Room (k+1) X.A)(hg:Gl X x)(hm:X.mg x=J (.ref C))(hb:Qc X.K fd ps ds)(hd:∃O,Vals O ds/\∀Y H,RVs X.K Y H dvs O) (ha:PAi B X (e::es) ma)(m:∀U h xs h',ma U h=.ok xs h'->xs.length+ds.length+1=ps.length)(G:(x==("__debug__":Str))=Zi:=by decide)(he:Z9 (e::es) X.env=(Zi,ZaQ e X.env)::Z9 es X.env:=by rfl)(D:(Zbh pos<|Z9 es X.env).any (·.1)=Zi:=by rfl):PEi B X (.Call (.Name x p) (e::es) [] pos) (Q2 c f dvs ma):=by
 intro V s U H Y Z h Q E N K;refine ZT<|Vp N.inv hg hm ?_ G;refine W.callWith_K (h₀:=X.base) N.inv.ok.mod.kin M.kp ?_ he D;have j:=K;unfold Q2 at j;refine ha pos V s U H Y Z h _ E N ?_;cases u:ma Z h with|exc n h'=>rw[u]at j;exact j|stuck=>rw[u]at j;exact j|ok xs h'=>
  rw[u]at j;intro us s1 H1 U1 I n1 L;have hl:xs.length=us.length:=by obtain⟨O,P,q⟩:=L;rw[<-P.length,q.length]
  exact#[I.inv.kIn,Jl6 (us:=us) M F R S hb hd (by have:=m Z h xs h' u;lia) I L<|Kont.mono j n1]
theorem Jzv(M:Mk X.K C fa)(F:FnOk X.prog X.w X.K X.mg X.base (CXI X.prog X.w) k fa fd ps<|spI B X.K ps f)(D:B c=J C)(G:Room (k+1) X.A)(u:Gl X x)(hm:X.mg x=J (.ref C))(I:Qc X.K fd ps ds)(hd:∃O,Vals O ds/\∀Y H,RVs X.K Y H dvs O) (j:ds.length+1=ps.length)(m:(x==("__debug__":Str))=Zi:=by decide):PEi B X (.Call (.Name x p) [] [] pos) (Q2 c f dvs Je):=by intro V s U H Y Z h Q E N K;refine ZT<|Vp N.inv u hm ?_ m;exact W.callWith_K0 N.inv.kIn M.kp (Jl6 M F D G I hd (by simpa using j) N .nil K)
def Jqv(B:CeT)(X:Cx)(m:Str)(n:Nat)(disp:Str->Option ((Tx->IH->Res IV)×Tx)):Prop:=∀c f dvs,disp c=J (f,dvs)->∃(C fa:Zm)(fd:ZaK)(k:Nat)(ps:Tl)(ds:Tv),B c=J C/\Cls X.K C/\Meth X.K C m fa/\FnOk X.prog X.w X.K X.mg X.base (CXI X.prog X.w) k fa fd ps (spI B X.K ps f)/\Room k X.A/\Qc X.K fd ps ds/\(∃O,Vals O ds/\∀Y H,RVs X.K Y H dvs O)/\n+ds.length+1=ps.length
theorem J27{n:Nat}{D:Str->Option ((Tx->IH->Res IV)×Tx)}{pl:Sem Bool}(ho:PEi B X o mo)(hd:Jqv B X m n D)(ha:PAi B X (e::es) ma)(L:∀U h xs h',ma U h=.ok xs h'->xs.length=n) (hst:Z9 (e::es) X.env=(Zi,ZaQ e X.env)::Z9 es X.env:=by rfl)(hpl:(Zbh pos<|Z9 es X.env).any (·.1)=Zi:=by rfl) (ht:ZaQ (.Call (.Attribute o m apos) (e::es) [] pos) X.env=(do
   let ov<-ZaQ o X.env
   Zeh apos.atName
   let (f,first)<-Zcb [ov] (Zdr ov m pl)
   ZeZ pos f first (Zbh pos<|Z9 (e::es) X.env) (Zdy pos<|Zci [] X.env)):=by rfl):
  PEi B X (.Call (.Attribute o m apos) (e::es) [] pos) (Ju3 m D mo ma):=by
 intro V s U H Y Z h Q E N K;refine W.methodCall_KW (ho.run N K λv R u s1 H1 U1 P n1 r1 j=>?_) ht;cases v with
 |ref i=>
  obtain⟨w,rw',a,e1,hi⟩:=r1;subst e1;cases rw';dsimp only at j;cases M:R[i]? with|none=>rw[M]at j;exact Zf j|some ob=>
   cases ob with
   |ins c fs=>
    rw[M]at j;dsimp only at j;cases G:D c with|none=>rw[G]at j;exact Zf j|some fd1=>
     obtain⟨f,dvs⟩:=fd1;cases hl:fs.lookup m with|some z=>rw[G,hl]at j;exact Zf j|none=>
      rw[G,hl]at j;dsimp only at j;obtain⟨C,fa,fd,k,ps,ds,hC,cl,hm,F,hr,hb,hdv,hn⟩:=hd c f dvs G;obtain⟨C',dx,O,I,hH,rp⟩:=P.at M hi;rw[hC]at I;cases I;refine Jiv P.inv hH cl hm ((RPs.lookup rp).2 hl) ?_;refine W.callWith_K (first:=[.ref a]) (h₀:=X.base) P.inv.ok.mod.kin hm.kp ?_ hst hpl;refine ha pos V s1 U H1 U1 Z R _ E P ?_;cases S:ma Z R with|exc n h'=>rw[S]at j;exact j|stuck=>rw[S]at j;exact j|ok xs h'=>
       rw[S]at j;intro us s2 H2 U2 N2 n2 r2;have hl:xs.length=us.length:=by obtain⟨O,rv,q⟩:=r2;rw[<-rv.length,q.length]
       have hl2:=L Z R xs h' S;refine#[N2.inv.kIn,Y9 (us:=.ref a::us) (xs:=.ref i::xs) F hr hb hdv (by rw[Zar];lia) N2 (.cons #[.ref a,rfl,a,rfl,n2.at hi] r2) ?_];exact Kont.mono j n2
   |_=>rw[M]at j;exact Zf j
 |_=>exact Zf j
theorem Jzx{D:Str->Option ((Tx->IH->Res IV)×Tx)}{pl:Sem Bool}(ho:PEi B X o mo)(hd:Jqv B X m 0 D) (ht:ZaQ (.Call (.Attribute o m apos) [] [] pos) X.env=(do
   let ov<-ZaQ o X.env
   Zeh apos.atName
   let (f,first)<-Zcb [ov] (Zdr ov m pl)
   ZeZ pos f first (Zbh pos<|Z9 [] X.env) (Zdy pos<|Zci [] X.env)):=by rfl):
  PEi B X (.Call (.Attribute o m apos) [] [] pos) (Ju3 m D mo Je):=by
 intro V s U H Y Z h Q E N K;refine W.methodCall_KW (pl:=pl) (ho.run N K λv h1 u s1 H1 U1 M n1 r1 j=>?_) ht;cases v with
 |ref i=>
  obtain⟨w,R,a,e1,hi⟩:=r1;subst e1;cases R;dsimp only at j;cases L:h1[i]? with|none=>rw[L]at j;exact Zf j|some ob=>
   cases ob with
   |ins c fs=>
    rw[L]at j;dsimp only at j;cases G:D c with|none=>rw[G]at j;exact Zf j|some fd1=>obtain⟨f,dvs⟩:=fd1;cases S:fs.lookup m with|some z=>rw[G,S]at j;exact Zf j|none=>rw[G,S]at j;obtain⟨C,fa,fd,k,ps,ds,hC,cl,hm,F,hr,hb,P,hn⟩:=hd c f dvs G;obtain⟨C',dx,O,I,hH,rp⟩:=M.at L hi;rw[hC]at I;cases I;refine Jiv M.inv hH cl hm ((RPs.lookup rp).2 S) ?_;exact W.callWith_K0 (first:=[.ref a]) M.inv.kIn hm.kp (Y9 (us:=[.ref a]) (xs:=[.ref i]) F hr hb P (by rw[Zar,List.length_nil];lia) M (.cons #[.ref a,rfl,a,rfl,hi] .nil) j)
   |_=>rw[L]at j;exact Zf j
 |_=>exact Zf j
def Jp(f:Str)(o:E1):E1:=λU h=>(o U h).bind λv h1=>match v with|.ref i=>(match h1[i]? with|some (.ins _ fs)=>(match fs.lookup f with|some x=>.ok x h1|none=>.stuck)|_=>.stuck)|_=>.stuck
def Yn(B:CeT)(K:W.Frag)(f:Str):Prop:=∀c C,B c=J C->Cls K C/\Qx K C f
theorem J6u(ho:PEi B X o mo)(L:Yn B X.K fl)(hb:Zcq o fl X.env (ZaQ o X.env)=ZaQ o X.env:=by rfl):PEi B X (.Attribute o fl pos) (Jp fl mo):=by
 intro V s U H Y Z h Q E N K;refine Jq6 hb<|ho.run N K λv S u s1 H1 U1 m n1 r1 j=>?_
 cases v with
 |ref i=>
  obtain⟨w,D,a,e1,P⟩:=r1;subst e1;cases D;dsimp only at j;cases k:S[i]? with|none=>rw[k]at j;exact(j).elim|some G=>
   cases G with
   |ins c fs=>rw[k]at j;dsimp only at j;cases F:fs.lookup fl with|none=>rw[F]at j;exact(j).elim|some z=>rw[F]at j;obtain⟨C,dx,O,hC,hH,rp⟩:=m.at k P;obtain⟨cl,R⟩:=L c C hC;obtain⟨y,hy,q⟩:=(RPs.lookup rp).1 z F;exact Jiu m.inv hH cl R hy λI M I2 W=>j I M H1 U1 #[I2,m.rel,m.st] .refl #[y,W,q]
   |_=>rw[k]at j;exact(j).elim
 |_=>exact(j).elim
noncomputable def putI (f:Str)(v:IV):Wm->Wm|[]=>[(f,v)]|(g,x)::r=>if g=f then(g,v)::r else(g,x)::putI f v r
theorem RPs.put{K:W.Frag}{Y:Tw}{H:Hp}{fl:Str}{v:IV}{y:hV}(q:RV K Y H v y):∀{fs:Wm}{O:Wu},RPs K Y H fs O->RPs K Y H (putI fl v fs) (putF fl y O)
 |[],_,h=>by have e:=h;subst e;exact#[y,[],rfl,q,rfl]
 |(g,x)::r,_,h=>by
  obtain⟨w,k,e,m,t⟩:=h;subst e;show RPs K Y H (if g=fl then(g,v)::r else(g,x)::putI fl v r) (if g=fl then(g,y)::k else(g,w)::putF fl y k);by_cases j:g=fl
  .rw[if_pos j,if_pos j];exact#[y,k,rfl,q,t]
  .rw[if_neg j,if_neg j];exact#[w,_,rfl,m,RPs.put q t]
def JT(f:Str)(o e:E1):S1:=λU h=>rS U (e U h) λv h1=>rS U (o U h1) λov L=>match ov with
 |.ref i=>(match L[i]? with
  |some (.ins c fs)=>if fs.length<1000 then .next U (L.set i<|.ins c<|putI f v fs)else .stuck
  |_=>.stuck)
 |_=>.stuck
theorem J7o{fl:Str}{value:Expr}{mv:E1}{pos':Pos}(ho:PEi B X o mo)(hv:PEi B X value mv)(hf:Yn B X.K fl)(hs:ZcT value (J<|.Attribute o fl pos') pos.line X.env=pure Zi:=by rfl):PS1 B X (.Assign [.Attribute o fl pos'] value pos) (JT fl mo mv):=by
 intro V s U H Y Z h Q E N K;refine ZcM (krun hv N K λv h1 u s1 H1 U1 N1 n1 r1 K1=>krun ho N1 K1 λov L w s2 M I m n2 r2 j=>?_) hs;cases ov with
 |ref i=>
  obtain⟨w,G,a,e1,P⟩:=r2;subst e1;cases G;dsimp only at j;cases D:L[i]? with|none=>rw[D]at j;exact(j).elim|some ob=>
   cases ob with
   |ins c fs=>
    rw[D]at j;dsimp only at j;split at j
    .rename_i hz;obtain⟨C,S,O,R,k,W⟩:=m.at D P;obtain⟨cl,na⟩:=hf c C R;obtain⟨y,ry,q⟩:=r1;refine Ji4 m.inv k cl na (by rw[W.length];exact hz) ry λs3 I3=>?_
     have F:Nxt I M I (upd M a<|.ins C S<|putF fl y O):=#[#[[],03],Ext.upd_mut k<|by rw[k];exact Zaq];obtain⟨R3,_⟩:=m.rel.write (io:=.ins c<|putI fl v fs) P k (by rw[k];exact Zaq) #[C,S,_,R,J2,RPs.put (RV.mono (n2.trans F) _ _ q)<|RPs.mono F _ _ W];exact j s3 U _ I #[I3,R3,m.st.mono F] F
    .exact(j).elim
   |_=>rw[D]at j;exact(j).elim
 |_=>exact(j).elim
end
section
variable{B:CeT}{X:Cx}{a b c:Expr}{ma mb mc:E1}{pos:Pos}
def Jg:IV->IV->IH->Res IV
 |.ref i,.int k,h=>match h[i]? with
  |some (.lst xs)=>(match atI xs k with
   |some v=>.ok v h
   |none=>.stuck)
  |_=>.stuck
 |.rol xs,.int k,h=>match atI xs k with
  |some v=>.ok v h
  |none=>.stuck
 |.tup xs,.int k,h=>match atI xs k with
  |some v=>.ok v h
  |none=>.stuck
 |.str x,.int k,h=>if x.length<=sizeLine then(match atI x.cps.toList k with
  |some c=>.ok (.str ⟨#[c]⟩) h
  |none=>.stuck)else .stuck
 |_,_,_=>.stuck
theorem Jjd{K:W.Frag}{Y:Tw}{H:Hp}{xs:Tx}{O:Ud}{k:Int}{v:IV}(r:RVs K Y H xs O)(e:atI xs k=J v):∃u,atI O k=J u/\RV K Y H v u:=by unfold atI at e ⊢;rw[r.length];cases q:ixN xs.length k with|none=>rw[q]at e;cases e|some j=>rw[q]at e;exact r.get e
def IxI(B:CeT)(X:Cx)(g:IV->IV->IH->Res IV):Prop:=∀(value slice:Expr)(V:PnT)(s:Zl)(U:L2.St)(H:Hp)(Y:Tw)(Z:ISt)(h:IH)(x y:IV)(v u:Zh)(Q:QvT)(E:QvT),Now B X V Y Z h U H s->RU X.K Y H x v->RU X.K Y H y u ->Kont B X RU V Y Z U H (g x y h) Q E->Ze8 slice Zi v u=operate [v,u] (Zef v u)->Zv (Zy X.prog X.w) X.A (ZeM value slice v u) Q E s
theorem Jpi{V:PnT}{s:Zl}{U:L2.St}{H:Hp}{Q E:QvT}{r:R2}{value slice:Expr}{x y:hV}{v u:Zh}(p:IxR (X.wish E) r)(I:Inv X V U H s)(B:RelV x v)(j:RelV y u) (k:r x y H λz H'=>∀u s',Inv X V U H' s'->RelV z u->Q u s')(hs:Ze8 slice Zi v u=operate [v,u] (Zef v u)):Zv (Zy X.prog X.w) X.A (ZeM value slice v u) Q E s:=Zaf (p value slice V s U H x y v u _ (I.wish E) B j k hs) (λu s' ⟨_,_,m,r,q⟩=>q u s' m.unwish r) λ_ _ z=>z
theorem x_ix:IxI B X Jg:=by
 intro P S V s U H Y Z h x y v u Q E N C D K I;obtain⟨xv,C,L⟩:=C;obtain⟨yv,D,qy⟩:=D;cases y with
 |int k=>
  have W:=qy;subst W;cases x with
  |ref i=>
   obtain⟨a,m,ha⟩:=L;subst m;dsimp only[Jg]at K;cases R:h[i]? with|none=>rw[R]at K;exact(K).elim|some ob=>
    rw[R]at K;cases ob with
    |lst xs=>dsimp only at K;cases j:atI xs k with|none=>rw[j]at K;exact(K).elim|some z=>rw[j]at K;obtain⟨O,m,r1⟩:=N.at R ha;obtain⟨w,G,F⟩:=Jjd r1 j;exact Jpi (Jsr) N.inv C D #[a,O,k,w,rfl,rfl,SqL.of m,G,fin0 N K F] I
    |_=>exact(K).elim
  |rol xs=>obtain⟨a,O,m,sa,M⟩:=L;subst m;dsimp only[Jg]at K;cases j:atI xs k with|none=>rw[j]at K;exact(K).elim|some z=>rw[j]at K;obtain⟨w,G,F⟩:=Jjd M j;exact Jpi (Jsr) N.inv C D #[a,O,k,w,rfl,rfl,sa.sq,G,fin0 N K F] I
  |tup xs=>obtain⟨a,O,m,sa,M⟩:=L;subst m;dsimp only[Jg]at K;cases j:atI xs k with|none=>rw[j]at K;exact(K).elim|some z=>rw[j]at K;obtain⟨w,G,F⟩:=Jjd M j;exact Jpi (J3k) N.inv C D #[a,O,k,w,rfl,rfl,sa,G,fin0 N K F] I
  |str x=>
   have m:=L;subst m;dsimp only[Jg]at K;split at K
   .rename_i hz;cases j:atI x.cps.toList k with|none=>rw[j]at K;exact(K).elim|some z=>rw[j]at K;exact Jpi (J3j) N.inv C D #[x,k,z,rfl,rfl,hz,j,fin0 N K rfl] I
   .exact(K).elim
  |_=>exact(K).elim
 |_=>cases x<;>exact(K).elim
theorem i_ix(G:IxI B X g)(ha:PEi B X a ma)(P:PEi B X b mb)(hs:Jqw b:=by intro _ _;rfl):PEi B X (.Subscript a b pos) (Jc g ma mb):=λV s U H Y Z h Q E N K=>
 Subscript_ (ha.run N K λx W u s1 R S C n1 j I=>P.run C I λy L w D F m k n2 O M=>G a b V D U F m Z L x y u w Q E k (j.mono n2) O M<|hs _ _)
abbrev O1:=ISt->IH->Res (Wz)
def J57:REL (Wz) Zh:=λ_ _ _ o u=>Zfi u o
def PPi(B:CeT)(X:Cx)(e:Wv)(m:O1):Prop:=PX B X J57 (evalPart e X.env) m
noncomputable def V5:O1:=λ_ h=>.ok Zc h
def Qu(e:E1):O1:=λU h=>(e U h).bind λv h1=>match v with|.int i=>.ok (J i) h1|_=>.stuck
theorem J4f:PPi B X Zc V5:=by intro V s U H Y Z h Q E N K;exact Zk<|K _ s H Y N .refl .none
theorem J4g(ha:PEi B X a ma):PPi B X (J a) (Qu ma):=by
 intro V s U H Y Z h Q E N K;refine ha.run N K λx I u G C F D n1 m k=>?_
 cases x with|int i=>obtain⟨w,j,q⟩:=m;have e:=q;subst e;obtain⟨t,rfl⟩:=j;exact k _ G C F D .refl<|.int i t|_=>exact(k).elim
def cutI{α:Type}(xs:List α)(lo hi:Wz):List α:=(xs.drop<|HT.sIx xs.length 0 lo).take<|HT.sIx xs.length xs.length hi-HT.sIx xs.length 0 lo
def slI:IV->Wz->Wz->IH->Res IV
 |.ref i,lo,hi,h=>match h[i]? with
  |some (.lst xs)=>.ok (.ref h.length)<|h++[.lst<|cutI xs lo hi]
  |_=>.stuck
 |.rol xs,lo,hi,h=>.ok (.ref h.length)<|h++[.lst<|cutI xs lo hi]
 |_,_,_,_=>.stuck
theorem RVs.cut{K:W.Frag}{Y:Tw}{H:Hp}{xs:Tx}{O:Ud}(r:RVs K Y H xs O)(lo hi:Wz):RVs K Y H (cutI xs lo hi) (cutV O lo hi):=by unfold cutI cutV;rw[r.length];exact(r.drop _).take _
def eSl(f:IV->Wz->Wz->IH->Res IV)(e:E1)(lo hi:O1):E1:=λU h=>(e U h).bind λx h1=>(lo U h1).bind λl L=>(hi U L).bind λu h3=>f x l u h3
def SlI(B:CeT)(X:Cx)(g:IV->Wz->Wz->IH->Res IV):Prop:=∀(V:PnT)(s:Zl)(U:L2.St)(H:Hp)(Y:Tw)(Z:ISt)(h:IH)(x:IV)(v vl vu:Zh)(lo hi:Wz)(sl:Zm)(Q:QvT)(E:QvT),Now B X V Y Z h U H s->RU X.K Y H x v->s.heap.IsSliceOf sl vl vu .none->Zfi vl lo->Zfi vu hi ->Kont B X RU V Y Z U H (g x lo hi h) Q E->∃T id,ZeR (.type T) "__getitem__"=pure (J<|.builtin id)/\s.TypeIs v T/\Zv (Zy X.prog X.w) X.A (Zef v<|.ref sl) Q E s
theorem Jyi{V:PnT}{s:Zl}{U:L2.St}{H:Hp}{Q E:QvT}{r:hV->Wz->Wz->Hp->VK->Prop}{x:hV}{v m j:Zh}{lo hi:Wz}{sl:Zm}(p:SlR (X.wish E) r)(I:Inv X V U H s)(G:RelV x v) (hs:s.heap.IsSliceOf sl m j .none)(pl:Zfi m lo)(C:Zfi j hi)(k:r x lo hi H λz H'=>∀u s',Inv X V U H' s'->RelV z u->Q u s'):∃T id,ZeR (.type T) "__getitem__"=pure (J<|.builtin id)/\s.TypeIs v T/\Zv (Zy X.prog X.w) X.A (Zef v<|.ref sl) Q E s:=by obtain⟨T,id,B,L,F⟩:=p V s U H x v m j lo hi sl _ (I.wish E) G hs pl C k;exact#[T,id,B,L,Zaf F (λu s' ⟨_,_,D,r,q⟩=>q u s' D.unwish r) λ_ _ z=>z]
theorem Jzy{g:IV->Wz->Wz->IH->Res IV}{lo hi:Wv}{F G:O1}{p2:Pos}(R:SlI B X g)(he:PEi B X a ma)(W:PPi B X lo F)(hu:PPi B X hi G):PEi B X (.Subscript a (.Slice lo hi Zc p2) pos) (eSl g ma F G):=by
 intro V s U H Y Z h Q E N K;refine Subscript_<|he.run N K λx h1 v s1 H1 U1 P n1 r1 K1=>?_
 refine wpAny_Slice<|PX.run W P K1 λl L k s2 H2 U2 M n2 pl K2=>PX.run hu M K2 λu h3 C j D U3 m n3 pu K3=>?_
 refine Zk ?_;have S:Inv X V U D {j with heap:=j.heap.push {cls:=.type "slice",data:=.fields (ZaE [k,C,.none])} }:=m.inv.kept λb ob q=>Ze _ q
 obtain⟨T,id,O,I,hg⟩:=R V {j with heap:=j.heap.push {cls:=.type "slice",data:=.fields (ZaE [k,C,.none])} } U D U3 Z h3 x v k C l u j.heap.objs.size Q E #[S,m.rel,m.st] ((r1.mono n2).mono n3) (Heap.IsSliceOf.new ..) pl pu K3;exact tail_any I O hg<|rfl
def eCB(f:Tx->IH->Res IV)(a:A1):E1:=λU h=>(a U h).bind f
variable{es:Tf}{mr:A1}{x:Str}{p:Pos}{id T:String}{g:Tx->IH->Res IV}
theorem V2(M:Ql B X (.builtin id) g)(D:Gl X x)(hm:X.mg x=Zc)(hv:Zbu x=J (.builtin id))(ha:PAi B X (a::es) mr)(hn:x≠"__name__":=by decide)(j:(x==("__debug__":Str))=Zi:=by decide) (P:Z9 (a::es) X.env=(Zi,ZaQ a X.env)::Z9 es X.env:=by rfl)(k:(Zbh pos<|Z9 es X.env).any (·.1)=Zi:=by rfl):PEi B X (.Call (.Name x p) (a::es) [] pos) (eCB g mr):=λV s U H Y Z h Q E N K=>
 ZT (Qt N.inv D hm hv (ZaI ((ha pos).run N K λxs L I O u F C n1 m G=>M V O U u F Z L xs I Q E C m G) P k) hn j)
theorem Jnk(M:Ql B X (.type T) g)(D:Gl X x)(hm:X.mg x=Zc)(hv:Zbu x=J (.type T))(ha:PAi B X (a::es) mr)(hn:x≠"__name__":=by decide)(j:(x==("__debug__":Str))=Zi:=by decide) (P:Z9 (a::es) X.env=(Zi,ZaQ a X.env)::Z9 es X.env:=by rfl)(k:(Zbh pos<|Z9 es X.env).any (·.1)=Zi:=by rfl):PEi B X (.Call (.Name x p) (a::es) [] pos) (eCB g mr):=λV s U H Y Z h Q E N K=>
 ZT (Qt N.inv D hm hv (ZaD ((ha pos).run N K λxs L I O u F C n1 m G=>M V O U u F Z L xs I Q E C m G) P k) hn j)
def on1(f:IV->IH->Res IV):Tx->IH->Res IV|[x],h=>f x h|_,_=>.stuck
def on2(f:IV->IV->IH->Res IV):Tx->IH->Res IV|[x,y],h=>f x y h|_,_=>.stuck
theorem RVs.one_of{K:W.Frag}{Y:Tw}{H:Hp}{x:IV}{O:Ud}(r:RVs K Y H [x] O):∃v,O=[v]/\RV K Y H x v:=by obtain⟨v,m,e,q,k⟩:=r;have j:=k;subst j;exact#[v,e,q]
theorem RVs.two_of{K:W.Frag}{Y:Tw}{H:Hp}{x y:IV}{O:Ud}(r:RVs K Y H [x,y] O):∃v w,O=[v,w]/\RV K Y H x v/\RV K Y H y w:=by obtain⟨v,u,e,q,k⟩:=r;obtain⟨w,j,m⟩:=k.one_of;subst j;exact#[v,w,e,q,m]
theorem Vf{k:Zh}{f:IV->IH->Res IV}(m:∀(V:PnT)(s:Zl)(U:L2.St)(H:Hp)(Y:Tw)(Z:ISt)(h:IH)(x:IV)(j:hV)(u:Zh)(Q E:QvT),Now B X V Y Z h U H s->RelV j u->RV X.K Y H x j ->Kont B X RU V Y Z U H (f x h) Q E->Zv (Zy X.prog X.w) X.A (call k [u]) Q E s):Ql B X k (on1 f):=by intro V s U H Y Z h xs G Q E N r K;obtain⟨O,D,q⟩:=r;match xs,K with|[x],K=>obtain⟨v,e,F⟩:=q.one_of;subst e;obtain⟨u,rfl,C⟩:=Qq D;exact m V s U H Y Z h x v u Q E N C F K|[],K=>exact(K).elim|_::_::_,K=>exact(K).elim
noncomputable def lenI:IV->IH->Res IV
 |.str x,h=>if x.length<=sizeLine then .ok (.int x.length) h else .stuck
 |.tup xs,h=>.ok (.int xs.length) h
 |.rol xs,h=>.ok (.int xs.length) h
 |.ref i,h=>match h[i]? with
  |some (.lst xs)=>.ok (.int xs.length) h
  |_=>.stuck
 |_,_=>.stuck
theorem J6b:Ql B X (.builtin "len") (on1 lenI):=Vf λV s U H Y Z h x L u Q E N m k K=>by
 cases x with
 |str y=>
  have e:=k;subst e;dsimp only[lenI]at K;split at K
  .rename_i I;exact QG (Jgc) N.inv (.cons m .nil) #[_,_,rfl,#[I,rfl],fin0 N K rfl]
  .exact(K).elim
 |tup xs=>obtain⟨a,O,j,sa,C⟩:=k;subst j;exact QG (Jgc) N.inv (.cons m .nil) #[_,xs.length,rfl,.inr #[O,sa,C.length.symm],fin0 N K rfl]
 |rol xs=>obtain⟨a,O,j,sa,C⟩:=k;subst j;exact QG (Jgc) N.inv (.cons m .nil) #[_,xs.length,rfl,.inl #[O,sa.sq,C.length.symm],fin0 N K rfl]
 |ref i=>
  obtain⟨a,j,ha⟩:=k;subst j;dsimp only[lenI]at K;cases D:h[i]? with|none=>rw[D]at K;exact(K).elim|some F=>rw[D]at K;cases F with|lst xs=>obtain⟨O,j,G⟩:=N.at D ha;exact QG (Jgc) N.inv (.cons m .nil) #[_,xs.length,rfl,.inl #[O,SqL.of j,G.length.symm],fin0 N K rfl]|_=>exact(K).elim
 |_=>exact(K).elim
end
def ALen(n:Nat)(m:A1):Prop:=∀U h xs h',m U h=.ok xs h'->xs.length=n
theorem Juo:ALen 0 Je:=λ_ _ xs _ e=>by cases e;rfl
theorem Jqy(u:ALen n r):ALen (n+1) (Jb e r):=λU h xs C q=>by
 unfold Jb at q;cases m:e U h with
 |ok x k=>rw[m]at q;change (r U k).bind (λxs L=>.ok (x::xs) L)=_ at q;cases j:r U k with|ok B L=>rw[j]at q;cases q;rw[Zar,u U k B _ j]|exc n L=>rw[j]at q;cases q|stuck=>rw[j]at q;cases q
 |exc n k=>rw[m]at q;cases q
 |stuck=>rw[m]at q;cases q
def XW(K:W.Frag)(x:Str)(f:Tx->IH->Res IV):Sp:=λO H Q E=>∀B,spI B K [x] f O H Q E
theorem Ju8{P:Z7}{w:ZU}{K:W.Frag}{mg:Str->Tc}{base:Zam}{k:Nat}{fa:Zm}{fd:ZaK}{x:Str}{f:Tx->IH->Res IV}{B:CeT}(F:FnOk P w K mg base (CXI P w) k fa fd [x]<|spI B K [x] f):FnOk P w K mg base (CXI P w) k fa fd [x] (XW K x f):=F.imp λ_ _ _ _ h=>h B
noncomputable def toD (h:IH):Nat->IV->Option Zco
 |0=>λv=>match v with
  |.non=>J .none
  |.bl b=>J<|.bool b
  |.int i=>J<|.int i
  |.str x=>J<|.str x
  |_=>Zc
 |n+1=>λv=>match v with
  |.non=>J .none
  |.bl b=>J<|.bool b
  |.int i=>J<|.int i
  |.str x=>J<|.str x
  |.tup xs=>(xs.mapM<|toD h n).map .tuple
  |.rol xs=>(xs.mapM<|toD h n).map .list
  |.ref i=>match h[i]? with
   |some (.lst xs)=>(xs.mapM<|toD h n).map .list
   |_=>Zc
section
variable{B:CeT}{X:Cx}
theorem Jck{n:Nat}(N:Now B X V Y Z h U H s) (D:∀(v:IV)(d:Zco)(x:hV)(u:Zh),toD h n v=J d->RV X.K Y H v x->RelV x u->∃j,Reads s.heap u d j):∀(xs:Tx)(ds:List Zco)(O:Ud)(us:Tv),xs.mapM (toD h n)=J ds->RVs X.K Y H xs O->Vals O us->∃j,ReadsAll s.heap us ds j
 |[],ds,O,us,e,q,r=>by have C:=q;subst C;cases r;simp at e;subst e;exact#[_,.nil]
 |x::xs,ds,O,us,e,q,r=>by
  obtain⟨v,I,C,Q,G⟩:=q;subst C;cases r with
  |cons P M=>
   rw[Za5]at e;cases k:toD h n x with
   |none=>rw[k]at e;cases e
   |some d=>
    rw[k]at e;cases m:xs.mapM (toD h n)with
    |none=>rw[m]at e;cases e
    |some E=>rw[m]at e;cases e;obtain⟨j,F⟩:=D x d v _ k Q P;obtain⟨bs,L⟩:=Jck N D xs E I _ m G M;exact#[_,.cons F L]
theorem Jgl(N:Now B X V Y Z h U H s):∀(n:Nat)(v:IV)(d:Zco)(x:hV)(u:Zh),toD h n v=J d->RV X.K Y H v x->RelV x u->∃D,Reads s.heap u d D:=by
 have j:∀(v:IV)(d:Zco)(x:hV)(u:Zh),toD h 0 v=J d->RV X.K Y H v x->RelV x u->∃D,Reads s.heap u d D:=by
  intro v d x u e q r;cases v with
  |non=>cases e;have k:x=.non:=q;subst k;cases r;exact#[_,.none]
  |bl b=>cases e;have k:x=.bl b:=q;subst k;cases r;exact#[_,.bool b]
  |int i=>cases e;have k:x=.int i:=q;subst k;obtain⟨t,rfl⟩:=r;exact#[_,.int i t]
  |str z=>cases e;have k:x=.str z:=q;subst k;obtain⟨t,rfl⟩:=r;exact#[_,.str z t]
  |_=>cases e
 intro n;induction n with
 |zero=>exact j
 |succ n R=>
  intro v d x u e q r;cases v with
  |non=>exact j .non d x u e q r
  |bl b=>exact j (.bl b) d x u e q r
  |int i=>exact j (.int i) d x u e q r
  |str z=>exact j (.str z) d x u e q r
  |tup xs=>obtain⟨a,O,k,sa,P⟩:=q;subst k;cases r;obtain⟨ds,E,rfl⟩:=Z3.mp<|e;obtain⟨C,I,⟨o,M,G,m,hd⟩,S⟩:=N.inv.tuple sa;obtain⟨D,F⟩:=Jck N R xs ds O C E P I;exact#[_,.tuple M G hd F]
  |rol xs=>obtain⟨a,O,k,sa,P⟩:=q;subst k;cases r;obtain⟨ds,E,rfl⟩:=Z3.mp<|e;obtain⟨C,I,⟨o,m,M,G,_,hd⟩,S⟩:=N.inv.list sa.sq;obtain⟨D,F⟩:=Jck N R xs ds O C E P I;exact#[_,.list M G hd F]
  |ref i=>
   obtain⟨a,k,ha⟩:=q;subst k;cases r;have L:(match h[i]? with|some (.lst xs)=>(xs.mapM<|toD h n).map Zd6|_=>Zc)=J d:=e;cases Q:h[i]? with
   |none=>rw[Q]at L;cases L
   |some W=>
    rw[Q]at L;cases W with
    |lst xs=>obtain⟨ds,E,rfl⟩:=Z3.mp L;obtain⟨O,k,r1⟩:=N.at Q ha;obtain⟨C,I,⟨o,m,M,G,_,hd⟩,S⟩:=N.inv.list<|SqL.of k;obtain⟨D,F⟩:=Jck N R xs ds O C E r1 I;exact#[_,.list M G hd F]
    |_=>cases L
theorem Jcj(u:∀v d,f v=J d->d.depth<=n):∀(xs:Tx)(ds:List Zco),xs.mapM f=J ds->PyData.depthAll ds<=n
 |[],ds,e=>by simp at e;subst e;exact ZN _
 |x::xs,ds,e=>by
  rw[Za5]at e;cases j:f x with
  |none=>rw[j]at e;cases e
  |some d=>
   rw[j]at e;cases k:xs.mapM f with
   |none=>rw[k]at e;cases e
   |some m=>rw[k]at e;cases e;have B:=u x d j;have L:=Jcj u xs m k;show max d.depth (PyData.depthAll m)<=n;lia
theorem Jms:∀(n:Nat)(v:IV)(d:Zco),toD h n v=J d->d.depth<=n:=by
 intro n;induction n with
 |zero=>intro v d e;cases v<;>cases e<;>exact Zq _
 |succ n m=>
  intro v d e;cases v with
  |non=>cases e;exact ZN _
  |bl b=>cases e;exact ZN _
  |int i=>cases e;exact ZN _
  |str z=>cases e;exact ZN _
  |tup xs=>obtain⟨ds,j,rfl⟩:=Z3.mp<|e;exact ZcR<|Jcj m xs ds j
  |rol xs=>obtain⟨ds,j,rfl⟩:=Z3.mp<|e;exact ZcR<|Jcj m xs ds j
  |ref i=>
   have k:(match h[i]? with|some (.lst xs)=>(xs.mapM<|toD h n).map Zd6|_=>Zc)=J d:=e;cases u:h[i]? with
   |none=>rw[u]at k;cases k
   |some B=>
    rw[u]at k;cases B with
    |lst xs=>obtain⟨ds,j,rfl⟩:=Z3.mp k;exact ZcR<|Jcj m xs ds j
    |_=>cases k
noncomputable def Vt:IV->IV->Ww|.non,.non=>J Zg|.int i,.int j=>J<|decide (i=j)|.str i,.str j=>J<|decide (i=j)|.bl i,.bl j=>J<|decide (i=j)|_,_=>Zc
noncomputable def Qm (x y:IV)(h:IH):Ww:=match toD h 6 x,toD h 6 y with|some a,J b=>if a.canLay0=Zg/\b.canLay0=Zg then J (Zbz a b)else Zc|_,_=>Zc
noncomputable def cEq (x y:IV)(h:IH):Res IV:=match Vt x y with|some b=>.ok (.bl b) h|none=>match Qm x y h with|some b=>.ok (.bl b) h|none=>.stuck
noncomputable def cNe (x y:IV)(h:IH):Res IV:=match Vt x y with|some b=>.ok (.bl (!b)) h|none=>match Qm x y h with|some b=>.ok (.bl (!b)) h|none=>.stuck
theorem Jom(e:Qm x y h=J b):∃j k,toD h 6 x=J j/\toD h 6 y=J k/\j.canLay0=Zg/\k.canLay0=Zg/\b=Zbz j k:=by
 unfold Qm at e;cases m:toD h 6 x with|none=>rw[m]at e;cases e|some j=>
  cases u:toD h 6 y with|none=>rw[m,u]at e;cases e|some k=>
   rw[m,u]at e;dsimp only at e;split at e
   .lia
   .cases e
theorem Jmn{K:W.Frag}{Y:Tw}{H:Hp}{x y:IV}{b:Bool}{B u:hV}(e:Vt x y=J b)(m:RV K Y H x B)(k:RV K Y H y u):scal B u=Zg/\decide (B=u)=b:=by
 cases x with
 |non=>cases y with|non=>cases e;cases (m);cases (k);exact#[rfl,rfl]|_=>cases e
 |int i=>cases y with|int j=>cases e;cases (m);cases (k);exact#[rfl,03]|_=>cases e
 |str i=>cases y with|str j=>cases e;cases (m);cases (k);exact#[rfl,03]|_=>cases e
 |bl i=>cases y with|bl j=>cases e;cases (m);cases (k);exact#[rfl,03]|_=>cases e
 |_=>cases y<;>cases e
theorem o_eq(hu:X.A.units+64<cLine):OpI B X (Za0 .Eq) cEq:=by
 intro V s U H Y Z h x y v u Q E N j k K;obtain⟨S,j,G⟩:=j;obtain⟨O,k,F⟩:=k;unfold cEq at K;cases C:Vt x y with|some b=>rw[C]at K;obtain⟨W,L⟩:=Jmn C G F;exact Qg (J7a) N.inv j k #[W,by rw[L];exact fin0 N K rfl]|none=>rw[C]at K;cases m:Qm x y h with|none=>rw[m]at K;exact(K).elim|some b=>rw[m]at K;obtain⟨D,db,I,M,R,P,rfl⟩:=Jom m;obtain⟨as,r1⟩:=Jgl N 6 x D S v I G j;obtain⟨bs,r2⟩:=Jgl N 6 y db O u M F k;have d1:=Jms 6 x D I;exact PySem.SeqAt.compareEq_reads r1 r2 R P 05<|fin0 N K rfl _ s N.inv rfl
theorem o_ne(hu:X.A.units+64<cLine):OpI B X (Za0 .NotEq) cNe:=by
 intro V s U H Y Z h x y v u Q E N j k K;obtain⟨S,j,G⟩:=j;obtain⟨O,k,F⟩:=k;unfold cNe at K;cases C:Vt x y with|some b=>rw[C]at K;obtain⟨W,L⟩:=Jmn C G F;exact Qg (J7f) N.inv j k #[W,by rw[L];exact fin0 N K rfl]|none=>rw[C]at K;cases m:Qm x y h with|none=>rw[m]at K;exact(K).elim|some b=>rw[m]at K;obtain⟨D,db,I,M,R,P,rfl⟩:=Jom m;obtain⟨as,r1⟩:=Jgl N 6 x D S v I G j;obtain⟨bs,r2⟩:=Jgl N 6 y db O u M F k;have d1:=Jms 6 x D I;exact PySem.SeqAt.compareNe_reads r1 r2 R P 05<|fin0 N K rfl _ s N.inv rfl
noncomputable def isI (x y:IV):Ww:=match y with|.non=>J (match x with|.non=>Zg|_=>Zi)|_=>Zc
noncomputable def cIs (x y:IV)(h:IH):Res IV:=match isI x y with|some b=>.ok (.bl b) h|none=>.stuck
noncomputable def Yq (x y:IV)(h:IH):Res IV:=match isI x y with|some b=>.ok (.bl (!b)) h|none=>.stuck
theorem Jxt{K:W.Frag}{Y:Tw}{H:Hp}{x y:IV}{b:Bool}{v u:Zh}(e:isI x y=J b)(j:RU K Y H x v)(m:RU K Y H y u):plainIs v u=Zg/\(v==u)=b:=by
 obtain⟨D,j,k⟩:=j;obtain⟨C,m,B⟩:=m;cases y with
 |non=>cases (B);cases m;cases x with|non=>cases e;cases (k);cases j;exact#[rfl,rfl]|bl c=>cases e;cases (k);cases j;exact#[rfl,rfl]|int c=>cases e;cases (k);obtain⟨t,rfl⟩:=j;exact#[rfl,rfl]|str c=>cases e;cases (k);obtain⟨t,rfl⟩:=j;exact#[rfl,rfl]|tup c=>cases e;obtain⟨a,O,rfl,_⟩:=k;cases j;exact#[rfl,rfl]|rol c=>cases e;obtain⟨a,O,rfl,_⟩:=k;cases j;exact#[rfl,rfl]|ref c=>cases e;obtain⟨a,rfl,_⟩:=k;cases j;exact#[rfl,rfl]
 |_=>cases e
theorem o_is:OpI B X (Za0 .Is) cIs:=by intro V s U H Y Z h x y v u Q E N k C K;unfold cIs at K;cases j:isI x y with|none=>rw[j]at K;exact(K).elim|some b=>rw[j]at K;obtain⟨m,L⟩:=Jxt j k C;exact wpAny_is_plain m<|by rw[L];exact fin0 N K rfl _ s N.inv rfl
theorem J0h:OpI B X (Za0 .IsNot) Yq:=by intro V s U H Y Z h x y v u Q E N k C K;unfold Yq at K;cases j:isI x y with|none=>rw[j]at K;exact(K).elim|some b=>rw[j]at K;obtain⟨m,L⟩:=Jxt j k C;exact wpAny_isNot_plain m<|by rw[L];exact fin0 N K rfl _ s N.inv rfl
inductive Ty where|non|bl|int|str|lst|tup|dct|ins (c:Str)|exc (c:Str)
noncomputable def tyI:IV->IH->Option Ty|.non,_=>J .non|.bl _,_=>J .bl|.int _,_=>J .int|.str _,_=>J .str|.tup _,_=>J .tup|.rol _,_=>J .lst|.ref i,h=>match h[i]? with|some (.lst _)=>J .lst|some (.dct _)=>J .dct|some (.ins c _)=>J<|.ins c|some (.exc c _)=>J<|.exc c|some (.hld c _)=>J<|.exc c|_=>Zc
structure ClsI(K:W.Frag)(C:Zm):Prop where
 cl:Cls K C
 ha:W.findIn K (.ref C) "__class__"=J (J<|.builtin "object.__class__")
 hn:W.specialIn K (.builtin "object.__class__") "__get__"=J (J<|.builtin "getset_descriptor.__get__")
 htk:W.takesIn K (.builtin "object.__class__")=J Zg
 hm:W.mroIn K C (.type "object")=J Zg
structure IsOk(B:CeT)(K:W.Frag)(c:Zh)(ans:Ty->Ww):Prop where
 non:∀b,ans .non=J b->W.kitOne K (.type "NoneType") c=J b
 bl:∀b,ans .bl=J b->W.kitOne K (.type "bool") c=J b
 int:∀b,ans .int=J b->W.kitOne K (.type "int") c=J b
 str:∀b,ans .str=J b->W.kitOne K (.type "str") c=J b
 lst:∀b,ans .lst=J b->W.kitOne K (.type "list") c=J b
 tup:∀b,ans .tup=J b->W.kitOne K (.type "tuple") c=J b
 dct:∀b,ans .dct=J b->W.kitOne K (.type "dict") c=J b
 ins:∀k C b,ans (.ins k)=J b->B k=J C->ClsI K C/\W.kitOne K (.ref C) c=J b
 exc:∀k C b,ans (.exc k)=J b->W.nsIn K Zn k=J (J<|.ref C)->ExI K C/\W.kitOne K (.ref C) c=J b
def eIsi(ans:Ty->Ww)(e:E1):E1:=λU h=>(e U h).bind λv h1=>match (tyI v h1).bind ans with|some b=>.ok (.bl b) h1|none=>.stuck
theorem Jz1{b:Bool}{Q E:QvT}{A:ZI}(N:Now B X V Y Z h U H s)(D:RU X.K Y H x u)(kD:IsOk B X.K c ans) (e:(tyI x h).bind ans=J b)(k:∀tk,Q (.bool b) {s with toks:=tk}):Zv (Zy X.prog X.w) A (call (.builtin "isinstance") [u,c]) Q E s:=by
 obtain⟨xv,D,F⟩:=D;cases x with|non=>cases (F);cases D;exact W.kia_one W.kitx_none N.inv.kIn Zaq (kD.non b e) (λz=>nomatch z) k|bl i=>cases (F);cases D;exact W.kia_one W.kitx_bool N.inv.kIn Zaq (kD.bl b e) (λz=>nomatch z) k|int i=>cases (F);obtain⟨t,rfl⟩:=D;exact W.kia_one W.kitx_int N.inv.kIn Zaq (kD.int b e) (λz=>nomatch z) k|str i=>cases (F);obtain⟨t,rfl⟩:=D;exact W.kia_one W.kitx_str N.inv.kIn Zaq (kD.str b e) (λz=>nomatch z) k|tup xs=>obtain⟨a,O,rfl,sa,_⟩:=F;cases D;obtain⟨R,rv,⟨o,S,G,m,hd⟩,hz⟩:=N.inv.tuple sa;exact W.kia_one W.kitx_tuple N.inv.kIn #[o,S,G] (kD.tup b e) (λz=>nomatch z) k|rol xs=>obtain⟨a,O,rfl,sa,_⟩:=F;cases D;obtain⟨R,rv,⟨o,m,S,G,_,hd⟩,hz⟩:=N.inv.list sa.sq;exact W.kia_one W.kitx_list N.inv.kIn #[o,S,G] (kD.lst b e) (λz=>nomatch z) k|ref i=>
  obtain⟨a,rfl,ha⟩:=F;cases D;cases j:h[i]? with|none=>simp[tyI,j]at e|some ob=>cases ob with|lst xs=>simp only[tyI,j]at e;obtain⟨O,e1,r1⟩:=N.at j ha;obtain⟨R,rv,⟨o,m,S,G,_,hd⟩,hz⟩:=N.inv.list<|SqL.of e1;exact W.kia_one W.kitx_list N.inv.kIn #[o,S,G] (kD.lst b e) (λz=>nomatch z) k|dct kvs=>simp only[tyI,j]at e;obtain⟨O,e1,r1⟩:=N.at j ha;obtain⟨_,_,ws,_,p⟩:=(N.inv.hok a _ e1);obtain⟨o,es,ep,h1,L,_⟩:=p;exact W.kia_one W.kitx_dict N.inv.kIn #[o,h1,L.1] (kD.dct b e) (λz=>nomatch z) k|ins c fs=>simp only[tyI,j]at e;obtain⟨C,dx,O,P,M,rp⟩:=N.at j ha;obtain⟨I,hk⟩:=kD.ins c C b e P;obtain⟨mA,Ob,_⟩:=Jj8 N.inv.hok M;obtain⟨od,cK,_⟩:=Ob.look;exact W.kia_one (W.kitx_own (I.cl.get _) I.cl.hd I.ha I.hn I.htk I.hm) N.inv.kIn cK hk (λz=>nomatch z) k|exc c fs=>simp only[tyI,j]at e;obtain⟨C,tv,d,_,P,M,_⟩:=N.at j ha;obtain⟨I,hk⟩:=kD.exc c C b e P;obtain⟨oe,O,e1,e2,_⟩:=ExF.get N.inv.hok M;exact W.kia_one (Jot I) N.inv.kIn #[oe,e1,e2] hk (λz=>nomatch z) k|hld c fs=>simp only[tyI,j]at e;obtain⟨C,oe,u,O,_,P,M,e2,_⟩:=N.at j ha;obtain⟨I,hk⟩:=kD.exc c C b e P;exact W.kia_one (Jot I) N.inv.kIn #[oe,(N.inv.hok a _ M).1,e2] hk (λz=>nomatch z) k|tab q=>simp[tyI,j]at e
variable{a cx:Expr}{ma:E1}{pos p:Pos}
def ClsE(X:Cx)(cx:Expr)(c:Zh):Prop:=∀(V:PnT)(U:L2.St)(H:Hp)(s:Zl)(Q E:QvT),Inv X V U H s->Q c s->Zv (Zy X.prog X.w) X.A (ZaQ cx X.env) Q E s
theorem Xj(k:Gl X x)(hm:X.mg x=Zc)(hv:Zbu x=J c)(hn:x≠"__name__":=by decide)(j:(x==("__debug__":Str))=Zi:=by decide):ClsE X (.Name x p) c:=λ_ _ _ _ _ _ I q=>Qt I k hm hv q hn j
theorem Jm7(k:Gl X x)(hm:X.mg x=J c)(j:(x==("__debug__":Str))=Zi:=by decide):ClsE X (.Name x p) c:=λ_ _ _ _ _ _ I q=>Vp I k hm q j
theorem J24{j:Ty->Ww}{c:Zh}(R:ClsE X cx c)(kD:IsOk B X.K c j)(ha:PEi B X a ma)(M:Gl X "isinstance")(hm:X.mg "isinstance"=Zc)(hv:Zbu "isinstance"=J (.builtin "isinstance"):=by rfl) (G:Z9 [a,cx] X.env=(Zi,ZaQ a X.env)::Z9 [cx] X.env:=by rfl)(D:Z9 [cx] X.env=(Zi,ZaQ cx X.env)::Z9 [] X.env:=by rfl)(C:(Zbh pos<|Z9 [cx] X.env).any (·.1)=Zi:=by rfl):PEi B X (.Call (.Name "isinstance" p) [a,cx] [] pos) (eIsi j ma):=by
 intro V s U H Y Z h Q E N K;refine ZT<|Qt N.inv M hm hv ?_ 01 01;refine ZaI ?_ G C;rw[G];refine Zdx<|ha.run N K λx P u S F O k n1 I m=>?_
 rw[D];refine Zdx<|R V U F S _ E k.inv ?_;refine Calls.spliced_nil ?_;cases e:(tyI x P).bind j with|none=>rw[e]at m;exact(m).elim|some b=>rw[e]at m;exact Jz1 k I kD e λL=>m _ _ F O #[k.inv.tok L,k.rel,k.st] .refl #[.bl b,rfl,rfl]
def Jq0:Ty->Ww|.int=>J Zg|.bl=>J Zg|.ins _=>Zc|.exc _=>Zc|_=>J Zi
def Ji7:Ty->Ww|.bl=>J Zg|.ins _=>Zc|.exc _=>Zc|_=>J Zi
def Jq1:Ty->Ww|.str=>J Zg|.ins _=>Zc|.exc _=>Zc|_=>J Zi
def Yo:Ty->Ww|.lst=>J Zg|.ins _=>Zc|.exc _=>Zc|_=>J Zi
def Jn8:Ty->Ww|.tup=>J Zg|.ins _=>Zc|.exc _=>Zc|_=>J Zi
theorem Jsp{K:W.Frag}:IsOk B K (.type "bool") Ji7:=by refine#[?_,?_,?_,?_,?_,?_,?_,(λk C b e=>by cases e),(λk C b e=>by cases e)]<;>(intro b e;cases e;first|rfl|with_unfolding_all rfl|kernel_rfl)
theorem Jvn{K:W.Frag}:IsOk B K (.type "str") Jq1:=by refine#[?_,?_,?_,?_,?_,?_,?_,(λk C b e=>by cases e),(λk C b e=>by cases e)]<;>(intro b e;cases e;first|rfl|with_unfolding_all rfl|kernel_rfl)
theorem Jlz{K:W.Frag}:IsOk B K (.type "list") Yo:=by refine#[?_,?_,?_,?_,?_,?_,?_,(λk C b e=>by cases e),(λk C b e=>by cases e)]<;>(intro b e;cases e;first|rfl|with_unfolding_all rfl|kernel_rfl)
theorem Jvo{K:W.Frag}:IsOk B K (.type "tuple") Jn8:=by refine#[?_,?_,?_,?_,?_,?_,?_,(λk C b e=>by cases e),(λk C b e=>by cases e)]<;>(intro b e;cases e;first|rfl|with_unfolding_all rfl|kernel_rfl)
theorem Jvm{K:W.Frag}:IsOk B K (.type "int") Jq0:=by refine#[?_,?_,?_,?_,?_,?_,?_,(λk C b e=>by cases e),(λk C b e=>by cases e)]<;>(intro b e;cases e;first|rfl|with_unfolding_all rfl|kernel_rfl)
end
noncomputable def clOf (cells:Wo):Wh->Wo->Wo|[],acc=>acc|(n,k)::r,acc=>clOf cells r (if (k==Za6)=Zg then(match cells.lookup n with|some c=>(n,c)::acc|none=>acc)else acc)
theorem Jh3{env:Env}(names:Wh)(acc:Wo)(h:∀x∈names,x.2=.free->∃c,env.cells.lookup x.1=J c):
  (forIn names acc (λ(x:Str×Zbj)(r:Wo)=>if (x.2==Za6)=Zg then(do let c<-cellOf env x.1;pure (ZaU ((x.1,c)::r)))else pure (ZaU r)):Sem<|Wo)=pure (clOf env.cells names acc):=by
 induction names generalizing acc with|nil=>rfl|cons x r C=>
  obtain⟨n,k⟩:=x;have j:=λa=>C a λy E=>h y<|Zr _ E
  rw[List.forIn_cons];by_cases m:(k==Za6)=Zg
  .have u:k=.free:=by cases k<;>first|rfl|exact absurd m 01
   obtain⟨c,B⟩:=h (n,k) ZB u;have D:cellOf env n=pure c:=by unfold cellOf;rw[B]
   simp only[m,if_true,D,pure_bind];rw[j];simp only[clOf,m,if_true,B]
  .simp only[m,Zb0,if_false,pure_bind];rw[j];simp only[clOf,m,Zb0,if_false]
theorem Ja3{scope:Zbm}{env:Env}(h:∀x∈scope.names,x.2=.free->∃c,env.cells.lookup x.1=J c):ZeT scope env=pure (clOf env.cells scope.names []):=by have e:=Jh3 scope.names [] h;have j:ZeT scope env=((forIn scope.names [] (λ(x:Str×Zbj)(r:Wo)=>if (x.2==Za6)=Zg then(do let c<-cellOf env x.1;pure (ZaU ((x.1,c)::r)))else pure (ZaU r)):Sem<|Wo)>>=λs=>pure s):=rfl;rw[j,e];rfl
theorem Jjv{cells:Wo}:∀(names:Wh)(acc:Wo),(∀x c,acc.lookup x=J c->cells.lookup x=J c)->∀x c,(clOf cells names acc).lookup x=J c->cells.lookup x=J c
 |[],_,h,x,c,e=>h x c e
 |(n,k)::r,acc,h,x,c,e=>by
  refine Jjv r _ ?_ x c e;intro y d q;split at q
  .cases m:cells.lookup n with
   |none=>rw[m]at q;exact h y d q
   |some a=>
    rw[m]at q;simp only[Zan]at q;cases j:y==n with
    |true=>rw[j]at q;cases q;rw[beq_iff_eq.mp j];exact m
    |false=>rw[j]at q;exact h y d q
  .exact h y d q
theorem Jlc:∀(names:Wh)(acc:Wo)(x:Str),(acc.lookup x).isSome=Zg->((clOf cells names acc).lookup x).isSome=Zg
 |[],_,_,h=>h
 |(n,k)::r,acc,x,h=>by
  refine Jlc r _ x ?_;split
  .cases j:cells.lookup n with
   |none=>exact h
   |some a=>
    simp only[Zan];cases m:x==n with
    |true=>rfl
    |false=>exact h
  .exact h
theorem Yr{cells:Wo}:∀(names:Wh)(acc:Wo)(x:Str)(c:Zm),(x,Za6)∈names->cells.lookup x=J c->((clOf cells names acc).lookup x).isSome=Zg
 |[],_,_,_,h,_=>by simp at h
 |(n,k)::r,acc,x,c,h,hc=>by
  rcases ZA.mp h with e|e
  .obtain⟨rfl,rfl⟩:=Prod.mk.inj e;refine Jlc r _ _ ?_;simp[hc]
  .exact Yr r _ x c e hc
theorem Jbt{env:Env}:∀{names:Wh}{x:Str}{k:Zbj},(names.map λ(n,k)=>if (k==Za6&&env.scope.kind==.function&&env.kindOf n==J .cell)then(n,ZdF)else(n,k)).lookup x=J k ->∃k0,names.lookup x=J k0/\(k,k0)∈([(k0,k0),(.cell,.free)]:List<|Zbj×Zbj)
 |[],_,_,h=>by simp at h
 |(n,k1)::r,x,k,h=>by
  have B:=@Jbt env r x k;have j:ZcY x ((if (k1==Za6&&env.scope.kind==.function&&env.kindOf n==J .cell)=Zg then(n,ZdF)else(n,k1))::_)=J k:=h;cases hx:x==n with
  |true=>
   refine#[k1,by simp[Zan,hx],?_];by_cases u:(k1==Za6&&env.scope.kind==.function&&env.kindOf n==J .cell)=Zg
   .simp_all
   .rw[if_neg u]at j;simp only[Zan,hx]at j;cases j;simp
  |false=>
   have L:ZcY x (r.map λ(n,k)=>if (k==Za6&&env.scope.kind==.function&&env.kindOf n==J .cell)then(n,ZdF)else(n,k))=J k:=by
    by_cases u:(k1==Za6&&env.scope.kind==.function&&env.kindOf n==J .cell)=Zg
    .rw[if_pos u]at j;simpa only[Zan,hx]using j
    .rw[if_neg u]at j;simpa only[Zan,hx]using j
   obtain⟨k0,e,m⟩:=B L;exact#[k0,by simp only[Zan,hx];exact e,m]
theorem Jfy{env:Env}:∀{names:Wh}{x:Str},names.lookup x=J .free ->∃k,(names.map λ(n,k)=>if (k==Za6&&env.scope.kind==.function&&env.kindOf n==J .cell)then(n,ZdF)else(n,k)).lookup x=J k/\(k=.cell\/k=.free)
 |[],_,h=>by simp at h
 |(n,k1)::r,x,h=>by
  have m:=@Jfy env r x;cases hx:x==n with
  |true=>
   simp only[Zan,hx]at h;cases h;by_cases j:(Za6==Za6&&env.scope.kind==.function&&env.kindOf n==J .cell)=Zg
   .exact#[.cell,by rw[ZL];dsimp only;rw[if_pos j];simp only[Zan,hx],.inl rfl]
   .exact#[.free,by rw[ZL];dsimp only;rw[if_neg j];simp only[Zan,hx],.inr rfl]
  |false=>
   simp only[Zan,hx]at h;obtain⟨k,e,q⟩:=m h;refine#[k,?_,q];rw[ZL];dsimp only;by_cases j:(k1==Za6&&env.scope.kind==.function&&env.kindOf n==J .cell)=Zg
   .rw[if_pos j];simp only[Zan,hx];exact e
   .rw[if_neg j];simp only[Zan,hx];exact e
def cxC(X:Cx)(N':Tl)(scope:Zbm)(C:Zm)(s:Zl)(H:Hp)(fp:Tw):Cx:={X with N:=N',s₀:=s,H₀:=H,env:=compEnvC scope (clOf X.env.cells scope.names []) C X.env,outer:=X.stack,ex:=fp,fn:=λ_=>Zi,pn:=[]}
noncomputable def QM (N0 loc caps:Tl)(js:Tr)(sc₀ scope:Zbm):Bool:=decide (scope.kind=.function)&&decide (sc₀.kind=.function)&&scope.names.all (λx=>!(x.2==.cell))&&scope.names.all (λx=>!(x.2==.local)||decide (scope.names.lookup x.1=J .local)) && scope.names.all (λx=>!(x.2==.free)||decide (sc₀.names.lookup x.1=J .cell)||decide (sc₀.names.lookup x.1=J .free)) && scope.names.all (λx=>!(decide (scope.names.lookup x.1=J .free))||(x.2==.free)) && (js.zip caps).all (λp=>decide (N0[p.1]?=J p.2)&&decide (scope.names.lookup p.2=J .free))&&decide (js.length=caps.length)&&decide (loc++caps).Nodup && loc.all (λn=>decide (scope.names.lookup n=J .local))
open Classical in
def JW(chk:IH->Prop)(g:G1)(t:T1)(e:E1)(i0:Nat):Tx->ISt->IH->Res IV|[],_,h=>if chk h then .ok (.ref i0) h else .stuck|x::xs,U,h=>if chk h then(match g x U h with|.next W1 h1=>(match t W1 h1 with|.ok Zg L=>(match e W1 L with|.ok v h3=>(match h3[i0]? with|some (.lst acc)=>if acc.length<sizeLine then JW chk g t e i0 xs W1 (h3.set i0<|.lst<|acc++[v])else .stuck|_=>.stuck)|_=>.stuck)|.ok Zi L=>JW chk g t e i0 xs W1 L|_=>.stuck)|_=>.stuck)else .stuck
noncomputable def stC (nloc:Nat)(js:Tr)(U:ISt):ISt:=ZD nloc Zc++js.map λj=>(U[j]?).join
def J1(it:I1)(nloc:Nat)(js:Tr)(g:G1)(t:T1)(e:E1):E1:=λU h=>(it U h).bind λcK h1=>JW cK.chk g t e h1.length cK.xs (stC nloc js U)<|h1++[.lst []]
theorem Jle{prog:Z7}{w:ZU}{A:ZI}{R:Zec->Zl->Prop}{s:Zl}{elt target iter:Expr}{k:Tf}{scope:Zbm}{pos:Pos}{it acc:Zh}{env:Env}(I:Nat->Zl->Prop) (u:∀n s,I n s->Zv (Zy prog w) A (Zdu it) (λr s₁=>match r with
   |none=>R (.ok .next) s₁
   |some v=>Zv (Zy prog w) A (Zdb target it v) (λ_ s₁'=>Zv (Zy prog w) A (Zei target env v) (λ_ s₂=>
     Zv (Zy prog w) A (forIn k Zg λc r=>if r=Zg then do let ok<-isTrue c env (ZaQ c env);pure (ZaU ok)else pure (ZaU r)) (λok s₃=>
      if ok=Zg then Zv (Zy prog w) A (ZaQ elt env) (λx s₄=>
       Zv (Zy prog w) A (call (.builtin "list.append") [acc,x]) (λ_ s₅=>∃m,m<n/\I m s₅) (λ_ _=>False) s₄) (λ_ _=>False) s₃
      else ∃m,m<n/\I m s₃) (λ_ _=>False) s₂) (λ_ _=>False) s₁') (λ_ _=>False) s₁) (λ_ _=>False) s)
  (n:Nat) (h:I n s):ZbI (Zy prog w) A (.compLoop (.ListComp elt [#[target,iter,k,0]] scope pos) 0 it acc env) R s:=by
 refine codeAny_loop rfl I (λn s B=>?_) n h;refine wpAny_noted<|nof ?_;rw[compTurn_list];refine Zb<|ZaS<|Zb<|Zaf (u n s B) (λr s₁ h₁=>?_) λ_ _ j=>j
 cases r with
 |none=>exact Zk h₁
 |some v=>
  refine Zb<|Zaf h₁ (λ_ s₁' h₁'=>?_) λ_ _ j=>j
  refine Zb<|Zaf h₁' (λ_ s₂ h₂=>Zb<|Zaf h₂ (λok s₃ h₃=>?_) λ_ _ j=>j) λ_ _ j=>j
  cases ok with
  |false=>exact Zk #[rfl,h₃]
  |true=>exact Zb<|Zb<|Zaf h₃ (λx s₄ h₄=>Zb<|Zaf h₄ (λ_ s₅ h₅=>Zk<|Zk #[rfl,h₅]) λ_ _ j=>j) λ_ _ j=>j
def PTsi(B:CeT)(X:Cx)(ifs:Tf)(m:T1):Prop:=PX B X RB (forIn ifs Zg λc r=>if r=Zg then do let ok<-isTrue c X.env (ZaQ c X.env);pure (ZaU ok)else pure (ZaU r)) m
noncomputable def JF:T1:=λ_ h=>.ok Zg h
theorem Jyc:PTsi B X [] JF:=λ_ s _ H Y _ _ _ _ N K=>wpAny_tests_nil<|K Zg s H Y N .refl rfl
theorem Jyd{B:CeT}{X:Cx}{c:Expr}{m:T1}(j:PTi B X c m):PTsi B X [c] m:=λV s U H Y Z h Q E N K=>wpAny_tests_one<|j V s U H Y Z h Q E N K
def VF(B:CeT)(X:Cx)(use:Option<|Zh->Sem Unit)(V:PnT)(Y:Tw)(Z:ISt)(U:L2.St)(H:Hp)(r:Res IV)(Q E:QvT):Prop:=match r with|.ok v h'=>∀D C m s' H' Y',Now B X V Y' Z h' U H' s'->Nxt Y H Y' H'->RU X.K Y' H' v (.ref D)->s'.heap.Ns C m->FpOk X V H' C->compPost (Zy X.prog X.w) X.A E use Q (.ref D) C (.ok .next) s'|.exc n h'=>∀pl a s' H' Y',Now B X (V++pl) Y' Z h' U H' s'->Nxt Y H Y' H'->Y'[n]?=J a->E (.ref a) s'|.stuck=>False
theorem VF.mono(k:VF B X use V Y Z U H r Q E)(n:Nxt Y H Y' H'):VF B X use V Y' Z U H' r Q E:=by cases r with|ok v G=>exact λD C m j F u N n2 q=>k D C m j F u N (n.trans n2) q|exc m G=>exact λpl a j F u N n2 q=>k pl a j F u N (n.trans n2) q|stuck=>exact k
def Warm(A:ZI)(H:Hp):Prop:=∃a oe u O,A.handled=J (.ref a)/\H a=J (.frz oe u)/\oe.data=.fields O/\O[2]?=J .none
structure TurnC(P:Z7)(w:ZU)(C:Cx->Hp->Prop)(tg:Expr)(cK:It)(fp:Tw)(it:Zm)(tn:Nat->Zam->Prop):Prop where
 obj:∀i h,tn i h->∀b∈fp,∃o,h.get? b=J o/\∀v,o.data≠.cell v
 keep:∀i h h',tn i h->(∀b∈fp,∀o,h.get? b=J o->h'.get? b=J o)->tn i h'
 item:∀(X:Cx)(i:Nat)(s:Zl)(U:L2.St)(H:Hp),C X H->Inv X [] U H s->(∀b∈fp,FpOk X [] H b)->tn i s.heap->cK.go i H ->Zv (Zy P w) X.A (Zdu<|.ref it) (λr s1=>∃u,r=J u/\Zv (Zy P w) X.A (Zdb tg (.ref it) u) (λ_ s2=>∃x H',Inv X [] U H' s2/\RelV x u/\cK.yld i H x H'/\tn (i+1) s2.heap/\∀b∈fp,H' b=Zc) (λ_ _=>False) s1) (λ_ _=>False) s
 done:∀(X:Cx)(i:Nat)(s:Zl)(U:L2.St)(H:Hp),C X H->Inv X [] U H s->(∀b∈fp,FpOk X [] H b)->tn i s.heap->cK.stop i H->Zv (Zy P w) X.A (Zdu<|.ref it) (λr s1=>r=Zc/\Inv X [] U H s1) (λ_ _=>False) s
 self:∀(A:ZI)(i:Nat)(s:Zl)(Q:QvT)(E:QvT),tn i s.heap->Q (.ref it) s->Zv (Zy P w) A (Zdv<|.ref it) Q E s
def J55(X0:Cx)(X:Cx)(_:Hp):Prop:=X.prog=X0.prog/\X.w=X0.w/\X.K=X0.K/\X.calm=Zg
def RItC(C:Cx->Hp->Prop)(B:CeT)(X:Cx)(tg:Expr)(V:PnT)(Y':Tw)(I:ItI)(itv:Zh)(s2:Zl)(H':Hp):Prop:=∃(it:Zm)(fp:Tw)(tn:Nat->Zam->Prop)(cK:It),itv=.ref it/\TurnC X.prog X.w C tg cK fp it tn/\tn 0 s2.heap/\(∀b∈fp,FpOk X V H' b)/\ItOk B X.K Y' H' cK I
def PIc(C:Cx->Hp->Prop)(B:CeT)(X:Cx)(tg iter:Expr)(m:I1):Prop:=∀(V:PnT)(s:Zl)(U:L2.St)(H:Hp)(Y:Tw)(Z:ISt)(h:IH)(Q:QvT)(E:QvT),Now B X V Y Z h U H s ->(match m Z h with|.ok I h'=>∀itv s' H' Y',Now B X V Y' Z h' U H' s'->Nxt Y H Y' H'->RItC C B X tg V Y' I itv s' H'->Q itv s'|.exc n h'=>∀pl a s' H' Y',Now B X (V++pl) Y' Z h' U H' s'->Nxt Y H Y' H'->Y'[n]?=J a->E (.ref a) s'|.stuck=>False) ->
  Zv (Zy X.prog X.w) X.A (ZaQ iter X.env) (λv s1=>Zv (Zy X.prog X.w) X.A (Zdv v) Q E s1) E s
theorem PIi.c(p:PIi B X tg iter m):PIc (J55 X) B X tg iter m:=λV s U H Y Z h Q E N k=>p V s U H Y Z h Q E N (by
 cases e:m Z h with|exc n L=>rw[e]at k;exact k|stuck=>rw[e]at k;exact k|ok I L=>
  rw[e]at k;intro j D R F O C ⟨it,fp,P,G,M,T,r⟩;refine k j D R F O C #[it,fp,P,G,M,#[T.obj,T.keep,λu i s U H c=>?_,λu i s U H c=>?_,T.self],r]
  .exact T.item u c.1 c.2.1 c.2.2.1 c.2.2.2 i [] s U H _
  .exact T.done u c.1 c.2.1 c.2.2.1 c.2.2.2 i [] s U H _)
section
variable{B:CeT}{X:Cx}
theorem Jlf{N0 loc F:Tl}{js:Tr}{sc₀ scope:Zbm}{tg W elt:Expr}{ifs:Tf}{g:G1}{mt:T1}{me:E1}{pos ppos:Pos}{use:Option (Zh->Sem Unit)}(hi:PIc Cc B X tg W mi)
  (hg:∀C s H fp,PGi B (cxC X (loc++F) scope C s H fp) tg g)(ht:∀C s H fp,PTsi B (cxC X (loc++F) scope C s H fp) ifs mt)(he:∀C s H fp,PEi B (cxC X (loc++F) scope C s H fp) elt me)
  (ok:QM N0 loc F js sc₀ scope=Zg)(hN0:X.N=N0:=by rfl)(hsc:X.env.scope=sc₀:=by rfl)(hs:∀x,Zcd W X.env x=pure x:=by intro _;rfl)
  {V:PnT}{s:Zl}{U:L2.St}{H:Hp}{Y:Tw}{Z:ISt}{h:IH}{Q E:QvT}(hcc:∀C s H1 fp H',Ext H H'->Cc (cxC X (loc++F) scope C s H1 fp) H')(N:Now B X V Y Z h U H s)(K:VF B X use V Y Z U H (J1 mi loc.length js g mt me Z h) Q E):
  Zv (Zy X.prog X.w) X.A (comprehension (.ListComp elt [#[tg,W,ifs,0]] scope pos) scope X.env ppos (newList []) Zi (ZaQ W X.env) use) Q E s:=by
 simp only[QM,Zz,decide_eq_true_eq,ZaY,ZbD,Zb8,beq_iff_eq,beq_eq_false_iff_ne]at ok;obtain⟨⟨⟨⟨⟨⟨⟨⟨⟨kF,kF0⟩,kNC⟩,kL⟩,kFr⟩,kFx⟩,kJ⟩,kLen⟩,kNd⟩,kLo⟩:=ok;have hfree:∀x∈scope.names,x.2=.free->X.env.kindOf x.1=J .cell\/X.env.kindOf x.1=J .free:=λx hx hk=>by
  have e:X.env.kindOf x.1=sc₀.names.lookup x.1:=by rw[<-hsc];rfl
  rw[e];rcases kFr x hx with(z|z)|z
  .exact absurd hk z
  .exact .inl z
  .exact .inr z
 have hclos:ZeT scope X.env=pure (clOf X.env.cells scope.names []):=Ja3 λx hx hk=>N.inv.ok.has x.1<|hfree x hx hk
 refine wpAny_comprehension_free (use:=use) (e:=.ListComp elt [#[tg,W,ifs,0]] scope pos) rfl hs hclos kF (λx hx hl=>(kL x hx).resolve_left λz=>z hl) ?_;refine hi V s U H Y Z h _ E N ?_;unfold J1 at K;cases e0:mi Z h with|exc n h'=>rw[e0]at K;exact K|stuck=>rw[e0]at K;exact K|ok S h1=>
  rw[e0]at K;intro itv s1 H1 U1 N1 n1 RI;obtain⟨it,fp,tn,cK,e,T,st1,f1,OK⟩:=RI;subst e
  -- the list
  refine ZbB ?_;have fresh1:H1 s1.heap.objs.size=Zc:=N1.inv.hok.fresh<|Zq _;have I2:Inv X V U (upd H1 s1.heap.objs.size<|.lst []) {s1 with heap:=s1.heap.push {cls:=.type "list",dict:=Zc,data:=.seq ([]:Tv).toArray} }:=
   N1.inv.laid (t':=s1.toks) (λb u e=>Ze _ e) (Zq _) #[ZN _,[],0,.nil,Zs _ rfl]
  obtain⟨R2,n2⟩:=N1.rel.alloc (o:=.lst []) (io:=.lst []) fresh1 #[[],J2,rfl];generalize hs2:({s1 with heap:=s1.heap.push {cls:=.type "list",dict:=Zc,data:=.seq ([]:Tv).toArray} }:Zl)=P at I2 ⊢;generalize hD:s1.heap.objs.size=D at *;generalize hH2:upd H1 D (.lst [])=R at *;have N2:Now B X V (U1++[D]) Z (h1++[.lst []]) U R P:=#[I2,R2,N1.st.mono n2];have keep12:∀b o,s1.heap.get? b=J o->P.heap.get? b=J o:=λb o q=>by rw[<-hs2];exact Ze _ q
  have st2:tn 0 P.heap:=T.keep 0 _ _ st1 λb _ o q=>keep12 b o q
  have hat:(U1++[D])[h1.length]?=J D:=by rw[<-N1.rel.len,ZK<|Zq _];simp
  have f2:∀b∈fp,FpOk X V R b:=λb L=>by
   refine#[?_,(f1 b L).2];obtain⟨o,ho,_⟩:=T.obj 0 _ st1 b L;have:b≠D:=Z1<|by rw[<-hD];exact Zu ho
   rw[<-hH2,Jo this];exact(f1 b L).1
  -- the block's own dict
  refine wpAny_newFunctionEnv (λx hx=>kNC x hx) (by intro y hy;simp at hy) (λh3 hns3 hsb3=>?_) kF;generalize hC:P.heap.objs.size=C at *;have M:∀b o,P.heap.get? b=J o->h3.get? b=J o:=λb o q=>(hsb3.2 b<|Z1<|by rw[<-hC];exact Zu q).trans<|Ze _ q
  have G:∀x c,(clOf X.env.cells scope.names []).lookup x=J c->X.env.cells.lookup x=J c:=Jjv _ _ (λx c q=>by simp at q)
  -- the context of the block
  have okX:(cxC X (loc++F) scope C P R fp).Ok:=by
   refine#[N.inv.ok.mod,kF,N.inv.ok.glob,N.inv.ok.blt,ZcF hC,λx y c a b=>N.inv.ok.inj x y c (G x c a)<|G y c b,λx hx=>?_,λx c z=>?_,N.inv.ok.hd,N.inv.ok.frames,.inl rfl,λb L=>?_,λb o q=>I2.bs b o q,
    ZM N.inv.ok.bsz I2.sz,λb o q L=>?_,λb L z=>?_,I2.stack,I2.stkFree]
   .have hx':(relabel scope X.env).names.lookup x=J .cell\/(relabel scope X.env).names.lookup x=J .free:=hx;have hfr:scope.names.lookup x=J .free:=by
     rcases hx' with z|z
     .obtain⟨k0,e,m⟩:=Jbt z;simp only[ZA,Prod.mk.injEq,Zad,or_false]at m;rcases m with⟨m1,_⟩|⟨_,m2⟩
      .exact absurd (kNC _<|Zak e) (by rw[<-m1];intro q;exact q rfl)
      .rw[m2]at e;exact e
     .obtain⟨k0,e,m⟩:=Jbt z;simp only[ZA,Prod.mk.injEq,Zad,or_false]at m;rcases m with⟨m1,_⟩|⟨m1,_⟩
      .rw[<-m1]at e;exact e
      .cases m1
    have hm:=Zak hfr;obtain⟨c,hc'⟩:=N.inv.ok.has x<|hfree (x,.free) hm rfl;exact ZaR.mp<|Yr _ _ x c hm hc'
   .exact absurd (show Zi=Zg from z) Zt
   .have hbD:=f2 b L;obtain⟨o,ho,_⟩:=T.obj 0 _ st2 b L;exact#[Z1 (by show b<C;rw[<-hC];exact Zu ho),λx c q=>hbD.2.2.2.2.1 x c<|G x c q]
   .rcases(f2 b L).2.2.2.1 with z|z
    .exact N.inv.ok.noex b o q z
    .exact ZbV _<|ZF (Zu q)<|ZM N.inv.ok.bsz z
   .rcases ZA.mp (I2.stkSub b z)with e|e
    .exact(f2 b L).2.1 e
    .exact(f2 b L).2.2.1 e
  -- the block's state
  have lenJ:js.length=F.length:=kLen;have stl:(stC loc.length js Z).length=(loc++F).length:=by simp[stC,lenJ]
  have R3:Rel B X.K (U1++[D]) (h1++[.lst []]) R:=R2;have I3:Inv (cxC X (loc++F) scope C P R fp) [] (ZD loc.length Zc++js.map λj=>(U[j]?).join) R {P with heap:=h3,toks:=P.toks+([]:Wl).length}:=by
   refine#[okX,rfl,I2.bare,Un.kept M,#[_,hns3,λi x v a b c=>?_],λx c q=>?_,I2.hok.fresh<|ZcF hC,λx c q=>I2.freeC x c<|G x c q,λp hp=>absurd (show p∈([]:PnT)from hp) 03,I2.hok.kept M,by show _=(loc++F).length;simp[lenJ]]
   .have hi:loc.length<=i:=by
     refine ZcS λhlt=>?_
     rw[Z8 (by simpa using hlt),ZbK]at b;split at b<;>cases b
    obtain⟨k,rfl⟩:∃k,i=loc.length+k:=#[i-loc.length,00];have a':(loc++F)[loc.length+k]?=J x:=a;rw[ZK 00]at a';rw[ZK 03]at b;simp only[ZdQ,Zb3,Z4]at a' b;cases ej:js[k]? with|none=>rw[ej]at b;cases b|some j=>
     rw[ej]at b;have b':(U[j]?).join=J v:=Zas b;have hZ:U[j]?=J (J v):=by cases es:U[j]? with|none=>rw[es]at b';cases b'|some o=>rw[es]at b';rw[show o=J v from b']
     have hz:=kJ (j,x) (List.mem_iff_getElem?.mpr #[k,by rw[List.getElem?_zip_eq_some];exact#[ej,a']]);obtain⟨hx1,hx2⟩:=hz;obtain⟨m,hn,hl⟩:=I2.loc;have hk:=hfree (x,.free) (Zak hx2) rfl;obtain⟨u,ru,lk⟩:=hl j x v (by rw[hN0];exact hx1) hZ (by rcases hk with q|q;exact .inr (.inl q);exact .inr (.inr q));rcases lk with⟨q,_⟩|⟨q,c,hc',hcell⟩
     .rcases hk with q'|q'<;>(rw[q']at q;cases q)
     .obtain⟨kk,ek,hkk⟩:=Jfy (env:=X.env) hx2;have hcl:=Yr (cells:=X.env.cells) scope.names [] x c (Zak hx2) hc';obtain⟨c',hc2⟩:=ZaR.mp hcl;have:=G x c' hc2;rw[hc']at this;cases this;obtain⟨oc,hoc,hd⟩:=hcell;refine#[u,ru,.inr #[?_,c,hc2,oc,M _ _ hoc,hd]];rcases hkk with rfl|rfl
      .exact .inl ek
      .exact .inr ek
   .obtain⟨v,o,ho,hd⟩:=I2.cell x c<|G x c q;exact#[v,o,M _ _ ho,hd]
  have N3:Now B (cxC X (loc++F) scope C P R fp) [] (U1++[D]) (stC loc.length js Z) (h1++[.lst []]) (ZD loc.length Zc++js.map λj=>(U[j]?).join) R {P with heap:=h3,toks:=P.toks+([]:Wl).length}:=by
   refine#[I3,R3,by simp[stC],λi v q=>?_];unfold stC at q;have hi:loc.length<=i:=by
    refine ZcS λhlt=>?_
    rw[Z8 (by simpa using hlt),ZbK]at q;split at q<;>cases q
   rw[ZK<|by simpa using hi]at q;simp only[Zb3,Z4]at q;cases ej:js[i-loc.length]? with|none=>rw[ej]at q;cases q|some j=>
    rw[ej]at q;have q':(Z[j]?).join=J v:=Zas q;have hZ:Z[j]?=J (J v):=by cases es:Z[j]? with|none=>rw[es]at q';cases q'|some o=>rw[es]at q';rw[show o=J v from q']
    obtain⟨u,hu,qu⟩:=N2.st.at_ j v hZ;refine#[u,?_,qu];rw[ZK<|by simpa using hi];simp only[Zb3,Z4,ej,Option.map_some,hu];rfl
  have st3:tn 0 h3:=T.keep 0 _ _ st2 λb _ o q=>M b o q
  have K2:=VF.mono (r:=JW S.chk g mt me h1.length S.xs (stC loc.length js Z)<|h1++[.lst []]) K<|n1.trans n2;have loop:ZbI (Zy X.prog X.w) X.A (.compLoop (.ListComp elt [#[tg,W,ifs,0]] scope pos) 0 (.ref it) (.ref D)<|compEnvC scope (clOf X.env.cells scope.names []) C X.env) (compPost (Zy X.prog X.w) X.A E use Q (.ref D) C)
    {P with heap:=h3,toks:=P.toks+([]:Wl).length}:=by
   refine Jle (λn s'=>∃k Pk Uk hk U' H',Now B (cxC X (loc++F) scope C P R fp) [] Pk Uk hk U' H' s'/\Nxt (U1++[D]) R Pk H'/\tn k s'.heap/\(∀b∈fp,H' b=Zc)/\n=S.xs.length-k/\k<=S.xs.length/\VF B X use V Pk Z U H' (JW S.chk g mt me h1.length (S.xs.drop k) Uk hk) Q E) ?_ S.xs.length
    #[0,U1++[D],stC loc.length js Z,h1++[.lst []],_,R,N3,.refl,st3,λb L=>(f2 b L).1,03,ZN _,by simpa using K2]
   have stat:∀{H':Hp},(∀b∈fp,H' b=Zc)->∀b∈fp,FpOk (cxC X (loc++F) scope C P R fp) [] H' b:=λhn b L=>
    #[hn b L,(okX.exf b L).1,okX.exfs b L,.inl L,(okX.exf b L).2,λp hp=>absurd (show p∈([]:PnT)from hp) 03]
   rintro n s4 ⟨k,Pk,Uk,hk,W4,H4,N4,n4,st4,fr4,rfl,hkl,I⟩;by_cases hlt:k<S.xs.length
   .have hd:S.xs.drop k=S.xs[k]::S.xs.drop (k+1):=Za4 hlt;rw[hd]at I;unfold JW at I;split at I
    .rename_i hck;obtain⟨go,yl⟩:=OK.go k S.xs[k] hk H4 Pk (n2.trans n4) N4.rel hck<|Zd hlt;refine thn (T.item (cxC X (loc++F) scope C P R fp) k s4 W4 H4 (hcc _ _ _ _ _ (n1.trans<|n2.trans n4).ext) N4.inv (stat fr4) st4 go) λr s5 ⟨u,hr,h5⟩=>?_
     subst hr;refine thn h5 λ_ s6 ⟨x,H6,I6,r6,y6,st6,fr6⟩=>?_
     obtain⟨R6,n6,q6⟩:=yl x H6 y6;have I6':=I6.pinned (stat fr6)<|T.obj _ _ st6;have N6:Now B (cxC X (loc++F) scope C P R fp) ([]++QR fp s6.heap) Pk Uk hk W4 H6 s6:=#[I6',R6,N4.st.mono n6];have again:∀{U7:L2.St}{H7:Hp}{s7:Zl}{U7i:ISt}{h7:IH}{W7:Tw},Now B (cxC X (loc++F) scope C P R fp) ([]++QR fp s6.heap) W7 U7i h7 U7 H7 s7->Nxt Pk H6 W7 H7->VF B X use V Pk Z U H4 (JW S.chk g mt me h1.length (S.xs.drop<|k+1) U7i h7) Q E ->
       ∃m,m<S.xs.length-k/\∃k Pk Uk hk U' H',Now B (cxC X (loc++F) scope C P R fp) [] Pk Uk hk U' H' s7/\Nxt (U1++[D]) R Pk H'/\tn k s7.heap/\(∀b∈fp,H' b=Zc)/\m=S.xs.length-k/\k<=S.xs.length/\VF B X use V Pk Z U H' (JW S.chk g mt me h1.length (S.xs.drop k) Uk hk) Q E:=
      λ{U7 H7 s7 U7i h7 W7} N7 n7 K7=>by have nn:Nxt Pk H4 W7 H7:=n6.trans n7;refine#[S.xs.length-(k+1),00,k+1,W7,U7i,h7,U7,H7,N7.pins,n4.trans nn,T.keep _ _ _ st6 λb L o e=>(N7.inv.pin (b,o)<|Zp _<|Zp _<|Y5 L e).1,λb L=>?_,rfl,hlt,K7.mono nn];obtain⟨o,e,d⟩:=T.obj _ _ st6 b L;exact(N7.inv.pin (b,o)<|Zp _<|Zp _<|Y5 L e).2.1
     cases eg:g S.xs[k] Uk hk with
     |next Ug hgg=>
      rw[eg]at I;dsimp only at I;refine hg C P R fp _ s6 W4 H6 Pk Uk hk _ u (λ_ s7=>Zv (Zy X.prog X.w) X.A (forIn ifs Zg λc r=>if r=Zg then do let ok<-isTrue c _ (ZaQ c _);pure (ZaU ok)else pure (ZaU r)) _ _ s7) (λ_ _=>False) N6 #[x,r6,q6] ?_;rw[eg];intro s7 U7 H7 W7 N7 n7;refine ht C P R fp _ s7 U7 H7 W7 Ug hgg _ (λ_ _=>False) N7 ?_;cases et:mt Ug hgg with
      |ok c h8=>
       rw[et]at I;intro d s8 H8 U8 N8 n8 rd;have rd':d=c:=rd;subst rd';cases d with|false=>exact again N8 (n7.trans n8) I|true=>
        dsimp only at I;refine he C P R fp _ s8 U7 H8 U8 Ug h8 _ (λ_ _=>False) N8 ?_;cases ee:me Ug h8 with
        |ok v h9=>
         rw[ee]at I;dsimp only at I;intro w s9 H9 U9 N9 n9 rw9;have hat9:U9[h1.length]?=J D:=(((n4.trans n6).trans n7).trans<|n8.trans n9).at hat;cases hl:h9[h1.length]? with|none=>rw[hl]at I;exact Zf I|some ob=>
          rw[hl]at I;cases ob with
          |lst acc=>
           dsimp only at I;split at I
           .rename_i hz;obtain⟨O,eD,rD⟩:=N9.at hl hat9;obtain⟨wv,rw9,qw⟩:=rw9;have ap:=Jl3 (X:=(cxC X (loc++F) scope C P R fp).wish λ_ _=>False) ([]++QR fp s6.heap) s9 U7 H9 (.ref D) [wv] (.ref D) [w] (λ_ H'=>H'=upd H9 D (.lst<|O++[wv])) (N9.inv.wish _) rfl (.cons rw9 .nil) #[D,O,wv,rfl,rfl,eD,by rw[rD.length];exact hz,rfl];refine Zaf ap (λ_ s10 hq=>?_) λ_ _ z=>z
            obtain⟨z,H10,I10,_,rfl⟩:=hq;have n10:Nxt U9 H9 U9 (upd H9 D<|.lst<|O++[wv]):=#[#[[],03],Ext.upd_mut eD<|by rw[eD];exact Zaq];obtain⟨R10,_⟩:=N9.rel.write (o:=.lst<|O++[wv]) (io:=.lst<|acc++[v]) hat9 eD (by rw[eD];exact Zaq) #[_,J2,(RVs.mono n10 _ _ rD).append<|RVs.one<|RV.mono n10 _ _ qw];exact again #[I10.unwish,R10,N9.st.mono n10] (((n7.trans n8).trans n9).trans n10) I
           .exact Zf I
          |_=>exact Zf I
        |_=>rw[ee]at I;exact Zf I
      |_=>rw[et]at I;exact Zf I
     |_=>rw[eg]at I;exact Zf I
    .exact Zf I
   .have hke:S.xs.drop k=[]:=ZcI 00;rw[hke]at I;unfold JW at I;split at I
    .rename_i hck;have stop:=OK.stop k hk H4 Pk (n2.trans n4) N4.rel hck 00;refine thn (T.done (cxC X (loc++F) scope C P R fp) k s4 W4 H4 (hcc _ _ _ _ _ (n1.trans<|n2.trans n4).ext) N4.inv (stat fr4) st4 stop) λr s5 ⟨hr,I5⟩=>?_
     subst hr;obtain⟨m,hnm,_⟩:=I5.loc
     -- back to the def's own frame
     have hos:s5.os=P.os:=I5.os;obtain⟨hp5,g5,d5,t5,os5⟩:=s5;obtain rfl:os5=P.os:=hos;have J5:Inv X V U H4 {P with heap:=hp5,gens:=g5,drawn:=d5,toks:=t5}:=I2.call (ch:=fp) I5.base I5.hok I5.bare λb L=>#[(f2 b L).2.2.2.1,(f2 b L).2.1,(f2 b L).2.2.2.2.1,(f2 b L).2.2.2.2.2]
     have fC:FpOk X V H4 C:=I2.fpOk (ZcF hC) I5.free;exact I D C m _ H4 Pk #[J5,N4.rel,(N2.st.mono n4)] .refl #[.ref D,rfl,D,rfl,n4.at hat] hnm fC
    .exact Zf I
  exact codeAny_compStart_list loop<|T.self X.A 0 _ _ _ st3 loop
theorem Now.letgo{V:PnT}{Y:Tw}{Z:ISt}{h:IH}{U:L2.St}{H:Hp}{s:Zl}{C:Zm}{h':Zam}(N:Now B X V Y Z h U H s)(j:FpOk X V H C)(k:Zbo C s.heap h'):Now B X V Y Z h U H {s with heap:=h'}:=
 #[N.inv.turned (λb o m q=>(k.2 b m).trans q) j.1 j.2.1 j.2.2.2.1 j.2.2.2.2.1 j.2.2.2.2.2,N.rel,N.st]
theorem Jxs{R loc j:Tl}{js:Tr}{sc₀ scope:Zbm}{tg k u:Expr}{F:Tf}{g:G1}{I:T1}{me:E1}{pos:Pos}(hc:X.calm=Zg)(hi:PIi B X tg k mi) (hg:∀C s H fp,PGi B (cxC X (loc++j) scope C s H fp) tg g)(W:∀C s H fp,PTsi B (cxC X (loc++j) scope C s H fp) F I)(he:∀C s H fp,PEi B (cxC X (loc++j) scope C s H fp) u me) (ok:QM R loc j js sc₀ scope=Zg)(O:X.N=R:=by rfl)(G:X.env.scope=sc₀:=by rfl)(hs:∀x,Zcd k X.env x=pure x:=by intro _;rfl):PEi B X (.ListComp u [#[tg,k,F,0]] scope pos) (J1 mi loc.length js g I me):=by intro V s U H Y Z h Q E N K;refine Jlf hi.c hg W he ok O G hs (λ_ _ _ _ _ _=>#[rfl,rfl,rfl,hc]) N ?_;cases P:J1 mi loc.length js g I me Z h with|exc n h'=>rw[P]at K;exact K|stuck=>rw[P]at K;exact K|ok v h'=>rw[P]at K;exact λD C m s' H' Y' N' S r M fC=>#[m,M,λL sb=>K _ _ H' Y' (N'.letgo fC sb) S r]
theorem Jx5{N0 loc k:Tl}{js:Tr}{sc₀ scope:Zbm}{tg j G:Expr}{M:Tf}{g:G1}{mt:T1}{me:E1}{pos u F:Pos}{i:Nat}{x:Str}(hc:X.calm=Zg)(hi:PIi B X tg j mi) (hg:∀C s H fp,PGi B (cxC X (loc++k) scope C s H fp) tg g)(ht:∀C s H fp,PTsi B (cxC X (loc++k) scope C s H fp) M mt)(he:∀C s H fp,PEi B (cxC X (loc++k) scope C s H fp) G me) (ok:QM N0 loc k js sc₀ scope=Zg)(hN0:X.N=N0:=by rfl)(hsc:X.env.scope=sc₀:=by rfl)(hs:∀x,Zcd j X.env x=pure x) (hN:X.N.Nodup)(hix:X.N[i]?=J x)(hlx:Loc X.env.scope x)(hf:X.fn x=Zg\/X.env.scope.names.lookup x=J .local) (hsw:ZcT (.ListComp G [#[tg,j,M,0]] scope pos) (J<|.Name x u) F.line X.env=pure Zg):PS1 B X (.Assign [.Name x u] (.ListComp G [#[tg,j,M,0]] scope pos) F) (Jh i<|J1 mi loc.length js g mt me):=by
 intro V s U H Y Z h Q E N K;rw[exec_Assign_Name_used _ _ _ _ hsw];refine Zb<|ZaS<|Zb ?_;refine Zb ?_;refine Jlf hi.c hg ht he ok hN0 hsc hs (λ_ _ _ _ _ _=>#[rfl,rfl,rfl,hc]) N ?_;unfold Jh at K;cases e0:J1 mi loc.length js g mt me Z h with|exc n h'=>rw[e0]at K;exact λpl a O R Y' P n' q=>K pl a O U R Y' P n' q O<|.inl rfl|stuck=>rw[e0]at K;exact K|ok v h'=>
  rw[e0]at K;intro D C m O R Y' P n' r hns fC;obtain⟨w,rw',q⟩:=r;obtain⟨oC,es,ep,S,W,I⟩:=id hns;have hp:Inv X (V++QR [C] O.heap) U R O:=P.inv.pinned (λb hb=>(show b=C by simpa using hb)▸fC) (λb hb=>by
   have e:b=C:=by simpa using hb
   subst e;exact#[oC,S,λv z=>by rw[W]at z;cases z])
  refine wpAny_assign_Name<|YF hp hN hix hlx rw' (λs2 I2=>?_) hf;have hC2:=(I2.pin (C,oC)<|Zp _<|Zp _<|Y5 03 S).1;refine#[m,#[oC,es,ep,hC2,W,I],λL sb=>Zk ?_];have N2:Now B X V Y' (Z.set i<|J v) h' (U.set i<|J w) R s2:=#[I2.unpinned,P.rel,P.st.set i q];exact Zk<|K _ _ R Y' (N2.letgo fC sb) n'
noncomputable def V7 (x:Str):Tx:=x.cps.toList.map λc=>.str ⟨#[c]⟩
def Its(x:Str):It:=#[λi _=>i<x.cps.size,λi H y H'=>H'=H/\∃c,x.cps[i]?=J c/\y=.str ⟨#[c]⟩,λi _=>x.cps.size<=i]
theorem Jpg{P:Z7}{w:ZU}{K:W.Frag}{tg:Expr}{x:Str}{t:Tok}(it:Zm)(hty:["enumerate","zip","dict_itemiterator","dict_reverseitemiterator","odict_iterator","itertools.zip_longest","itertools.pairwise"].contains ty=Zi) (W:∀A:ZI,A.handled=Zc->Walks P w A it [it] [it] x.cps.size (SignAt x) (λi h=>h.IsStrIter it ty x t i)) (We:∀(A:ZI)(E:QvT)(s:Zl)(i:Nat)(Q:Tc->Zl->Prop),A.handled=Zc->s.heap.IsStrIter it ty x t i->x.cps[i]?=Zc->(∀h',ZcC it s.heap h'->Q Zc {s with heap:=h'})->Zv (Zy P w) A (Zdu<|.ref it) Q E s) (Ws:∀(A:ZI)(E:QvT)(s:Zl)(i:Nat)(Q:QvT),s.heap.IsStrIter it ty x t i->Q (.ref it) s->Zv (Zy P w) A (Zdv<|.ref it) Q E s):Turn P w K tg (Its x) [it] it (λi h=>h.IsStrIter it ty x t i) where
 mem:=03
 obj:=λi h st b j=>by
  have e:b=it:=by simpa using j
  subst e;obtain⟨o,e,c,d⟩:=st;exact#[o,e,λv z=>by rw[d]at z;cases z]
 keep:=λi h h' st k=>by obtain⟨o,e,r⟩:=st;exact#[o,k it 03 o e,r]
 item:=by
  intro X Y O S G i V s U H E I B st R;subst Y O S;obtain⟨D,L,f2,C,F,M⟩:=B it 03;refine(W X.A<|I.ok.hd G).item i s _ _ R st λv h' tk hv m kk=>?_
  obtain⟨c,u,Z,rfl⟩:=hv;have I1:Inv X V U H {s with heap:=h',toks:=tk}:=I.turned (λb o j e=>kk b o (by simpa using j) e) D L C F M;obtain⟨o,e,c1,d1⟩:=id m;exact#[_,rfl,Jva e c1 d1 hty #[.str ⟨#[c]⟩,H,I1,#[u,rfl],#[rfl,c,Z,rfl],m,λb j=>(B b j).1]]
 done:=by
  intro X Y O S G i V s U H E I B st R;subst Y O S;obtain⟨D,L,f2,C,F,M⟩:=B it 03;have hi:x.cps.size<=i:=R;have hx:x.cps[i]?=Zc:=by simp[hi]
  exact We X.A _ s i _ (I.ok.hd G) st hx λh' eb=>#[rfl,I.turned (λb o j e=>eb b o j e) D L C F M]
 self:=λA i s Q E st h=>Ws A E s i Q st h
def Jz3:IV->IH->Res ItI|.str x,h=>.ok #[V7 x,λ_=>True] h|_,_=>.stuck
def iStr(e:E1):I1:=λU h=>(e U h).bind Jz3
theorem Jxu{x:Str}{Y:Tw}{H₀:Hp}:ItOk B X.K Y H₀ (Its x) #[V7 x,λ_=>True]:=by
 refine#[λk v h H m hp R j hx=>?_,λk h H m hp R j hx=>?_]
 .have C:k<x.cps.size:=by have:=(Zo.mp hx).1;simpa[V7]using this
  refine#[C,λy E D=>?_];obtain⟨rfl,c,u,rfl⟩:=D;simp only[V7,Z4,ZbY,u]at hx;cases hx;exact#[R,.refl,rfl]
 .have:(V7 x).length=x.cps.size:=by simp[V7]
  show x.cps.size<=k;rw[<-this];exact hx
theorem Jp3{tg l:Expr}{L:E1}(R:PEi B X l L):PIi B X tg l (iStr L):=by
 intro V s U H Y Z h Q E N K;refine R V s U H Y Z h _ E N ?_;unfold iStr at K;cases F:L Z h with|exc n O=>rw[F]at K;exact K|stuck=>rw[F]at K;exact K|ok v O=>
  rw[F]at K;intro u m G M j n1 S;obtain⟨w,D,q⟩:=S;have fresh:∀b∈[m.heap.objs.size],FpOk X V G b:=λb P=>by
   have e:b=m.heap.objs.size:=by simpa using P
   subst e;exact j.inv.fpOk (Zq _)<|j.inv.hok.fresh<|Zq _
  cases v with
  |str x=>have W:=q;subst W;obtain⟨t,rfl⟩:=D;cases ha:x.cps.all (· < 128)with|true=>refine wpAny_pyIter_ascii ha<|K _ _ G M #[j.inv.kept λb o e=>Ze _ e,j.rel,j.st] n1 ?_;exact#[m.heap.objs.size,[m.heap.objs.size],_,Its x,rfl,Jpg _ 01 (λA k=>Walks.strAscii k _ x t) (λA E s i Q k st hx C=>wpAny_pyNext_ascii_end k st hx C) λA E s i Q st I=>wpAny_pyIter_striter_ascii st I,#[_,Zs _ rfl,rfl,rfl],fresh,Jxu]|false=>refine wpAny_pyIter_wide ha<|K _ _ G M #[j.inv.kept λb o e=>Ze _ e,j.rel,j.st] n1 ?_;exact#[m.heap.objs.size,[m.heap.objs.size],_,Its x,rfl,Jpg _ 01 (λA k=>Walks.strWide k _ x t) (λA E s i Q k st hx C=>wpAny_pyNext_wide_end k st hx C) λA E s i Q st I=>wpAny_pyIter_striter_wide st I,#[_,Zs _ rfl,rfl,rfl],fresh,Jxu]
  |_=>simp only[Res.bind,Jz3]at K
def Ite(K:W.Frag)(a:Zm):It:=#[λi H=>∃xs x,SqL K H a xs/\xs[i]?=J x,λi H y H'=>∃p x,H p=Zc/\y=.ref p/\H'=upd H p (.tup [.int (i:Int),x])/\∀xs,SqL K H a xs->xs[i]?=J x,λi H=>∃xs,SqL K H a xs/\xs.length<=i]
theorem Jt4{P:Z7}{w:ZU}{K:W.Frag}{es:Tf}{k:Nat}{p:Pos}(a it e:Zm)(O:e≠it):Turn P w K (.Tuple es k p) (Ite K a) [e,it] e (λi h=>(∃old,IsEnum h e it (i:Int) old)/\h.IsListIter it a i) where
 mem:=03
 obj:=λi h st b B=>by
  obtain⟨⟨old,C⟩,o,e1,c,d⟩:=st;simp at B;rcases B with rfl|rfl
  .exact#[_,C,λv z=>by have z':=z;cases z']
  .exact#[o,e1,λv z=>by rw[d]at z;cases z]
 keep:=λi h h' st k=>#[let ⟨old,C⟩:=st.1;#[old,k e 03 _ C],st.2.at λo e=>k it 03 o e]
 item:=by
  intro X hP Z hK j i V s U H E I R st hg;subst hP Z hK;obtain⟨⟨old,C⟩,hit⟩:=st;obtain⟨xs,x,S,hx⟩:=hg;obtain⟨its,Y,pl,hz⟩:=I.list S;obtain⟨u,hu,ru⟩:=Y.get hx;have G:=R e 03;have F:=R it 03;have hn:=I.hok.fresh<|Zq _;refine wpAny_pyNext_enum_item C hit pl.isList (by simpa using hu) O λh' he' M ht hsz kk=>?_
  refine#[_,rfl,wpAny_letOwnedTupleGo_enum he' λL he2 sb=>?_];have ltE:=Zu C;have neT:=ZaT ltE;have Q:=λb o h1 h3 q=>(sb.2 b h1).trans<|kk b o h1 h3 q
  have hl2:L.IsListIter it a (i+1):=by obtain⟨o,q,r⟩:=M;exact#[o,(sb.2 it<|ZP O).trans q,r]
  have t2:=(sb.2 _ neT).trans ht
  -- the two records turn,then the tuple is tracked
  obtain⟨oe,hoe⟩:∃o,s.heap.get? e=J o:=#[_,C];obtain⟨oi,hoi,_⟩:=id hit;have D:∀b u,H b=J u->b≠s.heap.objs.size:=λb u q=>Vr q hn
  have I1:Inv X V U (upd H s.heap.objs.size<|.tup [.int (i:Int),x]) {s with heap:=L,toks:=s.toks+1}:=by
   refine I.step (ch:=[e,it]) (λb B=>?_) (λb o _ _ j q _=>Q b o (λz=>j<|by simp[z]) (λz=>j<|by simp[z]) q) (λb o _ _ j q _=>#[o.slots,Q b o (λz=>j<|by simp[z]) (λz=>j<|by simp[z]) q]) (λb o _ q n=>?_)
    (λb o j q=>#[o,Q b o (λz=>j<|by simp[z]) (λz=>j<|by simp[z]) q]) (λb xs q=>by rw[Jo<|D b _ q];exact q) (λb o u q=>by rw[Jo<|D b _ q];exact q) (λb ps q=>#[#[],by rw[Jo<|D b _ q,q];simp]) (λm hm=>?_) (λb u q=>?_) I.bare
   .simp at B;rcases B with rfl|rfl
    .exact#[G.2.2.2.1,G.2.1,G.2.2.2.2.1,G.2.2.2.2.2]
    .exact#[F.2.2.2.1,F.2.1,F.2.2.2.2.1,F.2.2.2.2.2]
   .rw[Jo<|Z1<|Zu q];exact n
   .obtain⟨o,es,ep,ho,r⟩:=hm;exact#[o,es,ep,Q _ o (ZP G.2.1) (ZP F.2.1) ho,r]
   .by_cases B:b=s.heap.objs.size
    .subst B;rw[J2]at q;cases q;exact#[by show 2<=sizeLine;decide,[.int i s.toks,u],.cons #[_,rfl]<|.cons ru .nil,#[_,t2,rfl,_,rfl]]
    .rw[Jo B]at q;have n1:b≠e:=λz=>by rw[z,G.1]at q;cases q
     have n2:b≠it:=λz=>by rw[z,F.1]at q;cases q
     refine(I.hok b u q).stay (λc v j r=>Q c v ?_ ?_ r) (λc q=>by rw[Jo<|D c _ q];exact q) λc ys q=>by rw[Jo<|D c _ q];exact q
     .rcases j with z|z
      .rw[z];exact n1
      .intro y;rw[y,G.1]at z;cases z
     .rcases j with z|z
      .rw[z];exact n2
      .intro y;rw[y,F.1]at z;cases z
  refine#[.ref s.heap.objs.size,_,I1,rfl,#[s.heap.objs.size,x,hn,rfl,rfl,λys hy=>by rw[I.list_inj hy S];exact hx],#[#[_,he2],hl2],λb B=>?_];simp at B;rcases B with rfl|rfl
  .rw[Jo<|Z1 ltE];exact G.1
  .rw[Jo<|Z1<|Zu hoi];exact F.1
 done:=by intro X hP Z hK j i V s U H E I R st hg;subst hP Z hK;obtain⟨⟨old,C⟩,hit⟩:=st;obtain⟨xs,S,hx⟩:=hg;obtain⟨its,Y,p,hz⟩:=I.list S;obtain⟨f0,f1,f2,f3,f4,f5⟩:=R it 03;have hl:=Y.length;exact wpAny_pyNext_enum_end (I.ok.hd j) C hit p.isList (by simp;lia) λh' eb=>#[rfl,I.turned (λb o B e=>eb b o B e) f0 f1 f3 f4 f5]
 self:=λ_ _ _ _ _ st h=>let ⟨_,C⟩:=st.1;wpAny_pyIter_enum C h
noncomputable def Q3 (n:Nat):Tx->Tx|[]=>[]|x::xs=>.tup [.int n,x]::Q3 (n+1) xs
theorem Jez:∀(xs:Tx)(n k:Nat),(Q3 n xs)[k]?=(xs[k]?).map λx=>.tup [.int ((n+k:Nat):Int),x]|[],_,_=>by simp[Q3]|x::xs,n,0=>by simp[Q3]|x::xs,n,k+1=>by simp only[Q3,List.getElem?_cons_succ];rw[Jez xs (n+1) k];have:n+1+k=n+(k+1):=05;rw[this]
theorem VL:∀(xs:Tx)(n:Nat),(Q3 n xs).length=xs.length|[],_=>rfl|_::xs,n=>by simp[Q3,VL xs]
def QV:Tx->IH->Res ItI
 |[.ref i],h=>match h[i]? with
  |some (.lst xs)=>.ok #[Q3 0 xs,λh'=>h'[i]?=J (.lst xs)] h
  |_=>.stuck
 |_,_=>.stuck
theorem J3f{i:Nat}{Y:Tw}(ha:Y[i]?=J a):ItOk B X.K Y H₀ (Ite X.K a) #[Q3 0 xs,λh'=>h'[i]?=J (.lst xs)]:=by
 refine#[λk v h H M hp R j hx=>?_,λk h H M hp R j hx=>?_]
 .obtain⟨O,C,D⟩:=R.get j<|hp.at ha;have m:=hx;rw[Jez]at m;obtain⟨x,F,rfl⟩:=Z3.mp m;obtain⟨u,L,P⟩:=D.get F;refine#[#[O,u,SqL.of C,L],λy U G=>?_];obtain⟨p,S,E,rfl,rfl,G⟩:=G;have:=G O<|SqL.of C;rw[L]at this;cases this;obtain⟨Q,I⟩:=R.grow E;refine#[Q,I,p,_,rfl,SqT.of J2,#[_,_,rfl,?_,_,_,rfl,RV.mono I _ _ P,rfl]];show hV.int (k:Int)=hV.int ((0+k:Nat):Int);simp
 .obtain⟨O,C,D⟩:=R.get j<|hp.at ha;exact#[O,SqL.of C,by rw[D.length,<-VL xs 0];exact hx]
theorem J20{es:Tf}{P:Nat}{R:Pos}{a:Expr}{ma:A1}{p pos:Pos}(hg:Gl X "enumerate")(hm:X.mg "enumerate"=Zc)(ha:PAi B X [a] ma)(hs:Z9 [a] X.env=[(Zi,ZaQ a X.env)]:=by rfl):PIi B X (.Tuple es P R) (.Call (.Name "enumerate" p) [a] [] pos) (iRg QV ma):=by
 intro V s U H Y Z h Q E N K;refine Call_<|Qt N.inv hg hm boot_enumerate<|ZaD ?_ hs rfl;refine ha pos V s U H Y Z h _ E N ?_;unfold iRg at K;cases C:ma Z h with|exc n D=>rw[C]at K;exact K|stuck=>rw[C]at K;exact K|ok O D=>
  rw[C]at K;intro us k H1 U1 j n1 r1;obtain⟨xs,rv,qs⟩:=r1;cases O with|nil=>exact(K).elim|cons x t=>
   cases x with
   |ref i=>
    cases t with|cons _ _=>exact(K).elim|nil=>
     obtain⟨w,e1,q⟩:=qs.one_of;subst e1;obtain⟨b,S,G⟩:=q;subst S;obtain⟨u,rfl,ru⟩:=Qq rv;cases ru;cases m:D[i]? with|none=>simp only[Res.bind,QV,m]at K|some M=>
      cases M with
      |lst ys=>
       simp only[Res.bind,QV,m]at K;obtain⟨ws,eH,rH⟩:=j.at m G;obtain⟨z,its,n,r,hl,eo⟩:=j.inv.lstM eH;refine call_enumerate_1 eo λL I hit W kp=>?_
       refine wpAny_pyIter_enum I<|K _ _ H1 U1 #[j.inv.kept kp,j.rel,j.st] n1 ?_;refine#[k.heap.objs.size+1,[k.heap.objs.size+1,k.heap.objs.size],_,Ite X.K b,rfl,Jt4 b k.heap.objs.size (k.heap.objs.size+1)<|ZaT<|Zau _,#[#[_,I],hit],λc F=>?_,J3f G];simp at F;rcases F with rfl|rfl
       .exact j.inv.fpOk (Zay _)<|j.inv.hok.fresh<|Zay _
       .exact j.inv.fpOk (Zq _)<|j.inv.hok.fresh<|Zq _
      |_=>simp only[Res.bind,QV,m]at K
   |_=>exact(K).elim
end
noncomputable def Jz2:IV->IH->Res ItI|.str x,h=>Jz3 (.str x) h|v,h=>itOf v h
def Jv(e:E1):I1:=λU h=>(e U h).bind Jz2
theorem Jvg{B:CeT}{X:Cx}{tg l:Expr}{m:E1}(j:PEi B X l m):PIi B X tg l (Jv m):=by
 intro V s U H Y Z h Q E N K;cases k:m Z h with
 |ok v u=>cases v with|str x=>exact Jp3 j V s U H Y Z h Q E N<|by unfold iStr;unfold Jv at K;rw[k]at K ⊢;exact K|_=>exact Jsh (tg:=tg) j V s U H Y Z h Q E N<|by unfold iVal;unfold Jv at K;rw[k]at K ⊢;exact K
 |exc n u=>exact Jsh (tg:=tg) j V s U H Y Z h Q E N<|by unfold iVal;unfold Jv at K;rw[k]at K ⊢;exact K
 |stuck=>exact Jsh (tg:=tg) j V s U H Y Z h Q E N<|by unfold iVal;unfold Jv at K;rw[k]at K ⊢;exact K
section
variable{B:CeT}{X:Cx}
theorem x_sl:SlI B X slI:=by
 intro V s U H Y Z h x v R W u D S Q E N m C pl F K;obtain⟨P,m,G⟩:=m;cases x with
 |ref i=>
  obtain⟨a,k,ha⟩:=G;subst k;dsimp only[slI]at K;cases j:h[i]? with|none=>rw[j]at K;exact(K).elim|some L=>rw[j]at K;cases L with|lst xs=>obtain⟨O,k,M⟩:=N.at j ha;exact Jyi (Jtv) N.inv m C pl F #[a,O,rfl,SqL.of k,λp hp=>finA N K p hp #[_,J2,RVs.new hp<|M.cut u D]]|_=>exact(K).elim
 |rol xs=>obtain⟨a,O,k,sa,I⟩:=G;subst k;exact Jyi (Jtv) N.inv m C pl F #[a,O,rfl,sa.sq,λp hp=>finA N K p hp #[_,J2,RVs.new hp<|I.cut u D]]
 |_=>exact(K).elim
noncomputable def QD:IV->IH->Res IV
 |.ref i,h=>match h[i]? with
  |some (.lst xs)=>.ok (.ref h.length)<|h++[.lst xs]
  |_=>.stuck
 |.rol xs,h=>.ok (.ref h.length)<|h++[.lst xs]
 |.tup xs,h=>.ok (.ref h.length)<|h++[.lst xs]
 |_,_=>.stuck
theorem J2e:Ql B X (.type "list") (on1 QD):=Vf λV s U H Y Z h x I u Q E N D C K=>by
 cases x with
 |ref i=>
  obtain⟨a,j,ha⟩:=C;subst j;dsimp only[QD]at K;cases m:h[i]? with|none=>rw[m]at K;exact(K).elim|some F=>rw[m]at K;cases F with|lst xs=>obtain⟨O,j,G⟩:=N.at m ha;exact QG (Jcw) N.inv (.cons D .nil) #[a,O,rfl,.inl<|SqL.of j,λp hp=>finA N K p hp #[_,J2,RVs.new hp G]]|_=>exact(K).elim
 |rol xs=>obtain⟨a,O,j,sa,k⟩:=C;subst j;exact QG (Jcw) N.inv (.cons D .nil) #[a,O,rfl,.inl sa.sq,λp hp=>finA N K p hp #[_,J2,RVs.new hp k]]
 |tup xs=>obtain⟨a,O,j,sa,k⟩:=C;subst j;exact QG (Jcw) N.inv (.cons D .nil) #[a,O,rfl,.inr sa,λp hp=>finA N K p hp #[_,J2,RVs.new hp k]]
 |_=>exact(K).elim
noncomputable def VZ:IV->IH->Res IV
 |.ref i,h=>match h[i]? with
  |some (.lst xs)=>.ok (.tup xs) h
  |_=>.stuck
 |.tup xs,h=>.ok (.tup xs) h
 |_,_=>.stuck
theorem Jyz:Ql B X (.type "tuple") (on1 VZ):=Vf λV s U H Y Z h x L u Q E N D C K=>by
 cases x with
 |ref i=>
  obtain⟨a,j,ha⟩:=C;subst j;dsimp only[VZ]at K;cases k:h[i]? with|none=>rw[k]at K;exact(K).elim|some F=>rw[k]at K;cases F with|lst xs=>obtain⟨O,j,G⟩:=N.at k ha;exact QG (Jeq) N.inv (.cons D .nil) #[a,O,rfl,.inl #[SqL.of j,λp hp=>finT N K p hp G]]|_=>exact(K).elim
 |tup xs=>have m:=C;obtain⟨a,O,j,sa,I⟩:=C;subst j;exact QG (Jeq) N.inv (.cons D .nil) #[a,O,rfl,.inr #[sa,fin0 N K m]]
 |_=>exact(K).elim
noncomputable def intI:IV->IH->Res IV|.int i,h=>.ok (.int i) h|.bl b,h=>.ok (.int (if b then 1 else 0)) h|_,_=>.stuck
theorem VH:Ql B X (.type "int") (on1 intI):=Vf λV s U H Y Z h x m u Q E N k j K=>by cases x with|int i=>have e:=j;subst e;exact QG (Jlb) N.inv (.cons k .nil)<|.inl #[i,rfl,fin0 N K rfl]|bl b=>have e:=j;subst e;exact QG (Jlb) N.inv (.cons k .nil)<|.inr #[b,rfl,fin0 N K rfl]|_=>exact(K).elim
noncomputable def X6:Tx->Option (List Bool)|[]=>J []|.bl b::r=>(X6 r).map (b:: ·)|_::_=>Zc
noncomputable def allI:IV->IH->Res IV
 |.ref i,h=>match h[i]? with
  |some (.lst xs)=>(match X6 xs with
   |some bs=>.ok (.bl<|bs.all id) h
   |none=>.stuck)
  |_=>.stuck
 |_,_=>.stuck
theorem Jof{K:W.Frag}{Y:Tw}{H:Hp}:∀{xs:Tx}{bs:List Bool}{O:Ud}{us:Tv},X6 xs=J bs->RVs K Y H xs O->Vals O us->us=bs.map Zds
 |[],bs,O,us,e,q,r=>by cases e;have j:=q;subst j;cases r;rfl
 |x::xs,bs,O,us,e,q,r=>by
  obtain⟨v,D,j,B,C⟩:=q;subst j;cases r with
  |cons u m=>
   cases x with
   |bl b=>obtain⟨E,k,rfl⟩:=Z3.mp<|e;cases (B);cases u;rw[Jof k C m];rfl
   |_=>cases e
theorem Jqz(bs:List Bool):((ZR bs.length).all λi=>bs.getD i Zg)=bs.all id:=by
 induction bs with
 |nil=>rfl
 |cons b r j=>
  rw[Zar,List.range_succ_eq_map,Zap,List.all_map];have e:((ZR r.length).all<|(λi=>(b::r).getD i Zg)∘Nat.succ)=(ZR r.length).all λi=>r.getD i Zg:=by congr 1
  rw[e,j];rfl
theorem J6a(L:X.A.handled=Zc):Ql B X (.builtin "all") (on1 allI):=Vf λV s U H Y Z h x xv u Q E N ru qx K=>by
 cases x with
 |ref i=>
  obtain⟨a,k,ha⟩:=qx;subst k;cases ru;dsimp only[allI]at K;cases m:h[i]? with|none=>rw[m]at K;exact(K).elim|some I=>
   rw[m]at K;cases I with
   |lst xs=>
    dsimp only at K;cases j:X6 xs with|none=>rw[j]at K;exact(K).elim|some bs=>
     rw[j]at K;obtain⟨O,k,R⟩:=N.at m ha;obtain⟨S,P,pl,hz⟩:=N.inv.list<|SqL.of k;have eu:=Jof j R P;subst eu;refine call_all_walk<|ZaO pl.isList ?_;have C:a<s.heap.objs.size:=by obtain⟨o,_,D,_⟩:=pl;exact Zu D
     have ne:=Z1 C;refine#[s.heap.objs.size,_,_,_,_,_,λi=>bs.getD i Zg,rfl,Zc6 (A:=X.A.in1) L s.heap.objs.size a ne (bs.map Zds).toArray,#[#[_,Zs _ rfl,rfl,rfl],?_],?_,λh' tk kk=>?_]
     .obtain⟨o,n,D,M,_,hd⟩:=pl;exact#[o,Ze _ D,M,n,hd]
     .intro i v s' Q' E' G W;simp only[Zez,Z4]at G;obtain⟨b,F,rfl⟩:=Z3.mp G;refine Zbq ?_;have:bs.getD i Zg=b:=by simp[F]
      rw[<-this];exact W
     .rw[show(bs.map Zds).toArray.size=bs.length by simp,Jqz];have I1:Inv X V U H {s with heap:=s.heap.push {cls:=.type "list_iterator",data:=.fields (ZaE [.ref a,.int 0 0])} }:=N.inv.kept λb o e=>Ze _ e
      have f:=N.inv.fpOk (Zq _)<|N.inv.hok.fresh<|Zq _;exact fin0 N K rfl _ _ (I1.turned (λb o j e=>kk b o (by simpa using j) e) f.1 f.2.1 f.2.2.2.1 f.2.2.2.2.1 f.2.2.2.2.2) rfl
   |_=>exact(K).elim
 |_=>exact(K).elim
def MtI(B:CeT)(X:Cx)(T id:String)(g:IV->Tx->IH->Res IV):Prop:=
 ∀(V:PnT)(s:Zl)(U:L2.St)(H:Hp)(Y:Tw)(Z:ISt)(h:IH)(x:IV)(xs:Tx)(v:Zh)(us:Tv)(Q:QvT)(E:QvT),Now B X V Y Z h U H s->RU X.K Y H x v->RUs X.K Y H xs us ->
  Kont B X RU V Y Z U H (g x xs h) Q E->Zv (Zy X.prog X.w) X.A (call (.builtin id)<|v::us) Q E s
noncomputable def tyOk (T:String):IV->IH->Bool
 |.str _,_=>T=="str"
 |.int _,_=>T=="int"
 |.ref i,h=>match h[i]? with
  |some (.lst _)=>T=="list"
  |some (.dct _)=>T=="dict"
  |_=>Zi
 |.rol _,_=>T=="list"
 |_,_=>Zi
def eBm(T:String)(g:IV->Tx->IH->Res IV)(o:E1)(a:A1):E1:=λU h=>(o U h).bind λx h1=>if tyOk T x h1=Zg then(a U h1).bind λxs L=>g x xs L else .stuck
theorem Jye(N:Now B X V Y Z h U H s)(q:RV X.K Y H x xv)(e:tyOk T x h=Zg):tyV X.K T xv H:=by
 cases x with
 |str y=>cases (q);exact beq_iff_eq.mp e
 |int y=>cases (q);exact beq_iff_eq.mp e
 |rol y=>obtain⟨a,O,rfl,sa,_⟩:=q;exact .inl #[beq_iff_eq.mp e,O,sa.sq]
 |ref i=>
  obtain⟨a,rfl,ha⟩:=q;cases j:h[i]? with|none=>simp[tyOk,j]at e|some m=>cases m with|lst xs=>simp only[tyOk,j]at e;obtain⟨O,k,_⟩:=N.at j ha;exact .inl #[beq_iff_eq.mp e,O,SqL.of k]|dct u=>simp only[tyOk,j]at e;obtain⟨O,k,_⟩:=N.at j ha;exact .inr<|.inr<|.inl #[beq_iff_eq.mp e,.inl #[O,k]]|_=>simp[tyOk,j]at e
 |_=>simp[tyOk]at e
variable{o a:Expr}{es:Tf}{mo:E1}{ma:A1}{name:Str}{apos cpos:Pos}{T id:String}{g:IV->Tx->IH->Res IV}
theorem i_bm(pa:PlainAttrs T)(slot:Slot T name id)(F:Zej (.builtin id)=pure (.type "method_descriptor"))(hm:MtI B X T id g)(ho:PEi B X o mo)(ha:PAi B X (a::es) ma)
  (hbase:Zcq o name X.env (ZaQ o X.env)=ZaQ o X.env:=by rfl)
  (k:((Zbh cpos<|Z9 (a::es) X.env).all (λx=>!x.1)&&(Zdy cpos<|Zci [] X.env).all (λx=>x.1.isSome)
   && decide ((a::es).length+([]:Tp).length+(if ([]:Tp).isEmpty then 0 else 1)<30))=Zg:=by rfl)
  (hline:(apos.endLine==cpos.line)=Zg:=by rfl) (hs:Z9 (a::es) X.env=(Zi,ZaQ a X.env)::Z9 es X.env:=by rfl) (hplain:(Zbh cpos<|Z9 es X.env).any (·.1)=Zi:=by rfl):
  PEi B X (.Call (.Attribute o name apos) (a::es) [] cpos) (eBm T g mo ma):=by
 intro V s U H Y Z h Q E N K;refine wpAny_Call_method_late hbase k hline rfl (ho.run N K λx W v s1 H1 U1 u n1 r1 m=>?_);by_cases j:tyOk T x W=Zg
 .rw[if_pos j]at m;obtain⟨S,G,M⟩:=r1;obtain⟨C,D⟩:=Jyf u.inv G<|Jye u M j;refine#[T,id,pa,slot,F,C,D,?_];have I:=(ha cpos).run u m λxs L us P R U2 O n2 r2 K2=>hm V P U R U2 Z L x xs v us Q E O #[S,G,RV.mono n2 _ _ M] r2 K2
  rw[hs]at I ⊢;exact Zek (by simp_all)<|Calls.evalArgs_plain I
 .rw[if_neg j]at m;exact(m).elim
theorem J6s(R:PlainAttrs T)(slot:Slot T name id)(D:Zej (.builtin id)=pure (.type "method_descriptor"))(hm:MtI B X T id g)(S:PEi B X o mo)
  (hbase:Zcq o name X.env (ZaQ o X.env)=ZaQ o X.env:=by rfl)(hline:(apos.endLine==cpos.line)=Zg:=by rfl):PEi B X (.Call (.Attribute o name apos) [] [] cpos) (eBm T g mo Je):=by
 intro V s U H Y Z h Q E N K;refine wpAny_Call_method0_late hbase hline<|S.run N K λx G v W M O u n1 L k=>?_
 by_cases j:tyOk T x G=Zg
 .rw[if_pos j]at k;obtain⟨P,F,I⟩:=L;obtain⟨m,C⟩:=Jyf u.inv F<|Jye u I j;exact#[T,id,R,slot,D,m,C,Zek rfl (PySem.evalArgs_none<|hm V W U M O Z G x [] v [] Q E u #[P,F,I] .nil k)]
 .rw[if_neg j]at k;exact(k).elim
theorem Jyh{V:PnT}{s:Zl}{U:L2.St}{H:Hp}{Q E:QvT}{r:hV->Ud->Hp->VK->Prop}{x:hV}{xs:Ud}{v:Zh}{us:Tv}(p:MtM (X.wish E) id r)(I:Inv X V U H s)(m:RelV x v)(rs:Vals xs us) (k:r x xs H λz H'=>∀u s',Inv X V U H' s'->RelV z u->Q u s'):Zv (Zy X.prog X.w) X.A (call (.builtin id)<|v::us) Q E s:=Zaf (p V s U H x xs v us _ (I.wish E) m rs k) (λu s' ⟨_,_,j,r,q⟩=>q u s' j.unwish r) λ_ _ z=>z
theorem finW{b:Zm}{O ws:Ud}{w:hV}(N:Now B X V Y Z h U H s)(K:Kont B X RU V Y Z U H (.ok v<|h.set i<|.lst ys) Q E) (k:Y[i]?=J b)(j:H b=J (.lst O))(r:RVs X.K Y H ys ws)(q:RV X.K Y H v w):∀u s',Inv X V U (upd H b<|.lst ws) s'->RelV w u->Q u s':=λu s' I m=>by have n:Nxt Y H Y (upd H b<|.lst ws):=#[#[[],03],Ext.upd_mut j<|by rw[j];exact Zaq];obtain⟨R,_⟩:=N.rel.write (io:=.lst ys) k j (by rw[j];exact Zaq) #[_,J2,RVs.mono n _ _ r];exact K u s' _ Y #[I,R,N.st.mono n] n #[w,m,RV.mono n _ _ q]
noncomputable def Xh:IV->Tx->IH->Res IV
 |.ref i,[y],h=>match h[i]? with
  |some (.lst xs)=>if xs.length<sizeLine then .ok .non (h.set i<|.lst<|xs++[y])else .stuck
  |_=>.stuck
 |_,_,_=>.stuck
theorem Jvz:MtI B X "list" "list.append" Xh:=by
 intro V s U H Y Z h x xs v S Q E N j F K;obtain⟨R,j,P⟩:=j;obtain⟨O,G,M⟩:=F;cases x with
 |ref i=>
  match xs,K with
  |[y],K=>
   obtain⟨a,rfl,ha⟩:=P;obtain⟨w,rfl,I⟩:=M.one_of;dsimp only[Xh]at K;cases k:h[i]? with|none=>rw[k]at K;exact(K).elim|some C=>
    rw[k]at K;cases C with
    |lst zs=>
     dsimp only at K;split at K
     .rename_i D;obtain⟨L,u,m⟩:=N.at k ha;exact Jyh (Jl3) N.inv j G #[a,L,w,rfl,rfl,u,by rw[m.length];exact D,finW N K ha u (m.append<|RVs.one I) rfl]
     .exact(K).elim
    |_=>exact(K).elim
  |[],K=>exact(K).elim
  |_::_::_,K=>exact(K).elim
 |_=>cases xs<;>exact(K).elim
def setI:IV->IV->IV->ISt->IH->SRes
 |.ref i,.int k,v,U,h=>match h[i]? with
  |some (.lst xs)=>(match ixN xs.length k with
   |some j=>.next U<|h.set i<|.lst<|xs.set j v
   |none=>.stuck)
  |_=>.stuck
 |_,_,_,_,_=>.stuck
def gSb(o i:E1):G1:=λv U h=>rS U (o U h) λov h1=>rS U (i U h1) λiv L=>setI ov iv v U L
theorem J6l{O M:Expr}{mo mi:E1}{pos:Pos}(ho:PEi B X O mo)(hi:PEi B X M mi) (ha:∀v,Zei (.Subscript O M pos) X.env v=(do
   let ov<-Zcb [v] (ZaQ O X.env)
   let iv<-Zcb [v,ov] (ZaQ M X.env)
   Zeh pos
   Zcb [v,ov,iv] (setItem ov iv v)
   release [v,ov,iv] []):=by intro _;rfl):PGi B X (.Subscript O M pos) (gSb mo mi):=by
 intro V s U H Y Z h v u Q E N r K;rw[ha];refine Zb<|ZO<|krun ho N K λov h1 ou s1 H1 U1 N1 n1 r1 K1=>?_
 refine Zb<|ZO<|krun hi N1 K1 λiv L iu s2 I W G n2 r2 m=>?_
 have r':=(r.mono n1).mono n2;obtain⟨ox,ro,qo⟩:=r1.mono n2;obtain⟨ix,ri,qi⟩:=r2;obtain⟨P,rvx,qv⟩:=r';refine Zb<|ZaS<|Zb<|ZO ?_;cases ov with
 |ref i=>
  cases iv with
  |int k=>
   obtain⟨a,rfl,C⟩:=qo;cases (qi);dsimp only[setI]at m;cases R:L[i]? with|none=>rw[R]at m;exact(m).elim|some ob=>
    rw[R]at m;cases ob with
    |lst xs=>
     dsimp only at m;cases S:ixN xs.length k with|none=>rw[S]at m;exact(m).elim|some j=>
      rw[S]at m;obtain⟨ws,F,D⟩:=G.at R C;refine Zaf (Jo5 (X:=X.wish E) V s2 U I (.ref a) (.int k) P ou iu u (λH'=>H'=upd I a (.lst<|ws.set j P)) (G.inv.wish E) ro ri rvx #[a,ws,k,j,rfl,rfl,F,by rw[D.length];exact S,rfl]) (λ_ s3 hq=>?_) λ_ _ z=>z
      obtain⟨H',I',rfl⟩:=hq;have n:Nxt W I W (upd I a<|.lst<|ws.set j P):=#[#[[],03],Ext.upd_mut F<|by rw[F];exact Zaq];obtain⟨R3,_⟩:=G.rel.write (io:=.lst<|xs.set j v) C F (by rw[F];exact Zaq) #[_,J2,(RVs.mono n _ _ D).set (RV.mono n _ _ qv) j];exact wpAny_release<|m s3 U _ W #[I'.unwish,R3,G.st.mono n] n
    |_=>exact(m).elim
  |_=>exact(m).elim
 |_=>cases iv<;>exact(m).elim
end
section
variable{B:CeT}{X:Cx}
noncomputable def keyI:IV->Option Key|.int i=>J<|.inl i|.str x=>J<|.inr x|_=>Zc
theorem Jgj{K:W.Frag}{Y:Tw}{H:Hp}{x:IV}{v:hV}{k:Key}(e:keyI x=J k)(r:RV K Y H x v):v=kV k:=by cases x with|int i=>cases e;exact r|str y=>cases e;exact r|_=>cases e
def maxI:IV->IV->IH->Res IV|.int i,.int j,h=>.ok (.int (if j>i then j else i)) h|_,_,_=>.stuck
def minI:IV->IV->IH->Res IV|.int i,.int j,h=>.ok (.int (if j<i then j else i)) h|_,_,_=>.stuck
theorem J6c(k:X.calm=Zg):Ql B X (.builtin "max") (on2 maxI):=by
 intro V s U H Y Z h xs D Q E N r K;obtain⟨O,u,q⟩:=r;match xs,K with
 |[x,y],K=>
  obtain⟨v,w,rfl,m,C⟩:=q.two_of;cases x with
  |int i=>cases y with|int j=>cases (m);cases (C);exact QG (Jrf k) N.inv u #[i,j,rfl,fin0 N K rfl]|_=>exact(K).elim
  |_=>cases y<;>exact(K).elim
 |[],K=>exact(K).elim
 |[_],K=>exact(K).elim
 |_::_::_::_,K=>exact(K).elim
theorem J6d(k:X.calm=Zg):Ql B X (.builtin "min") (on2 minI):=by
 intro V s U H Y Z h xs D Q E N r K;obtain⟨O,u,q⟩:=r;match xs,K with
 |[x,y],K=>
  obtain⟨v,w,rfl,m,C⟩:=q.two_of;cases x with
  |int i=>cases y with|int j=>cases (m);cases (C);exact QG (Jrg k) N.inv u #[i,j,rfl,fin0 N K rfl]|_=>exact(K).elim
  |_=>cases y<;>exact(K).elim
 |[],K=>exact(K).elim
 |[_],K=>exact(K).elim
 |_::_::_::_,K=>exact(K).elim
noncomputable def QF:Tx->Option (Tl)|[]=>J []|.str x::r=>(QF r).map (x:: ·)|_=>Zc
theorem Jn1{K:W.Frag}{Y:Tw}{H:Hp}:∀{xs:Tx}{zs:Tl}{O:Ud}{us:Tv},QF xs=J zs->RVs K Y H xs O->Vals O us->∃l:List<|Str×Tok,us=Zfj l/\l.map (·.1)=zs
 |[],zs,O,us,e,q,r=>by cases e;have j:=q;subst j;cases r;exact#[[],rfl,rfl]
 |x::xs,zs,O,us,e,q,r=>by
  obtain⟨v,E,j,C,D⟩:=q;subst j;cases r with
  |cons B u=>
   cases x with
   |str y=>obtain⟨F,m,rfl⟩:=Z3.mp<|e;cases (C);obtain⟨t,rfl⟩:=B;obtain⟨l,rfl,k⟩:=Jn1 m D u;exact#[(y,t)::l,rfl,by rw[ZL,k]]
   |_=>cases e
def XF:IV->Tx->IH->Res IV
 |.str x,[.ref i],h=>match h[i]? with
  |some (.lst xs)=>(match QF xs with
   |some zs=>if JoinOk x zs=Zg then .ok (.str<|Txt.join x zs) h else .stuck
   |none=>.stuck)
  |_=>.stuck
 |_,_,_=>.stuck
theorem J3x:MtI B X "str" "str.join" XF:=by
 intro V s U H Y Z h x xs v us Q E N m L K;obtain⟨xv,m,qx⟩:=m;obtain⟨O,P,qs⟩:=L;cases x with
 |str x=>
  cases (qx);obtain⟨t,rfl⟩:=m;match xs,K with
  |[.ref i],K=>
   obtain⟨w,rfl,a,rfl,ha⟩:=qs.one_of;obtain⟨u,rfl,M⟩:=Qq P;cases M;dsimp only[XF]at K;cases C:h[i]? with|none=>rw[C]at K;exact(K).elim|some F=>
    rw[C]at K;cases F with
    |lst I=>
     dsimp only at K;cases D:QF I with|none=>rw[D]at K;exact(K).elim|some zs=>
      rw[D]at K;dsimp only at K;split at K
      .rename_i G;obtain⟨ws,e1,S⟩:=N.at C ha;obtain⟨W,j,pl,_⟩:=N.inv.list<|SqL.of e1;obtain⟨l,rfl,R⟩:=Jn1 D S j;exact SC.join pl.isList R G λt' k=>fin0 N K rfl _ _ (N.inv.tok _) #[_,rfl]
      .exact(K).elim
    |_=>exact(K).elim
  |[],K=>exact(K).elim
  |[.non],K=>exact(K).elim
  |[.bl _],K=>exact(K).elim
  |[.int _],K=>exact(K).elim
  |[.str _],K=>exact(K).elim
  |[.tup _],K=>exact(K).elim
  |[.rol _],K=>exact(K).elim
  |y::_::_,K=>cases y<;>exact(K).elim
 |_=>exact(K).elim
end
noncomputable def JL:Tx->Option (Tq)|[]=>J []|.int i::r=>(JL r).map (i:: ·)|_=>Zc
theorem Vm{K:W.Frag}{Y:Tw}{H:Hp}:∀{xs:Tx}{ns:Tq}{O:Ud}{us:Tv},JL xs=J ns->RVs K Y H xs O->Vals O us->ZaZ us ns
 |[],ns,O,us,e,q,r=>by cases e;have j:=q;subst j;cases r;exact .nil
 |x::xs,ns,O,us,e,q,r=>by
  obtain⟨v,D,j,B,C⟩:=q;subst j;cases r with
  |cons u m=>
   cases x with
   |int i=>obtain⟨n2,k,rfl⟩:=Z3.mp<|e;cases (B);obtain⟨t,rfl⟩:=u;exact .cons i t<|Vm k C m
   |_=>cases e
theorem Y1:∀{us:Tv}{ns:Tq},ZaZ us ns->us.length=ns.length
 |_,_,.nil=>rfl
 |_,_,.cons _ _ r=>by simp[Y1 r]
section
variable{B:CeT}{X:Cx}
noncomputable def sumI:IV->IH->Res IV
 |.ref i,h=>match h[i]? with
  |some (.lst xs)=>(match JL xs with
   |some ns=>.ok (.int ns.sum) h
   |none=>.stuck)
  |_=>.stuck
 |_,_=>.stuck
theorem J6e(M:X.A.handled=Zc):Ql B X (.builtin "sum") (on1 sumI):=Vf λV s U H Y Z h x xv u Q E N R qx K=>by
 cases x with
 |ref i=>
  obtain⟨a,D,ha⟩:=qx;subst D;cases R;dsimp only[sumI]at K;cases m:h[i]? with|none=>rw[m]at K;exact(K).elim|some I=>
   rw[m]at K;cases I with
   |lst xs=>
    dsimp only at K;cases C:JL xs with|none=>rw[C]at K;exact(K).elim|some ns=>
     rw[C]at K;obtain⟨O,D,r1⟩:=N.at m ha;obtain⟨its,S,pl,hz⟩:=N.inv.list<|SqL.of D;have j:=Vm C r1 S;obtain⟨k,G⟩:=j.allInts.items;have F:=G▸pl.isList;refine sum_intListG M F λL tk t2 kk=>?_
     have en:ns=k.toList.map (·.1):=by have W:=j.numsOf;have P:=congrArg (λz:Tk=>numsOf z.toList) G;rw[<-W];exact P.trans<|nums_intItems k
     have es:preSum (numAt k) k.size=ns.sum:=by rw[preSum_eq,en,Zba 03]
     rw[es];exact fin0 N K rfl _ _ (N.inv.kept kk) #[_,rfl]
   |_=>exact(K).elim
 |_=>exact(K).elim
end
noncomputable def JX (f:Nat->Int):Nat->Int|0=>0|1=>f 0|j+2=>if f (j+1)>JX f (j+1)then f (j+1)else JX f (j+1)
theorem Jfo(f:Nat->Int)(k:0<j):JX f (j+1)=if f j>JX f j then f j else JX f j:=by cases j with|zero=>omega|succ j=>rfl
def mmS:{F:String->CmpOp->Zbp // Zbp.«max.loop» =F "max" .Gt/\Zbp.«min.loop» =F "min" .Lt}:=#[_,by unfold Zbp.«max.loop»;exact rfl,by unfold Zbp.«min.loop»;exact rfl]
structure Mm(nm hJ:String)(op:CmpOp):Prop where
 en:entryFor table hJ=J (mmS.1 nm op)
 pl:plainId hJ=Zg
 nm:(toString nm++toString ".loop":String)=hJ
theorem mmN:Mm "min" "min.loop" .Lt:=#[PySem.F.entry_min_loop,PySem.F.plain_min_loop,01]
section
variable{pr:Z7}{wd:ZU}{cS:ZI}{R:Zec->Zl->Prop}{it:Zm}{fps wrs:Tw}{n:Nat}{P:Nat->Zh->Prop}{St:Nat->Zam->Prop}
abbrev liOb(l:Zm):Obj:={cls:=.type "list_iterator",data:=.fields (ZaE [.ref l,.int 0 0])}
abbrev J4h(v:Zh)(c:Nat):Obj:={cls:=.type "list",dict:=Zc,data:=.seq (ZaE [v,v]) c,slots:=#[]}
theorem Jkd:(toString "max"++toString ".loop":String)="max.loop":=01
theorem J0f{kw:Wl}(W:Walks pr wd cS.in1 it fps wrs n P St)(f:Nat->Int)(S:∀i v,P i v->∃t,v=.int (f i) t)(C:Zm)(I:C∉fps):∀(r j:Nat)(z:Zl)(v:Zh)(u:Tok)(c:Nat),n-j=r->0<j->j<=n->St j z.heap->v=.int (JX f j) u->z.heap.get? C=J (J4h v c) ->(∀u L tk,(∀a o,a∉wrs->a≠C->z.heap.get? a=J o->L.get? a=J o)->R (.ok<|.ret<|.int (JX f n) u) {z with heap:=L,toks:=tk}) ->ZbI (Zy pr wd) cS (.builtin "max.loop" #[[.ref it,.none,.ref C],kw]) R z:=by
 have M:C∉wrs:=λq=>I<|W.sub _ q
 intro r;induction r with
 |zero=>
  intro j z v u c U O V st ev gC fin;obtain rfl:j=n:=00;subst ev;refine Zai ZcJ ?_;rw[Za2 ZaJ _];refine Zb<|Zb1 gC rfl ?_;refine Zb<|ZaG<|W.done z _ _ st λL tk keep=>?_
  have k:=keep C _ M gC;refine Zb ?_;refine ZbT k rfl (Zb<|ZbE<|Zk ?_);exact fin u _ tk λa o ha B e=>(Zw _ _<|ZP B).trans<|keep a o ha e
 |succ r Q=>
  intro j z v u c U O V st ev gC fin;have lt:j<n:=00;subst ev;refine Zai ZcJ ?_;rw[Za2 ZaJ _];refine Zb<|Zb1 gC rfl ?_;refine Zb<|ZaG<|W.item j z _ _ lt st λy L tk X D keep=>?_
  obtain⟨t,rfl⟩:=S j y X;have k:=keep C _ M gC;have F:=CmpOf.ints_gt (prog:=pr) (w:=wd) (A:=cS.in1) (λi=>if i=0 then f j else JX f j) λ_ _ q=>q
  show Zv _ cS.in1 (tryCatch (Zcb [ZdK (f j) t,ZdK (f j) t]<|Ze9 .Gt (.int (f j) t) (.int (JX f j) u)>>=_) _>>=_) _ _ _;refine Zb<|ZaG<|ZO<|Zb<|F 0 1 _ _ _ _ _ #[t,03] #[u,03] ?_;refine Zb<|ZO<|Zbq ?_;refine Zb<|ZbE<|Zk ?_;have step:=Jfo f O;by_cases B:f j>JX f j
  .rw[if_pos B]at step;simp only[if_true,show ¬(1:Nat)=0 by decide,if_false,decide_eq_true B];refine Zb ?_;refine ZbT k rfl (Zb<|ZbE ?_);rw[Jkd];refine Zk #[Za7 ZaJ _,Q (j+1) _ (.int (f j) t) t _ 00 00 lt (W.frame _ _ _ D λa ha o e=>?_) (by rw[step]) (Zae _ k rfl) λu2 H m G=>?_]
   .exact(Zw _ _ λq:C=a=>I<|by rw[q];exact ha).trans e
   .exact fin u2 H m λa o ha E e=>G a o ha E<|(Zw _ _<|ZP E).trans<|keep a o ha e
  .rw[if_neg B]at step;simp only[if_true,show ¬(1:Nat)=0 by decide,if_false,decide_eq_false B,Zb0];refine Zb<|ZbE ?_;rw[Jkd];refine Zk #[Za7 ZaJ _,Q (j+1) _ (.int (JX f j) u) u c 00 00 lt D (by rw[step]) k λu2 H m G=>?_];exact fin u2 H m λa o ha E e=>G a o ha E<|keep a o ha e
end
theorem Jq3(a v:Zh):Zel "max" #[[a],[(ZW "default",v)]]:=by unfold Zel;kernel_rfl
section
variable{pr:Z7}{wd:ZU}{cS:ZI}{E:QvT}{z:Zl}{l:Zm}{us:Tv}{ns:Tq}{d:Tc}{Q:QvT}{kw:Wl}
def J56(ns:Tq)(d:Tc)(v:Zh):Prop:=(ns=[]/\d=J v)\/(ns≠[]/\∃u,v=.int (JX (λi=>ns.getD i 0) ns.length) u)
theorem Js6(V:Builtin.Builtins.bindParams "max" ["key","default"] 0 #[[],kw]=pure [Zc,d])(ha:Zel "max" #[[.ref l],kw])(hn:ns=[]->∃v,d=J v)(P:cS.handled=Zc)(m:z.heap.IsList l us.toArray)(hi:ZaZ us ns)
  (I:∀v L tk,J56 ns d v->(∀b o,z.heap.get? b=J o->L.get? b=J o)->Q v {z with heap:=L,toks:=tk}):
  Zv (Zy pr wd) cS (call (.builtin "max") [.ref l] kw) Q E z:=by
 obtain⟨Y,F,_⟩:=id m;have lt:=Zu F;have H:=Y1 hi;refine kmk_tree PySem.F.kind_max PySem.F.plain_max PySem.F.entry_max ha ?_;refine Zb<|ZeA V ?_;refine Zb<|Zk ?_;refine Zb<|ZaO m ?_;refine Zb<|ZbX ?_<|ZN _;rw[Jkd];have ne:=Z1 lt;have W:=Zc6 (prog:=pr) (w:=wd) (A:=cS.in1) P z.heap.objs.size l ne us.toArray;have sz:us.toArray.size=us.length:=ZV ..;have D:(z.heap.push<|liOb l).objs.size=z.heap.objs.size+1:=Zc7 ..;have M:(z.heap.push<|liOb l).objs.size∉[z.heap.objs.size,l]:=by rw[D];simp only[ZA,Zad,or_false,not_or];exact#[ZaT<|Zau _,ZaT<|Zbb lt]
 have R:(z.heap.push<|liOb l).objs.size∉[z.heap.objs.size]:=by rw[D];simp only[ZA,Zad,or_false];exact ZaT<|Zau _
 have old:∀b o,z.heap.get? b=J o->((z.heap.push<|liOb l).push<|ZY "list" #[] 0).get? b=J o:=λb o e=>Ze _<|Ze _ e
 have gI:((z.heap.push<|liOb l).push<|ZY "list" #[] 0).get? z.heap.objs.size=J (liOb l):=Ze _<|Zs _ rfl;have gC:((z.heap.push<|liOb l).push<|ZY "list" #[] 0).get? (z.heap.push<|liOb l).objs.size=J (ZY "list" #[] 0):=Zs _ rfl;have notin:∀b o,z.heap.get? b=J o->b∉[z.heap.objs.size]:=λb o e q=>Z1 (Zu e)<|Z2.mp q
 have j:∀b o,z.heap.get? b=J o->b≠(z.heap.push<|liOb l).objs.size:=λb o e=>by rw[D];exact Z1<|Zbb<|Zu e
 refine Zk #[Za7 ZaJ _,Zai ZcJ ?_];rw[Za2 ZaJ _];refine Zb<|Zb1 gC rfl ?_;by_cases O:us.length=0
 .refine Zb (ZaG<|W.done _ _ _ (by rw[sz,O];exact#[#[_,gI,rfl,rfl],(m.push _).push _]) λL tk keep=>?_);obtain⟨v,rfl⟩:=hn<|Zat 05;refine Zb<|Zc8<|Zk ?_;refine I v L tk (.inl #[Zat 05,rfl]) λb o e=>keep b o (notin b o e)<|old b o e
 .refine Zb (ZaG<|W.item 0 _ _ _ (by rw[sz];lia) #[#[_,gI,rfl,rfl],(m.push _).push _] λy L tk U B keep=>?_);have k:=keep _ _ R gC;show Zv _ cS.in1 (updateSeq (z.heap.push<|liOb l).objs.size (λ_=>(ZaE [y,y]))>>=_) _ _ _;refine Zb ?_;refine ZbT k rfl ?_;rw[Jkd];have G:∀(i:Nat)(v:Zh),us.toArray[i]?=J v->∃t,v=.int ((λi=>ns.getD i 0) i) t:=λi v q=>ZeB hi i v<|by simpa using q
  obtain⟨t,rfl⟩:=G 0 y U;refine Zk #[Za7 ZaJ _,J0f W (λi=>ns.getD i 0) G _ M _ 1 _ _ t _ rfl 01 (by rw[sz];lia) (W.frame _ _ _ B λa ha o e=>?_) rfl (Zae _ k rfl) λu X C S=>?_]
  .exact(Zw _ _ λq=>M<|by rw[q];exact ha).trans e
  .rw[sz,H];refine I _ X C (.inr #[λq=>O (by rw[H,q];rfl),u,rfl]) λb o e=>S b o (notin b o e) (j b o e)<|(Zw _ _<|ZP<|j b o e).trans<|keep b o (notin b o e)<|old b o e
end
section
variable{B:CeT}{X:Cx}
def maxD(ns:Tq)(d:IV):IV:=if ns=[]then d else .int (JX (λi=>ns.getD i 0) ns.length)
def X9(aa:A1)(md:E1):E1:=λU h=>(aa U h).bind λxs h1=>(md U h1).bind λd L=>match xs with|[.ref i]=>(match L[i]? with|some (.lst ys)=>(match JL ys with|some ns=>.ok (maxD ns d) L|none=>.stuck)|_=>.stuck)|_=>.stuck
theorem J26{a P:Expr}{R:A1}{I:E1}{p pos kp:Pos}(hh:X.A.handled=Zc)(hg:Gl X "max")(hm:X.mg "max"=Zc)(ha:PAi B X [a] R)(hd:PEi B X P I)(hs:Z9 [a] X.env=[(Zi,ZaQ a X.env)]):PEi B X (.Call (.Name "max" p) [a] [#[J "default",P,kp]] pos) (X9 R I):=λV s U H Y Z h Q E N K=>by
 refine ZT<|Qt N.inv hg hm rfl ?_;refine ZeC ?_ (by rw[hs];rfl) (by rw[hs];rfl) rfl rfl;refine(ha pos).run N K λxs h1 us s1 H1 U1 N1 n1 r1 K1=>?_
 refine Zbi<|Zb<|PX.run hd N1 K1 λd L du s2 H2 U2 k n2 r2 j=>Zb<|ZaS<|Zk<|ZbH ?_
 obtain⟨O,rv,qs⟩:=r1.mono n2;cases xs with|nil=>exact(j).elim|cons x t=>
  cases t with|cons _ _=>cases x<;>exact(j).elim|nil=>
   cases x with
   |ref i=>
    obtain⟨w,rfl,ad,rfl,m⟩:=qs.one_of;obtain⟨u,rfl,ru⟩:=Qq rv;cases ru;dsimp only at j;cases C:L[i]? with|none=>rw[C]at j;exact(j).elim|some S=>
     rw[C]at j;cases S with
     |lst ys=>
      dsimp only at j;cases D:JL ys with|none=>rw[D]at j;exact(j).elim|some ns=>
       rw[D]at j;dsimp only at j;obtain⟨ws,e1,r3⟩:=k.at C m;obtain⟨its,F,pl,_⟩:=k.inv.list<|SqL.of e1;refine Js6 rfl (Jq3 _ _) (λ_=>#[_,rfl]) hh pl.isList (Vm D r3 F) λv h3 W mi kk=>?_
       have M:Now B X V U2 Z L U H2 {s2 with heap:=h3,toks:=W}:=#[k.inv.kept kk,k.rel,k.st];rcases mi with⟨e,ev⟩|⟨e,t,rfl⟩
       .cases ev;have G:maxD ns d=d:=if_pos e;rw[G]at j;exact j _ _ _ _ M .refl r2
       .have G:maxD ns d=.int (JX (λi=>ns.getD i 0) ns.length):=if_neg e;rw[G]at j;exact j _ _ _ _ M .refl #[.int _,#[t,rfl],rfl]
     |_=>exact(j).elim
   |_=>exact(j).elim
end
noncomputable def metB (f:Nat->Str)(i:Nat)(k:Str):Bool:=(ZR i).any λj=>decide (k=f j)
def cntD(f:Nat->Str):Nat->Nat|0=>0|i+1=>if metB f i (f i)then cntD f i else cntD f i+1
theorem Js3(f:Nat->Str)(i:Nat)(k:Str):metB f (i+1) k=(metB f i k||decide (k=f i)):=by simp[metB,List.range_succ]
theorem Jm8(f:Nat->Str):∀i,cntD f i<=i|0=>Zq _|i+1=>by have:=Jm8 f i;unfold cntD;split<;>lia
section
variable{pr:Z7}{wd:ZU}{cS:ZI}{R:Zec->Zl->Prop}{it:Zm}{fps wrs:Tw}{G:Td->Td->Prop}{n:Nat}{P:Nat->Zh->Prop}{St:Nat->Zl->Prop}
abbrev Xf(pr:Z7)(wd:ZU)(hp:Zam)(a:Zm)(f:Nat->Str)(i:Nat):Prop:=hp.SetOf (ZdG pr wd) a (λk=>metB f i k)<|cntD f i
theorem Xf.moved{hp L:Zam}(q:Xf pr wd hp a f i)(m:∀o,hp.get? a=J o->L.get? a=J o):Xf pr wd L a f i:=by obtain⟨o,B,k,t,u,j⟩:=q;exact#[o,B,k,t,m o u,j]
theorem Jwm(W:WalksS pr wd cS.in1 it fps wrs G n P St)(C:Zm)(I:C∉fps)(f:Nat->Str)(Q:∀i v,P i v->∃t,v=.str (f i) t)(room:n+1<Zbr):∀(r i:Nat)(z:Zl),n-i=r->i<=n->St i z->Xf pr wd z.heap C f i->(∀j,Moved (C::wrs) G z j->Xf pr wd j.heap C f n->R (.ok<|.ret .none) j) ->ZbI (Zy pr wd) cS (.builtin "set.update.loop" #[[.ref C,.ref it],[]]) R z:=by
 have L:=λq=>I<|W.sub _ q
 have more:∀b∈wrs,b∈C::wrs:=λb q=>Zr _ q
 intro r;induction r with
 |zero=>
  intro i z X U st E fin;obtain rfl:i=n:=05;refine Zai ZaM ?_;refine Zb<|W.done z _ _ st λj m=>?_
  exact Zk<|fin j (m.mono more)<|E.moved λo e=>m.heap C _ L e
 |succ r Y=>
  intro i z X U st E fin;have lt:i<n:=05;refine Zai ZaM ?_;refine Zb<|W.item i z _ _ lt st λv j hP B m=>?_
  obtain⟨t,rfl⟩:=Q i v hP;have u:=E.moved λo e=>m.heap C _ L e
  have O:(ZdG pr wd).is (f i) (.str (f i) t)=Zg:=strKind_is _ _ _ _;refine Zb<|ZO ?_;unfold setAdd;refine ZO ?_;refine Zb<|(ZdG pr wd).pyHash O ?_;have S:cntD f i+1<Zbr:=by have:=Jm8 f i;lia
  refine wpAny_setAddHashed_of O rfl u S λh3 M D=>?_
  have F:=SetOf_congr D (λk=>(Js3 f i k).symm) (by show _=cntD f (i+1);rfl);refine Zk #[Za7 Zcp _,Y (i+1) _ 05 lt (W.frame _ j _ _ B (Zay _) λb q o e=>?_) F λZ V H=>?_]
  .rw[M.2 b λe2:b=C=>I<|by rw[<-e2];exact q];exact e
  .refine fin Z (Moved.trans W.gtrans ((m.mono more).then_heap (Zay _) λb o q e=>?_) V) H;rw[M.2 b λe2:b=C=>q<|by simp_all];exact e
end
section
variable{pr:Z7}{wd:ZU}{cS:ZI}{E:QvT}{z:Zl}{l:Zm}{us:Tv}{zs:Tl}{Q:QvT}
abbrev JR(led:Bool):Obj:={cls:=.type "set",dict:=Zc,data:=.set #[] 0 (.fresh 0 0 led)}
abbrev QS(zs:Tl):Nat->Str:=λi=>zs.getD i Zb7
set_option maxRecDepth 100000 in
theorem Jwl{l2:List (Str×Tok)}(hh:cS.handled=Zc)(hl:z.heap.IsList l us.toArray)(eu:us=Zfj l2)(ez:l2.map (·.1)=zs)(room:zs.length+1<Zbr)
  (fin:∀(L:Zam)(tk:Nat),Xf pr wd L z.heap.objs.size (QS zs) zs.length->(∀b o,z.heap.get? b=J o->L.get? b=J o)->Q (.ref z.heap.objs.size) {z with heap:=L,toks:=tk}):
  Zv (Zy pr wd) cS (call (.type "set") [.ref l]) Q E z:=by
 have len:us.toArray.size=zs.length:=by rw[eu,<-ez];simp[Zfj]
 have H:∀(i:Nat)(v:Zh),us.toArray[i]?=J v->∃t,v=.str (QS zs i) t:=λi v q=>by rw[eu]at q;simp only[Zfj,Zez,Z4]at q;obtain⟨p,hp,rfl⟩:=Z3.mp q;refine#[p.2,?_];rw[<-ez];simp[QS,Zx,Z4,hp]
 obtain⟨c,tl,hmro⟩:=PySem.F.called_set.mro;have U:=PySem.F.called_set.made;have hsub:=PySem.F.called_set.sub;refine Zc5<|Zdc ?_;show Zv _ _ (callAny (.type "set") _) _ _ _;refine Zk #[ZbR _ (by decide +kernel),Zai ZdR ?_];rw[Around.under_plain (Ze0 "set" [.ref l] []) rfl];have no1:=PySem.F.called_set.notType;have no2:=PySem.F.called_set.canCreate;have ok1:=Zem<|.ref l;repeat (any_goals (first|assumption|wp_step))
 refine ZbA (code_set_new_1 (.ref l) (E:=E) (Q₁:=λobj z1=>∃j:Bool,obj=.ref z.heap.objs.size/\z1={z with heap:=z.heap.push (JR j)}) λj=>#[j,rfl,rfl]) λu z1 W=>?_
 cases u with|error e=>exact W|ok fl=>
  cases fl with
  |ret obj=>
   obtain⟨j,rfl,rfl⟩:=W;have gS:(z.heap.push<|JR j).get? z.heap.objs.size=J (JR j):=Zs _ rfl;have tS:ZdH {z with heap:=z.heap.push (JR j)} (.ref z.heap.objs.size) "set":=#[_,gS,rfl];have in1:=PySem.F.called_set.init.lookup;have in2:=PySem.F.called_set.init.bind<|.ref z.heap.objs.size;repeat (any_goals (first|assumption|wp_step))
   refine ZbA (ZaX (R:=wants (λu z2=>u=.none/\∃L tk,z2={z with heap:=L,toks:=tk}/\Xf pr wd L z.heap.objs.size (QS zs) zs.length/\(∀b o,z.heap.get? b=J o->L.get? b=J o)) E)
    PySem.F.called_set.init.plain Zen (check_set_init_1 tS ?_)) λI z2 m=>?_
   .obtain⟨ol,G,D,nl,C⟩:=hl;obtain⟨ocls,B,Y,k⟩:=ol;simp only at D C;subst D;subst C;have gl:(z.heap.push<|JR j).get? l=J {cls:=.type "list",dict:=B,data:=.seq us.toArray nl,slots:=k}:=Ze _ G;have sb1:=PySem.F.sub_list_set;have sb2:=Zdz;have dne:(Zc2 "list"==Zc2 "dict")=Zi:=01;have F:(z.heap.push<|JR j).IsList l us.toArray:=#[_,gl,rfl,nl,rfl];unfold Zbp.«set.__init__» noKeywords Zdd;generalize Z:Zdv=PI
    wp_walk
    subst Z;refine ZaO F ?_;refine Zb<|Zd0 ?_;have lS:l<z.heap.objs.size:=Zu G;have h3:cS.in1.in1.in1.handled=Zc:=by simp[hh]
    have X:l≠(z.heap.push<|JR j).objs.size:=by rw[Zby];exact Z1<|Zbb lS
    have nC:z.heap.objs.size∉[(z.heap.push<|JR j).objs.size,l]:=by rw[Zby];simp only[ZA,Zad,or_false,not_or];exact#[Z1<|Zau _,ZaT lS]
    refine Jwm ((Zc6 h3 _ l X us.toArray).toS) z.heap.objs.size nC (QS zs) H (by rw[len];exact room) (us.toArray.size-0) 0 _ 05 (ZN _) #[#[_,Zs _ rfl,rfl,rfl],(F.push _)] ?start ?stop;case start=>have g0:((z.heap.push<|JR j).push<|liOb l).get? z.heap.objs.size=J (JR j):=Ze _ gS;exact SetOf_congr ((setObjOf_fresh (knd:=ZdG pr wd) j).setOf g0<|by unfold Zbr;lia) (λ_=>rfl) rfl
    case stop=>
     intro z5 O M;obtain⟨h5,g5,d5,V,P⟩:=z5;have eg:g5=z.gens:=O.gens;have ed:d5=z.drawn:=O.drawn;have eo:P=z.os:=O.os;subst eg;subst ed;subst eo;show Zv _ _ _ _ _ _;refine Zk ?_;show Zv _ _ (ret Zaj) _ _ _;rw[len]at M;refine Zk #[rfl,h5,V,rfl,M,λb o e=>?_];have lb:=Zu e;have b1:b≠z.heap.objs.size:=Z1 lb;have b2:b≠(z.heap.push<|JR j).objs.size:=by rw[Zby];exact Z1<|Zbb lb
     exact O.heap b o (by simp only[ZA,Zad,or_false,not_or];exact#[b1,b2])<|Ze _<|Ze _ e
   .cases I with|error e=>exact m|ok fl2=>
     cases fl2 with
     |ret rv=>
      obtain⟨rfl,L,tk,rfl,S,keep⟩:=m;repeat (any_goals (first|assumption|wp_step))
      exact fin _ _ S keep
     |_=>exact m.elim
  |_=>exact W.elim
end
section
variable{B:CeT}{X:Cx}
def Yv(aa:A1):E1:=λU h=>(aa U h).bind λxs h1=>match xs with|[.ref i]=>(match h1[i]? with|some (.lst ys)=>(match QF ys with|some zs=>if zs.length+1<Zbr then .ok (.int<|cntD (QS zs) zs.length) h1 else .stuck|none=>.stuck)|_=>.stuck)|_=>.stuck
theorem Jvh{a:Expr}{P:A1}{p pos p2 k:Pos}(W:X.A.handled=Zc)(g1:Gl X "len")(m1:X.mg "len"=Zc)(g2:Gl X "set")(m2:X.mg "set"=Zc)(ha:PAi B X [a] P)(hs:Z9 [a] X.env=[(Zi,ZaQ a X.env)]):
  PEi B X (.Call (.Name "len" p) [.Call (.Name "set" p2) [a] [] k] [] pos) (Yv P):=λV s U H Y Z h Q E N K=>by
 refine ZT<|Qt N.inv g1 m1 rfl ?_;refine ZaI ?_ rfl rfl;refine Zcm ?_;refine ZT<|Qt N.inv g2 m2 rfl ?_;refine ZaD ?_ hs rfl;refine(ha k).run N K λxs h1 us s1 H1 U1 m n1 r1 j=>?_
 obtain⟨O,rv,qs⟩:=r1;cases xs with|nil=>exact(j).elim|cons x t=>
  cases t with|cons _ _=>cases x<;>exact(j).elim|nil=>
   cases x with
   |ref i=>
    obtain⟨w,rfl,ad,rfl,C⟩:=qs.one_of;obtain⟨u,rfl,ru⟩:=Qq rv;cases ru;dsimp only at j;cases G:h1[i]? with|none=>rw[G]at j;exact(j).elim|some ob=>
     rw[G]at j;cases ob with
     |lst ys=>
      dsimp only at j;cases I:QF ys with|none=>rw[I]at j;exact(j).elim|some zs=>
       rw[I]at j;dsimp only at j;split at j
       .rename_i room;obtain⟨ws,e1,r3⟩:=m.at G C;obtain⟨its,M,pl,_⟩:=m.inv.list<|SqL.of e1;obtain⟨l2,eu,ez⟩:=Jn1 I r3 M;refine Jwl W pl.isList eu ez room λL tk hS keep=>Zcn ?_
        obtain⟨o,es,ep,t,ho,D,hd,hel,R,hbb,S,hn⟩:=hS;have F:(es.size:Int)<2^63:=by
         have:=Jm8 (QS zs) zs.length;have sb:Zbr<=2^40:=by unfold Zbr;decide
         lia
        refine call_len_set ho D hd S F ?_;rw[hn];exact j _ _ _ _ #[(m.inv.kept (t':=_) keep),m.rel,m.st] .refl #[.int _,#[_,rfl],rfl]
       .exact(j).elim
     |_=>exact(j).elim
   |_=>exact(j).elim
end
section
variable{α β:Type}{h h1:IH}{U:ISt}
theorem Jzf(e:h[n]?=J (.exc c fs)):(SRes.exc n U h).fin=.exc n h:=by simp[SRes.fin,e]
theorem J6i(v:IV)(U:ISt):Ja 0 (J v::U) h=.ok v h:=rfl
end
def MulS(x:Str)(n:Int):Bool:=decide (x.length<=1000/\ -1000<=n/\n<=1000)
theorem MulS.ok(h:MulS x n=Zg):MulOk x n:=by
 simp only[MulS,decide_eq_true_eq]at h;obtain⟨j,L,k⟩:=h;refine#[?_,λhn _=>?_,λhn _=>?_]
 .simp;lia
 .have e:(1000:Int)<=(2^63-1)/n:=by rw[Int.le_ediv_iff_mul_le 05];lia
  lia
 .have:x.length*n.toNat<=1000*1000:=Nat.mul_le_mul j 05;have m:1000000<sizeLine:=01;unfold Builtin.Str.tooLong;lia
theorem J0l:OpR X (ZaW .Mult) (λx y H Q=>∃i j,x=.str i/\y=.int j/\MulS i j=Zg/\Q (.str<|Txt.mul i j) H):=by intro V s U H x y v u Q I k C h;obtain⟨i,j,rfl,rfl,m,q⟩:=h;obtain⟨t,rfl⟩:=k;obtain⟨B,rfl⟩:=C;exact SB.mul (MulS.ok m) λB D=>#[.str<|Txt.mul i j,H,I.tok _,#[_,rfl],q]
def Qe(x y:IV)(h:IH):Res IV:=match x with|.str i=>(match y with|.int j=>if MulS i j then .ok (.str<|Txt.mul i j) h else .stuck|_=>.stuck)|x=>VR x y h
section
variable{B:CeT}{X:Cx}
theorem J37:OpI B X (ZaW .Mult) Qe:=by
 intro V s U H Y Z h x y v u Q E N k m K;cases x with
 |str i=>
  obtain⟨M,k,F⟩:=k;obtain⟨L,m,G⟩:=m;cases y with
  |int j=>
   have I:=F;have C:=G;subst I C;dsimp only[Qe]at K;split at K
   .rename_i D;exact Qg (J0l) N.inv k m #[i,j,rfl,rfl,D,fin0 N K rfl]
   .exact(K).elim
  |_=>exact(K).elim
 |_=>exact J67 V s U H Y Z h _ y v u Q E N k m K
end
noncomputable def valI (kvs:Wn)(k:Key):Tg:=(kvs.find? λkv=>decide (kv.1=k)).map (·.2)
theorem QU{p:Key×IV}(e:p.1=k):valI (p::r) k=J p.2:=by simp[valI,e]
theorem QH{p:Key×IV}(e:¬p.1=k):valI (p::r) k=valI r k:=by simp[valI,e]
theorem RPs.get{K:W.Frag}{Y:Tw}{H:Hp}(k:Key):∀{xs:Wn}{O:Wt},RPs K Y H xs O->(valI xs k=Zc/\valV O k=Zc)\/∃v w,valI xs k=J v/\valV O k=J w/\RV K Y H v w
 |[],_,h=>by have e:=h;subst e;exact .inl #[rfl,rfl]
 |x::xs,_,h=>by
  obtain⟨v,r,rfl,q,t⟩:=h;by_cases e:x.1=k
  .exact .inr #[x.2,v,QU e,Jku e,q]
  .rw[QH e,Jkt e];exact RPs.get k t
theorem RPs.snoc{K:W.Frag}{Y:Tw}{H:Hp}{k:Key}{v:IV}{w:hV}(q:RV K Y H v w):∀{xs:Wn}{O:Wt},RPs K Y H xs O->RPs K Y H (xs++[(k,v)]) (O++[(k,w)])
 |[],_,h=>by have e:=h;subst e;exact#[w,[],rfl,q,rfl]
 |x::xs,_,h=>by obtain⟨m,r,rfl,j,t⟩:=h;exact#[m,r++[(k,w)],rfl,j,RPs.snoc q t]
theorem Jo0{O:Wt}{k:Key}{w:hV}(e:valV O k=Zc):putK O k w=O++[(k,w)]:=by unfold putK;rw[if_neg];rw[Jpj,e];exact Zt
section
variable{B:CeT}{X:Cx}
def X8:E1:=λ_ h=>.ok (.ref h.length)<|h++[.dct []]
theorem J2z:PEi B X (.Dict [] [] pos) X8:=λV s U H Y Z h Q E N K=>by
 have hn:=N.inv.hok.fresh<|Zq s.heap.objs.size;have I1:=N.inv.laid (t':=s.toks) (λ_ _ q=>Ze _ q) (Zq _)<|Juy s.heap N.inv.big;obtain⟨j,n1⟩:=N.rel.alloc (io:=.dct []) hn #[[],J2,rfl];have m:Now B X V (Y++[s.heap.objs.size]) Z (h++[.dct []]) U (upd H s.heap.objs.size<|.dK []) _:=#[I1,j,N.st.mono n1];have k:(Y++[s.heap.objs.size])[h.length]?=J s.heap.objs.size:=by rw[<-N.rel.len,ZK<|Zq _];simp
 exact wpAny_Dict_empty<|K _ _ _ (Y++[s.heap.objs.size]) m n1 #[.ref _,rfl,_,rfl,k]
def VW:IV->Tx->IH->Res IV
 |.ref i,[y,v],h=>match h[i]? with
  |some (.dct kvs)=>(match keyI y with
   |some k=>(match valI kvs k with
    |some w=>.ok w h
    |none=>if kvs.length<sizeLine then .ok v (h.set i<|.dct<|kvs++[(k,v)])else .stuck)
   |none=>.stuck)
  |_=>.stuck
 |_,_,_=>.stuck
theorem Jv1:MtI B X "dict" "dict.setdefault" VW:=by
 intro V s U H Y Z h x xs v us Q E N M rs K;obtain⟨xv,M,qx⟩:=M;obtain⟨O,rv,qs⟩:=rs;cases x with
 |ref i=>
  match xs,K with
  |[y,y2],K=>
   obtain⟨a,rfl,ha⟩:=qx;obtain⟨w,L,rfl,qw,F⟩:=qs.two_of;dsimp only[VW]at K;cases R:h[i]? with|none=>rw[R]at K;exact Zf K|some ob=>
    rw[R]at K;cases ob with
    |dct u=>
     dsimp only at K;cases S:keyI y with|none=>rw[S]at K;exact Zf K|some k=>
      rw[S]at K;dsimp only at K;obtain⟨W,m,I⟩:=N.at R ha;cases Jgj S qw;cases rv with|@cons _ _ _ _ ru t=>
      cases t with|@cons _ u2 _ _ C t=>
      cases t;cases (M);obtain⟨z,hd,ps,rel,dd⟩:=Juz N.inv.hok m;have hz:ps.length<=sizeLine:=by rw[<-rel.length];exact z
      refine call_meetsIn Zde dd.typeIs PySem.F.entry_dict_setdefault (PySem.F.args_dict_setdefault_3 _ _ _) (kt_meets_setdefault (Vq X.prog X.w) a (Jvu ru) hd u2) #[ps,dd,hz,λv' hv=>?_,λhn h' D hs=>?_]
      .rcases I.get k with⟨p,q⟩|⟨v1,w1,p,q,r⟩
       .have j:=rel.val k;rw[q]at j;rw[RelO.none_of j]at hv;cases hv
       .rw[p]at K;have j:=rel.val k;rw[q,hv]at j;exact fin0 (w:=w1) N K r _ _ (N.inv.tok _) j
      .rcases I.get k with⟨p,q⟩|⟨v1,w1,p,q,r⟩
       .rw[p]at K;dsimp only at K;split at K
        .rename_i hl;have he:∃q,h'.get? a=J q:=let ⟨q,_,_,hq,_⟩:=D;#[q,hq];have G:(putK W k L).length<=sizeLine:=by rw[Jo0 q,Z0,I.length];exact hl
         have I4:=Jri (t':=s.toks+1) N.inv (by rw[m];exact Zaq) hs he<|Jxo G hd (rel.put k C) D;have n:Nxt Y H Y (upd H a<|.dK<|putK W k L):=#[#[[],03],Ext.upd_mut m<|by rw[m];exact Zaq];obtain⟨R4,_⟩:=N.rel.write (io:=.dct<|u++[(k,y2)]) ha m (by rw[m];exact Zaq) #[_,J2,(congrArg (λP=>RPs X.K Y (upd H a<|.dK<|putK W k L) (u++[(k,y2)]) P)<|Jo0 q).mpr<|RPs.mono n _ _<|I.snoc F];exact K _ _ _ Y #[I4,R4,N.st.mono n] n #[L,C,RV.mono n _ _ F]
        .exact Zf K
       .have j:=rel.val k;rw[q,hn]at j;exact Zf j
    |_=>exact Zf K
  |[],K=>exact Zf K
  |[_],K=>exact Zf K
  |_::_::_::_,K=>exact Zf K
 |_=>cases xs<;>exact Zf K
end
noncomputable def putD (kvs:Wn)(k:Key)(v:IV):Wn:=if (kvs.any λkv=>decide (kv.1=k))=Zg then kvs.map (λkv=>if kv.1=k then(kv.1,v)else kv)else kvs++[(k,v)]
theorem RPs.any{K:W.Frag}{Y:Tw}{H:Hp}(k:Key):∀{xs:Wn}{O:Wt},RPs K Y H xs O->(xs.any λj=>decide (j.1=k))=O.any λj=>decide (j.1=k)|[],_,h=>by have e:=h;subst e;rfl|x::xs,_,h=>by obtain⟨v,r,rfl,q,t⟩:=h;rw[Zcr,Zcr,RPs.any k t]
theorem RPs.upd{K:W.Frag}{Y:Tw}{H:Hp}{k:Key}{v:IV}{w:hV}(q:RV K Y H v w):∀{xs:Wn}{O:Wt},RPs K Y H xs O->RPs K Y H (xs.map λj=>if j.1=k then(j.1,v)else j) (O.map λj=>if j.1=k then(j.1,w)else j)
 |[],_,h=>by have e:=h;subst e;exact rfl
 |x::xs,_,h=>by
  obtain⟨u,r,rfl,m,t⟩:=h;rw[ZL,ZL];by_cases e:x.1=k
  .rw[if_pos e,if_pos e];exact#[w,_,rfl,q,RPs.upd q t]
  .rw[if_neg e,if_neg e];exact#[u,_,rfl,m,RPs.upd q t]
theorem RPs.putKK{K:W.Frag}{Y:Tw}{H:Hp}{k:Key}{v:IV}{w:hV}{xs:Wn}{O:Wt}(q:RV K Y H v w)(r:RPs K Y H xs O):RPs K Y H (putD xs k v) (putK O k w):=by
 unfold putD putK;rw[r.any k];split
 .exact r.upd q
 .exact r.snoc q
section
variable{B:CeT}{X:Cx}
def QQ(x y:IV)(h:IH):Res IV:=match x with|.ref i=>(match h[i]? with|some (.dct kvs)=>(match keyI y with|some k=>(match valI kvs k with|some v=>.ok v h|none=>.stuck)|none=>.stuck)|_=>.stuck)|_=>.stuck
theorem J72:IxI B X QQ:=by
 intro j G V s U H Y Z h x y v u Q E N m D K R;obtain⟨xv,m,qx⟩:=m;obtain⟨yv,D,S⟩:=D;cases x with
 |ref i=>
  obtain⟨a,L,ha⟩:=qx;subst L;dsimp only[QQ]at K;cases C:h[i]? with|none=>rw[C]at K;exact(K).elim|some P=>
   rw[C]at K;cases P with
   |dct kvs=>
    dsimp only at K;cases I:keyI y with|none=>rw[I]at K;exact(K).elim|some k=>
     rw[I]at K;dsimp only at K;obtain⟨ws,L,r1⟩:=N.at C ha;cases Jgj I S;cases (m);obtain⟨z,hd,ps,rel,M⟩:=Juz N.inv.hok L;rcases r1.get k with⟨p,q⟩|⟨v1,w1,p,q,r⟩
     .rw[p]at K;exact(K).elim
     .rw[p]at K;have O:=rel.val k;rw[q]at O;obtain⟨W,hw,F⟩:=RelO.some_of O;exact ZcH (x:=W) M.typeIs PySem.F.slot_dict_getitem.lookup (wpAny_getItem_of (Jvu D) M.mapOf hw #[rfl,fin0 N K r _ _ (N.inv.tok _) F]) R
   |_=>exact(K).elim
 |_=>exact(K).elim
noncomputable def cInD (x c:IV)(h:IH):Res IV:=match c with|.ref i=>(match h[i]? with|some (.dct kvs)=>(match keyI x with|some k=>.ok (.bl (valI kvs k).isSome) h|none=>.stuck)|_=>.stuck)|_=>.stuck
theorem J65:OpI B X (Za0 .In) cInD:=by
 intro V s U H Y Z h x y v u Q E N j C K;obtain⟨xv,j,S⟩:=j;obtain⟨W,C,M⟩:=C;cases y with
 |ref i=>
  obtain⟨a,G,ha⟩:=M;subst G;dsimp only[cInD]at K;cases m:h[i]? with|none=>rw[m]at K;exact(K).elim|some I=>
   rw[m]at K;cases I with
   |dct D=>
    dsimp only at K;cases F:keyI x with|none=>rw[F]at K;exact(K).elim|some k=>
     rw[F]at K;dsimp only at K;obtain⟨R,G,O⟩:=N.at m ha;cases Jgj F S;cases (C);obtain⟨z,hd,ps,rel,L⟩:=Juz N.inv.hok G;refine wpAny_in_of (Jvu j) hd L.mapOf ?_;rw[<-(rel.val k).isSome_eq];have P:(valV R k).isSome=(valI D k).isSome:=by rcases O.get k with⟨p,q⟩|⟨v1,w1,p,q,r⟩<;>rw[p,q]<;>rfl
     rw[P];exact fin0 N K rfl _ _ (N.inv.tok _) rfl
   |_=>exact(K).elim
 |_=>exact(K).elim
def YC:IV->IV->IV->ISt->IH->SRes
 |.ref i,iv,v,U,h=>match h[i]? with
  |some (.dct kvs)=>(match keyI iv with
   |some k=>if kvs.length<sizeLine then .next U (h.set i<|.dct<|putD kvs k v)else .stuck
   |none=>.stuck)
  |_=>.stuck
 |_,_,_,_,_=>.stuck
def gSbD(o i:E1):G1:=λv U h=>rS U (o U h) λov h1=>rS U (i U h1) λiv L=>YC ov iv v U L
theorem J2q{P M:Expr}{mo mi:E1}{pos:Pos}(ho:PEi B X P mo)(hi:PEi B X M mi)
  (ha:∀v,Zei (.Subscript P M pos) X.env v=(do
   let ov<-Zcb [v] (ZaQ P X.env)
   let iv<-Zcb [v,ov] (ZaQ M X.env)
   Zeh pos
   Zcb [v,ov,iv] (setItem ov iv v)
   release [v,ov,iv] [])):PGi B X (.Subscript P M pos) (gSbD mo mi):=by
 intro V s U H Y Z h v u Q E N r K;rw[ha];refine Zb<|ZO<|krun ho N K λov h1 ou s1 H1 U1 N1 n1 r1 K1=>?_
 refine Zb<|ZO<|krun hi N1 K1 λiv L iu s2 W O C n2 r2 j=>?_
 have r':RU X.K O W v u:=(r.mono n1).mono n2;obtain⟨ox,ro,qo⟩:=r1.mono n2;obtain⟨ix,ri,qi⟩:=r2;obtain⟨R,rvx,qv⟩:=r';refine Zb<|ZaS<|Zb<|ZO ?_;cases ov with
 |ref i=>
  obtain⟨a,rfl,D⟩:=qo;dsimp only[YC]at j;cases S:L[i]? with|none=>rw[S]at j;exact(j).elim|some ob=>
   rw[S]at j;cases ob with
   |dct kvs=>
    dsimp only at j;cases ek:keyI iv with|none=>rw[ek]at j;exact(j).elim|some k=>
     rw[ek]at j;dsimp only at j;split at j
     .rename_i hl;obtain⟨ws,m,F⟩:=C.at S D;cases Jgj ek qi;cases (ro);obtain⟨z,hd,ps,rel,dd⟩:=Juz C.inv.hok m;have hz:ps.length<=sizeLine:=by rw[<-rel.length];exact z
      have I:(putK ws k R).length<=sizeLine:=by have h1:=Jnm ws k R;have L:=F.length;lia
      refine wpAny_setItem_pairs (hsz:=hz) (Jvu ri) dd λh' G hs=>?_
      have he:∃q,h'.get? a=J q:=let ⟨q,_,_,hq,_⟩:=G;#[q,hq];have I4:=Jri (t':=s2.toks+1) C.inv (by rw[m];exact Zaq) hs he<|Jxo I hd (rel.put k rvx) G;have n:Nxt O W O (upd W a<|.dK<|putK ws k R):=#[#[[],03],Ext.upd_mut m<|by rw[m];exact Zaq];obtain⟨R3,_⟩:=C.rel.write (io:=.dct<|putD kvs k v) D m (by rw[m];exact Zaq) #[_,J2,RPs.putKK (RV.mono n _ _ qv)<|RPs.mono n _ _ F];exact wpAny_release<|j _ U _ O #[I4,R3,C.st.mono n] n
     .exact(j).elim
   |_=>exact(j).elim
 |_=>exact(j).elim
end
def leZ(a b:Int):Bool:=decide (a<=b)
def Qk(ns:Tq):Tq:=ns.mergeSort leZ
theorem Jpb(ns:Tq):(Qk ns).Pairwise (· <= ·):=by have:=List.pairwise_mergeSort (le:=leZ) (λa b c j L=>by simp only[leZ]at *;lia) (λa b=>by simp only[leZ];lia) ns;exact this.imp λh=>by simpa[leZ]using h
theorem Jpa{ns j:Tq}(p:j.Perm ns)(s:j.Pairwise (· <= ·)):j=Qk ns:=List.Perm.eq_of_pairwise (λa b _ _ k L=>Int.le_antisymm k L) s (Jpb ns) (p.trans (List.mergeSort_perm ns leZ).symm)
theorem Xt:∀{us:Tv}{ns:Tq},ZaZ us ns->Vals (ns.map hV.int) us|_,_,.nil=>.nil|_,_,.cons _ _ r=>.cons #[_,rfl]<|Xt r
theorem Jgn{K:W.Frag}{Y:Tw}{H:Hp}:∀ns:Tq,RVs K Y H (ns.map IV.int) (ns.map hV.int)|[]=>rfl|_::ns=>#[_,_,rfl,rfl,Jgn ns]
def srtI(xs:Tx):Option (Tx):=match JL xs with|some ns=>J<|(Qk ns).map .int|none=>Zc
section
variable{B:CeT}{X:Cx}
def XU:IV->IH->Res IV
 |.ref i,h=>match h[i]? with
  |some (.lst xs)=>if xs.length<64 then(match srtI xs with
   |some ys=>.ok (.ref h.length)<|h++[.lst ys]
   |none=>.stuck)else .stuck
  |_=>.stuck
 |_,_=>.stuck
theorem Juu:Ql B X (.builtin "sorted") (on1 XU):=Vf λV s U H Y Z h x xv u Q E N P qx K=>by
 cases x with
 |ref i=>
  obtain⟨a,F,ha⟩:=qx;subst F;cases P;dsimp only[XU]at K;cases C:h[i]? with|none=>rw[C]at K;exact(K).elim|some L=>
   rw[C]at K;cases L with
   |lst xs=>
    dsimp only at K;split at K
    .rename_i h64;obtain⟨O,F,I⟩:=N.at C ha;obtain⟨k,G,pl,hz⟩:=N.inv.list<|SqL.of F;have li:k.length=xs.length:=by rw[<-G.length,I.length]
     have hb:64<=sizeLine:=01;have fresh:=N.inv.hok.fresh<|Zay _;unfold srtI at K;cases D:JL xs with
     |some ns=>
      rw[D]at K;have m:=Vm D I G;have ln:=Y1 m;refine sorted_ints pl.isList m 05 λj ns' R hp M=>?_
      have en:=Jpa hp M;subst en;obtain⟨e,he⟩:=sortedAll_at s.heap k j;have S:((Qk ns).map hV.int).length<=sizeLine:=by rw[Zj,hp.length_eq];lia
      have W:=N.inv.laid (o:=.lst<|(Qk ns).map hV.int) (t':=s.toks) (λ_ _=>sortedAll_old) (Zay _) #[S,j.toList,e,Xt R,he];exact finA N K (s.heap.objs.size+1) fresh #[_,J2,Jgn _] _ _ W rfl
     |none=>rw[D]at K;exact(K).elim
    .exact(K).elim
   |_=>exact(K).elim
 |_=>exact(K).elim
end
def QA(f:Nat->Int):Nat->Int|0=>0|1=>f 0|j+2=>if f (j+1)<QA f (j+1)then f (j+1)else QA f (j+1)
theorem Jfd(f:Nat->Int)(k:0<j):QA f (j+1)=if f j<QA f j then f j else QA f j:=by cases j with|zero=>lia|succ j=>rfl
theorem Jog(f:Nat->Int):∀k,QA f (k+1)=f (argBest (λi j=>decide (f i<f j)) k)|0=>rfl|k+1=>by rw[Jfd f<|Nat.succ_pos k,Jog f k];show _=f (if decide (f (k+1)<f (argBest _ k))=Zg then k+1 else argBest _ k);simp;split<;>rfl
section
variable{pr:Z7}{wd:ZU}{cS:ZI}{E:QvT}{z:Zl}{l:Zm}{us:Tv}{ns:Tq}{Q:QvT}
theorem J0e(D:cS.handled=Zc)(j:z.heap.IsList l us.toArray)(hi:ZaZ us ns)(k:ns≠[])
  (G:∀v L tk,(∃u,v=.int (QA (λi=>ns.getD i 0) ns.length) u)->(∀b o,z.heap.get? b=J o->L.get? b=J o)->Q v {z with heap:=L,toks:=tk}):
  Zv (Zy pr wd) cS (call (.builtin "min") [.ref l]) Q E z:=by
 obtain⟨P,m,_⟩:=id j;have lt:=Zu m;have O:=Y1 hi;have I:0<ns.length:=List.length_pos_iff.mpr k;have sz:us.toArray.size=us.length:=ZV ..;have C:∀(i:Nat)(v:Zh),us.toArray[i]?=J v->∃t,v=.int ((λi=>ns.getD i 0) i) t:=λi v q=>ZeB hi i v<|by simpa using q
 refine call_min_walk (ZaO j #[_,[_,l],[_],_,_,_,_,rfl,Zc6 (A:=cS.in1) D _ l (Z1 lt) us.toArray,#[#[_,Zs _ rfl,rfl,rfl],j.push _],λb B=>?_,by rw[sz];lia,CmpOf.ints_lt (λi=>ns.getD i 0) C,λv F tk H M=>?_])
 .show b<(z.heap.push _).objs.size;rw[Zc7];rcases ZA.mp B with rfl|B
  .exact Zau _
  .cases Z2.mp B;exact Zbb lt
 .obtain⟨u,rfl⟩:=C _ _ H;have e:us.toArray.size-1+1=ns.length:=by rw[sz];lia
  refine G _ F tk #[u,?_] λb o e=>M b o (λq=>Z1 (Zu e)<|Z2.mp q)<|Ze _ e
  rw[<-e,Jog]
end
section
variable{B:CeT}{X:Cx}
def VQ:IV->IH->Res IV
 |.ref i,h=>match h[i]? with
  |some (.lst xs)=>(match JL xs with
   |some ns=>if ns=[]then .stuck else .ok (.int<|QA (λi=>ns.getD i 0) ns.length) h
   |none=>.stuck)
  |_=>.stuck
 |_,_=>.stuck
theorem J2g(F:X.A.handled=Zc):Ql B X (.builtin "min") (on1 VQ):=Vf λV s U H Y Z h x xv u Q E N G S K=>by
 cases x with
 |ref i=>
  obtain⟨a,C,ha⟩:=S;subst C;cases G;dsimp only[VQ]at K;cases j:h[i]? with|none=>rw[j]at K;exact(K).elim|some D=>
   rw[j]at K;cases D with
   |lst xs=>
    dsimp only at K;cases k:JL xs with|none=>rw[k]at K;exact(K).elim|some ns=>
     rw[k]at K;dsimp only at K;split at K
     .exact(K).elim
     .rename_i m;obtain⟨O,C,P⟩:=N.at j ha;obtain⟨R,I,pl,hz⟩:=N.inv.list<|SqL.of C;refine J0e F pl.isList (Vm k P I) m λv L W ⟨t,ev⟩ M=>?_
      subst ev;exact fin0 N K rfl _ _ (N.inv.kept M) #[t,rfl]
   |_=>exact(K).elim
 |_=>exact(K).elim
end
theorem RVs.erase{K:W.Frag}{Y:Tw}{H:Hp}:∀{xs:Tx}{O:Ud}(k:Nat),RVs K Y H xs O->RVs K Y H (xs.eraseIdx k) (O.eraseIdx k)|[],O,k,h=>by cases (h);exact rfl|_::_,_,0,h=>by obtain⟨v,r,rfl,q,t⟩:=h;exact t|_::_,_,k+1,h=>by obtain⟨v,r,rfl,q,t⟩:=h;exact#[v,r.eraseIdx k,rfl,q,RVs.erase k t]
section
variable{B:CeT}{X:Cx}
def isK(k:Int):Zh->Bool|.int a _=>a==k|_=>Zi
theorem Jsj:∀(us:Tv)(ns:Tq),us.length=ns.length->(∀i v,us[i]?=J v->∃t:Tok,v=ZdK (ns.getD i 0) t)->ZaZ us ns|[],[],_,_=>.nil|u::us,n::ns,hl,h=>by obtain⟨t,e⟩:=h 0 u rfl;cases (e);exact .cons n t (Jsj us ns (by simpa using hl) λi v q=>h (i+1) v q)|[],_::_,hl,_=>by cases hl|_::_,[],hl,_=>by cases hl
theorem XQ(j:Int):rngI 0 j=((ZR j.toNat).map λk=>((k:Nat):Int)).map IV.int:=by simp[rngI]
end
open AutoSeq1 (wpAny_loadPart') in
section
variable{prog:Z7}{w:ZU}{A:ZI}{E:QvT}{s:Zl}
end
noncomputable def Q6 (a:ZbW):Wx:=match a with| {posonlyargs:=[],args:=[p],vararg:=Zc,kwonlyargs:=[],kw_defaults:=[],kwarg:=Zc,defaults:=[]}=>J p.arg|_=>Zc
noncomputable abbrev lamQ (q:Str):Str:=q++".<locals>."++"<lambda>"
abbrev lamO(q:Str)(params:ZbW)(body:Expr)(scope:Zbm)(cl:Wo)(pm ctv:Zh)(c:Zm):Obj:=W.kla_obj "<lambda>" (lamQ q) params body scope cl pm c ctv
def Q8(mg:Str->Tc)(base:Zam):Prop:=∃bm ob,mg "__builtins__"=J (.ref bm)/\bm≠Zc4/\bm≠Zn/\base.get? bm=J ob/\ob.cls=.type "module"/\ob.dict=J Zc4/\ob.data=.plain
theorem QK.rec(l:QK H q cv)(hok:HOk P w H h):h.CodeRec cv (lamQ q):=by obtain⟨c,m,O,t,B,j,u,k⟩:=l;exact#[c,m,O,t,B,(hok c _ j).1,u,k]
theorem QK.mono(k:∀b o u,H b=J (.frz o u)->H' b=J (.frz o u))(l:QK H q cv):QK H' q cv:=by obtain⟨c,B,O,t,m,j,r⟩:=l;exact#[c,B,O,t,m,k _ _ _ j,r]
theorem Jip:∀(l:Tv),TriplesOk l->ZdO pos (l++[Za9 a,Za9 b,c])=J cv->ZdO pos l=J cv\/cv=c
 |[],_,e=>by
  simp only[Zav,Za9,ZdO]at e;split at e
  .cases e;exact .inr rfl
  .cases e
 |.int x t::.int y u::z::rest,h,e=>by
  simp only[Zac,ZdO]at e ⊢;split at e
  .rename_i j;rw[if_pos j];exact .inl e
  .rename_i j;rw[if_neg j];exact Jip rest h e
 |[.int _ _],h,_=>(h).elim
 |[.int _ _,.int _ _],h,_=>(h).elim
section
variable{B:CeT}{X:Cx}
theorem Now.pinO{V:PnT}{Y:Tw}{Z:ISt}{h:IH}{U:L2.St}{H:Hp}{s:Zl}{f:Zm}{j:Obj}(N:Now B X V Y Z h U H s)(e:s.heap.get? f=J j)(F:FpOk X V H f)(d:∀v,j.data≠.cell v):Now B X (V++[(f,j)]) Y Z h U H s:=by
 have I:=N.inv.pinned (λb k=>by rw[Z2.mp k];exact F) (λb k=>by rw[Z2.mp k];exact#[j,e,d]);have m:QR [f] s.heap=[(f,j)]:=by simp[QR,e]
 rw[m]at I;exact#[I,N.rel,N.st]
theorem Jka{q:Str}{j:Nat}{params:ZbW}{G:Expr}{scope:Zbm}{pos:Pos}{cl:Wo}{V:PnT}{s:Zl}{U:L2.St}{H:Hp}{Y:Tw}{Z:ISt}{h:IH}{Q E:QvT}
  (N:Now B X V Y Z h U H s)(hj:h[j]?=J (.tab q))(hcd:W.codeIn X.K X.env.code q=Zg)(hq:X.env.qual=q++".<locals>.")(hdef:defaultsOf params X.env=([],[]))(hcl:ZeT scope X.env=pure cl)(cS:Q8 X.mg X.base)
  (K:∀f c pm D s' H',Now B X (V++[(f,lamO q params G scope cl pm D c)]) Y Z h U H' s'->Nxt Y H Y H'->QK H' q (.ref c)->Q (.ref f) s'):
  Zv (Zy X.prog X.w) X.A (ZaQ (.Lambda params G scope pos) X.env) Q E s:=by
 obtain⟨a,ha,hc,ps,P,ht,F⟩:=N.rel.at_ j _ hj;obtain⟨c,ec,hhd⟩:=hc _ hcd;have I:=N.inv;have C:=W.codeHd_of_K I.kIn hhd;have gP:s.heap.get? a=J (W.tabObj ps):=I.hok a _ P;have hg:s.heap.Ns Zn X.mg:=I.ok.mod.glob.keeps I.bk;obtain⟨bm,ob,b1,b2,b3,b4,b5,b6,b7⟩:=cS;have gb:=I.bs bm ob b4;have nba:bm≠a:=λz=>by rw[z,P]at gb;cases gb.2
 have k:s.heap.BuiltinsAt X.mg a:=#[bm,ob,b1,b2,b3,nba,gb.1,b5,b6,b7];have nga:Zn≠a:=λz=>by obtain⟨o,es,ep,e,d,_⟩:=hg;rw[z,gP]at e;cases e;cases d
 refine W.kla_eval hdef ?_;rw[hq];cases ea:ZdO pos ps.toList with
 |some cv=>
  have LC:=F pos cv ea;obtain⟨M,oc,O,t,ecv,_⟩:=id LC;subst ecv;refine W.kla_makeFunctionHit hcl I.ok.glob hg ec C gP ht ea k λD h' tk hk hsz=>?_
  have I1:=I.kept (h':=h'.push<|lamO q params G scope cl ((X.mg "__name__").getD .none) D M) (t':=tk) λb o e=>Ze _<|hk b o e
  have N1:Now B X V Y Z h U H _:=#[I1,N.rel,N.st];exact K h'.objs.size M _ D _ H (N1.pinO (Zs _ rfl) (I.fpOk hsz<|I.hok.fresh hsz) λv z=>by have z':Data.func _=Data.cell v:=z;cases z') .refl LC
 |none=>
  refine W.kla_makeFunction hcl I.ok.glob hg ec C gP ht ea nga k λM D h' tk hx hge hlt hrec htb=>?_
  obtain⟨c2,oc,O,t,e2,hoc,hd,hv⟩:=hrec;cases e2;generalize hps:ps++(ZaE [Za9 pos.line,Za9 pos.col,.ref M])=S at htb;generalize hob:lamO q params G scope cl ((X.mg "__name__").getD .none) D M=fo;have fc:H M=Zc:=I.hok.fresh hge;have nca:M≠a:=λz=>by rw[z,P]at fc;cases fc
  have lts:s.heap.objs.size<=h'.objs.size:=ZM hge<|Zbn hlt;obtain⟨H',hH⟩:∃H',H'=upd (upd H a<|.tbl S) M (.frz oc<|.own 0):=#[_,rfl];have Ha:H' a=J (.tbl S):=by rw[hH,Jo<|ZP nca,J2]
  have Hc:H' M=J (.frz oc<|.own 0):=by rw[hH,J2]
  have Ho:∀b,b≠a->b≠M->H' b=H b:=λb h1 L=>by rw[hH,Jo L,Jo h1]
  have kp:∀b o,b≠a->s.heap.get? b=J o->(h'.push fo).get? b=J o:=λb o k e=>Ze _<|hx b o k e
  have ga:(h'.push fo).get? a=J (W.tabObj S):=Ze _ htb;have frz:∀b o u,H b=J (.frz o u)->H' b=J (.frz o u):=λb o u e=>by rw[Ho b (λz=>by rw[z,P]at e;cases e) λz=>by rw[z,fc]at e;cases e];exact e
  have tup:∀b xs,H b=J (.tup xs)->H' b=J (.tup xs):=λb xs e=>by rw[Ho b (λz=>by rw[z,P]at e;cases e) λz=>by rw[z,fc]at e;cases e];exact e
  have own:∀b x,H b=J (.own x)->H' b=J (.own x):=λb x e=>by rw[Ho b (λz=>by rw[z,P]at e;cases e) λz=>by rw[z,fc]at e;cases e];exact e
  have I1:Inv X V U H' {s with heap:=h'.push fo,toks:=tk}:=by
   refine I.step (g':=s.gens) (d':=s.drawn) (ch:=[]) (λb k=>absurd k 03) (λb o _ _ _ e n=>kp b o (λz=>by rw[z,P]at n;cases n) e) (λb o _ _ _ e n=>#[o.slots,kp b o (λz=>by rw[z,P]at n;cases n) e]) (λb o _ e n=>?_) (λb o _ e=>?_) tup frz (λb qs e=>?_) (λm hm=>?_) (λb u e=>?_) I.bare
   .rw[Ho b (λz=>by rw[z,P]at n;cases n)<|Z1<|ZF (Zu e) hge];exact n
   .by_cases k:b=a
    .subst k;exact#[_,ga]
    .exact#[o,kp b o k e]
   .by_cases k:b=a
    .subst k;rw[P]at e;cases e;exact#[_,by rw[Ha,<-hps]]
    .exact#[#[],by rw[Ho b k (λz=>by rw[z,fc]at e;cases e),e];simp]
   .obtain⟨o,es,ep,ho,r⟩:=hm;exact#[o,es,ep,kp _ o (λz=>by have:=I.free;rw[z,P]at this;cases this) ho,r]
   .by_cases k:b=a
    .subst k;rw[Ha]at e;cases e;exact ga
    .by_cases hb2:b=M
     .subst hb2;rw[Hc]at e;cases e;exact#[Ze _ hoc,_,Ze _ hoc]
     .rw[Ho b k hb2]at e;refine(I.hok b u e).stay (λd v hd r=>kp d v (λz=>?_) r) (λd z=>own d _ z) tup;subst z;rcases hd with z|z
      .exact k z.symm
      .rw[P]at z;cases z
  have n:Nxt Y H Y H':=#[#[[],03],#[tup,frz]];have LC:QK H' q (.ref M):=#[M,oc,O,t,rfl,Hc,hd,hv];have R:Rel B X.K Y h H':=by
   refine#[N.rel.len,N.rel.nd,λi o e=>?_];obtain⟨b,eb,ro⟩:=N.rel.at_ i o e;refine#[b,eb,?_];by_cases k:b=a
   .subst k;have hij:i=j:=N.rel.inj eb ha;subst hij;rw[hj]at e;cases e;refine#[hc,S,Ha,?_,λpos' cv ea'=>?_]
    .rw[<-hps,Array.toList_append];exact TriplesOk_snoc _ _ _ _ ht
    .rw[<-hps,Array.toList_append]at ea';rcases Jip ps.toList ht ea' with z|z
     .exact(F pos' cv z).mono frz
     .rw[z];exact LC
   .refine ro.mono n λu hu=>?_
    rw[Ho b k λz=>by rw[z,fc]at hu;cases hu];exact hu
  have N1:Now B X V Y Z h U H' _:=#[I1,R,N.st.mono n];subst hob;exact K h'.objs.size M _ D _ H' (N1.pinO (Zs _ rfl) (I.fpOk lts<|by rw[Ho _ (ZaT<|ZF (Zu gP) lts)<|ZaT hlt];exact I.hok.fresh lts) λv z=>by have z':Data.func _=Data.cell v:=z;cases z') n LC
end
abbrev envL(q:Str)(scope:Zbm)(hJ f:Zm)(cd:Zh)(cl:Wo):Env:=newEnv scope hJ Zn cl (lamQ q++".<locals>.") (J f) cd Zc Zc4
def cxL(X:Cx)(A:ZI)(N':Tl)(q:Str)(scope:Zbm)(f:Zm)(cd:Zh)(s:Zl)(H:Hp):Cx:={X with A:=A.deeper<|envL q scope s.heap.objs.size f cd<|clOf X.env.cells scope.names [],N:=N',s₀:=s,H₀:=H,env:=envL q scope s.heap.objs.size f cd<|clOf X.env.cells scope.names [],outer:=X.stack,stack:=envL q scope s.heap.objs.size f cd (clOf X.env.cells scope.names [])::X.stack,ex:=[],calm:=Zg,fn:=λ_=>Zi,pn:=[],xe:=λ_ _=>False}
structure LamSc(N0:Tl)(sc₀:Wh)(x:Str)(caps:Tl)(js:Tr)(scope:Zbm):Prop where
 kind:scope.kind=.function
 co:scope.isCoroutine=Zi
 gen:scope.isGenerator=Zi
 nocell:∀y∈scope.names,y.2≠.cell
 par:scope.names.lookup x=J .local
 free:∀y∈scope.names,y.2=.free->sc₀.lookup y.1=J .cell
 fr:∀y,scope.names.lookup y=J .free->(y,.free)∈scope.names
 cap:∀(k j:Nat)(y:Str),js[k]?=J j->caps[k]?=J y->N0[j]?=J y/\scope.names.lookup y=J .free
 len:js.length=caps.length
 nd:(x::caps).Nodup
theorem Jus:Ze5 (W.kla_fn nm qu {posonlyargs:=[],args:=[p],vararg:=Zc,kwonlyargs:=[],kw_defaults:=[],kwarg:=Zc,defaults:=[]} body scope cl pm cd ctv) #[[u],[]]=pure [(p.arg,u)]:=by have e:(ZcY p.arg [(p.arg,u)]).isNone=Zi:=03;unfold Ze5;simp[Zfk,e];rfl
section
variable{B:CeT}{X:Cx}
theorem Jnl{k:Nat}{A:ZI}{q x:Str}{D:Tl}{js:Tr}{params:ZbW}{F:Expr}{scope:Zbm}{pm ctv:Zh}{c f:Zm}{m:E1}{v:IV}{u:Zh}{V:PnT}{s:Zl}{U:L2.St}{H:Hp}{Y:Tw}{Z:ISt}{h:IH}{Q E:QvT} (hA:A.frames=J X.stack)(hr:Room (k+1) A)(N:Now B X V Y Z h U H s)(hf:s.heap.get? f=J (lamO q params F scope (clOf X.env.cells scope.names []) pm ctv c))(LC:QK H q<|.ref c)(hx:Q6 params=J x)(S:LamSc X.N X.env.scope.names x D js scope) (hb:∀s' H',PEi B (cxL X A (x::D) q scope f (.ref c) s' H') F m)(ru:RU X.K Y H v u)(K:Kont B X RU V Y Z U H ((m (J v::js.map λj=>(Z[j]?).join) h).nx) Q E):Zv (Zy X.prog X.w) A (call (.ref f) [u]) Q E s:=by
 have I:=N.inv;have R:=I.env0;have lim:s.heap.NoLimit:=R.mod.nolimit.keeps λb o e=>(R.bs b o e).1
 refine Zc5<|W.kla_callFunE hr.depth hf rfl S.co S.gen rfl (LC.rec I.hok) ?_;have L:Ze5 (W.kla_fn "<lambda>" (lamQ q) params F scope (clOf X.env.cells scope.names []) pm (.ref c) ctv) #[[u],[]]=pure [(x,u)]:=by
  unfold Q6 at hx;split at hx
  .cases hx;exact Jus
  .cases hx
 rw[L];refine Zk (wpAny_newFunctionEnv S.nocell (λy hy=>by rw[Z2.mp hy];exact S.par) (λh3 hns hsb=>#[lim.fresh _ hsb,?_]) S.kind);obtain⟨w,rw',qw⟩:=ru;have keep:∀b o,s.heap.get? b=J o->h3.get? b=J o:=λb o z=>(hsb.2 b<|Z1<|Zu z).trans<|Ze _ z
 have C:∀y d,(clOf X.env.cells scope.names []).lookup y=J d->X.env.cells.lookup y=J d:=Jjv _ _ (λy d z=>by simp at z);have okX:(cxL X A (x::D) q scope f (.ref c) s H).Ok:=by
  have M:∀b:Zm,b∉(cxL X A (x::D) q scope f (.ref c) s H).ex:=λb z=>absurd (show b∈([]:Tw)from z) 03
  refine#[I.ok.mod,S.kind,rfl,rfl,Zq _,λy y' d a b=>I.ok.inj y y' d (C y d a)<|C y' d b,λy hy=>?_,λy d z=>absurd (show Zi=Zg from z) Zt,λ_=>hr.hd,Around.frames_deeper hA,.inr #[rfl,rfl],λb z=>absurd z<|M b,R.bs,R.bsz,λb _ _=>M b,λb z=>absurd z<|M b,R.funs,R.frf];have hy':=hy;rcases hy' with z|z
  .exact absurd rfl (S.nocell _<|Zak z)
  .have hm:=Zak z;obtain⟨d,hd⟩:=I.ok.has y<|.inl<|S.free (y,.free) hm rfl;exact ZaR.mp<|Yr _ _ y d hm hd
 have I3:Inv (cxL X A (x::D) q scope f (.ref c) s H) [] (J w::js.map λj=>(U[j]?).join) H {s with heap:=h3,toks:=s.toks+[(x,u)].length}:=by
  refine#[okX,rfl,I.bare,Un.kept keep,#[_,hns,λi y z a b cc=>?_],λy d z=>?_,I.hok.fresh<|Zq _,λy d z=>I.freeC y d<|C y d z,λp hp=>absurd (show p∈([]:PnT)from hp) 03,I.hok.kept keep,by show _=(x::D).length;simp[S.len]]
  .cases i with|zero=>have G:J x=J y:=a;cases G;have P:J (J w)=J (J z):=b;cases P;exact#[u,rw',.inl #[S.par,03]]|succ i=>
    have G:D[i]?=J y:=a;have P:(js.map λj=>(U[j]?).join)[i]?=J (J z):=b;rw[Z4]at P;cases O:js[i]? with|none=>rw[O]at P;cases P|some j=>
     rw[O]at P;have b2:(U[j]?).join=J z:=Zas P;have hZ:U[j]?=J (J z):=by cases es:U[j]? with|none=>rw[es]at b2;cases b2|some o=>rw[es]at b2;rw[show o=J z from b2]
     obtain⟨hx1,hx2⟩:=S.cap i j y O G;have hm:=Zak hx2;have hk:=S.free (y,.free) hm rfl;obtain⟨m0,hn,hl⟩:=I.loc;obtain⟨u',ru',lk⟩:=hl j y z hx1 hZ<|.inr<|.inl hk;rcases lk with⟨e,_⟩|⟨e,d,hd,hcell⟩
     .have hk':X.env.scope.names.lookup y=J .cell:=hk;have e':X.env.scope.names.lookup y=J .local:=e;rw[hk']at e';cases e'
     .obtain⟨d',hd2⟩:=ZaR.mp<|Yr (cells:=X.env.cells) scope.names [] y d hm hd;have:=C y d' hd2;rw[hd]at this;cases this;obtain⟨oc,hoc,hdd⟩:=hcell;exact#[u',ru',.inr #[.inr hx2,d,hd2,oc,keep _ _ hoc,hdd]]
  .obtain⟨z',o,ho,hd⟩:=I.cell y d<|C y d z;exact#[z',o,keep _ _ ho,hd]
 have N3:Now B (cxL X A (x::D) q scope f (.ref c) s H) [] Y (J v::js.map λj=>(Z[j]?).join) h (J w::js.map λj=>(U[j]?).join) H {s with heap:=h3,toks:=s.toks+[(x,u)].length}:=by
  refine#[I3,N.rel,03,λi z a=>?_];cases i with|zero=>have G:J (J v)=J (J z):=a;cases G;exact#[w,rfl,qw]|succ i=>
   have G:(js.map λj=>(Z[j]?).join)[i]?=J (J z):=a;rw[Z4]at G;cases O:js[i]? with|none=>rw[O]at G;cases G|some j=>
    rw[O]at G;have a2:(Z[j]?).join=J z:=Zas G;have hZ:Z[j]?=J (J z):=by cases es:Z[j]? with|none=>rw[es]at a2;cases a2|some o=>rw[es]at a2;rw[show o=J z from a2]
    obtain⟨z',ez,qz⟩:=N.st.2 j z hZ;refine#[z',?_,qz];show(js.map λj=>(U[j]?).join)[i]?=J (J z');rw[Z4,O];show J ((U[j]?).join)=_;rw[ez];rfl
 refine W.kla_codeExpr<|Zaf (hb s H [] _ _ H Y _ h (λu' s'=>Q u' s') (λ_ _=>False) N3 ?_) (λ_ _ z=>z) λ_ _ z=>z.elim
 cases er:m (J v::js.map λj=>(Z[j]?).join) h with|ok v' h'=>rw[er]at K;intro u' s' H' Y' N' n' ⟨z,rz,qz⟩;have cK:=N'.inv;obtain⟨_,_,I',rz',e1,e2⟩:=I.after (Q:=λz2 H2=>z2=z/\H2=H') #[z,H',cK.os,cK.bare,cK.base,cK.hok,rz,rfl,rfl];subst e1;subst e2;exact K u' s' _ Y' #[I',N'.rel,N.st.mono n'] n' #[_,rz',qz]|exc n h'=>rw[er]at K;exact Zf K|stuck=>rw[er]at K;exact Zf K
end
def Vn(gt:IV->IV->Ww)(mk:IV->IH->Res IV)(i n:Nat):Nat->IV->IV->IH->Res IV|0,b,_,h=>(match h[i]? with|some (.lst ys)=>if ys.length=n then .ok b h else .stuck|_=>.stuck)|r+1,b,kb,h=>(match h[i]? with|some (.lst ys)=>if ys.length=n then(match ys[n-(r+1)]? with|some y=>(mk y h).nx.bind λk h'=>(match gt k kb with|some Zg=>Vn gt mk i n r y k h'|some Zi=>Vn gt mk i n r b kb h'|none=>.stuck)|none=>.stuck)else .stuck|_=>.stuck)
def Xl(gt:IV->IV->Ww)(mk:IV->IH->Res IV)(i:Nat)(d:Tg)(h:IH):Res IV:=match h[i]? with|some (.lst ys)=>(match ys[0]? with|some y=>(mk y h).nx.bind λk h'=>Vn gt mk i ys.length (ys.length-1) y k h'|none=>(match d with|some d=>.ok d h|none=>.stuck))|_=>.stuck
theorem FpOk.more{X:Cx}{V:PnT}{H:Hp}{b:Zm}{p:Zm×Obj}(F:FpOk X V H b)(ne:p.1≠b):FpOk X (V++[p]) H b:=by
 refine#[F.1,F.2.1,F.2.2.1,F.2.2.2.1,F.2.2.2.2.1,λq j=>?_];rcases ZZ.mp j with z|z
 .exact F.2.2.2.2.2 q<|Zax _ z
 .rcases ZZ.mp z with z|z
  .exact F.2.2.2.2.2 q<|Zp _ z
  .rw[Z2.mp z];exact ne
theorem FpOk.at{X:Cx}{V:PnT}{H H':Hp}{b:Zm}(F:FpOk X V H b)(n:H' b=Zc):FpOk X V H' b:=#[n,F.2]
theorem Jn4{xs:Ud}{us:Tv}{i:Nat}{u:Zh}(r:Vals xs us)(e:us[i]?=J u):∃x,xs[i]?=J x/\RelV x u:=by have m:=(Zo.mp e).1;have B:=r.length;have j:i<xs.length:=00;have hx:=Zd j;obtain⟨C,k,q⟩:=r.get hx;rw[e]at k;cases k;exact#[_,hx,q]
section
variable{B:CeT}{X:Cx}
theorem Now.turned{V:PnT}{Y:Tw}{Z:ISt}{h:IH}{U:L2.St}{H:Hp}{s:Zl}{it:Zm}{h':Zam}{t':Nat}(N:Now B X V Y Z h U H s)(F:FpOk X V H it)(k:∀b o,b≠it->s.heap.get? b=J o->h'.get? b=J o):Now B X V Y Z h U H {s with heap:=h',toks:=t'}:=#[N.inv.turned k F.1 F.2.1 F.2.2.2.1 F.2.2.2.2.1 F.2.2.2.2.2,N.rel,N.st]
theorem Now.keptH{V:PnT}{Y:Tw}{Z:ISt}{h:IH}{U:L2.St}{H:Hp}{s:Zl}{h':Zam}{t':Nat}(N:Now B X V Y Z h U H s)(k:∀b o,s.heap.get? b=J o->h'.get? b=J o):Now B X V Y Z h U H {s with heap:=h',toks:=t'}:=#[N.inv.kept k,N.rel,N.st]
def CmpK(B:CeT)(X:Cx)(A:ZI)(op:CmpOp)(gt:IV->IV->Ww):Prop:=∀(V:PnT)(Y:Tw)(Z:ISt)(h:IH)(U:L2.St)(H:Hp)(s:Zl)(k kb:IV)(u ub:Zh)(b:Bool)(Q:QvT)(E:QvT),Now B X V Y Z h U H s->RU X.K Y H k u->RU X.K Y H kb ub->gt k kb=J b ->(∀h' t',(∀a o,s.heap.get? a=J o->h'.get? a=J o)->Q (.bool b) {s with heap:=h',toks:=t'})->Zv (Zy X.prog X.w) A (Ze9 op u ub) Q E s
def X2(B:CeT)(X:Cx)(A:ZI)(Z:ISt)(U:L2.St)(V:PnT)(G:Hp->Prop)(fv:Zh)(mk:IV->IH->Res IV):Prop:=∀(pl:PnT)(s:Zl)(H:Hp)(Y:Tw)(h:IH)(v:IV)(u:Zh)(Q:QvT),Now B X (V++pl) Y Z h U H s->G H->RU X.K Y H v u->Kont B X RU (V++pl) Y Z U H (mk v h).nx Q (λ_ _=>False) ->Zv (Zy X.prog X.w) A (call fv [u]) Q (λ_ _=>False) s
theorem Js8{α γ:Type}{V:PnT}{Y:Tw}{Z:ISt}{U:L2.St}{H:Hp}{R:REL α Zh}{R':REL γ Zh}{r:Res α}{g:α->IH->Res γ}{Q E:QvT}{pl:PnT}{m:QvT} (K:Kont B X R' V Y Z U H (r.nx.bind g) Q E) (step:∀x h1 u s1 H1 j,Now B X (V++pl) j Z h1 U H1 s1->Nxt Y H j H1->R X.K j H1 x u->Kont B X R' V j Z U H1 (g x h1) Q E->m u s1):Kont B X R (V++pl) Y Z U H r.nx m (λ_ _=>False):=by cases r with|ok v C=>exact λu D I F G k q=>step v C u D I F G k q<|Kont.mono K k|exc n C=>exact(K).elim|stuck=>exact(K).elim
section
variable{A:ZI}{R:Zec->Zl->Prop}{Q E:QvT}{V:PnT}{Z:ISt}{U:L2.St}{G:Hp->Prop}{fq:Zm}{mk:IV->IH->Res IV}{gt:IV->IV->Ww}{i n:Nat}{l I C:Zm}{kw:Wl}
theorem Jz6(M:Mm nm hJ op)(hh:A.handled=Zc)(cm:CmpK B X A.in1 op gt)(ko:X2 B X A.in1 Z U V G (.ref fq) mk)(hG:∀H H',Ext H H'->G H->G H')(hR:∀v s',Q v s'->R (.ok<|.ret v) s')(F:I≠C):
  ∀(r j:Nat)(z:Zl)(H:Hp)(Y:Tw)(h:IH)(b kb:IV)(vb P:Zh)(c:Nat),n-j=r->0<j->j<=n->Now B X V Y Z h U H z->G H->Y[i]?=J l->FpOk X V H I->FpOk X V H C->z.heap.IsListIter I l j ->
   z.heap.get? C=J (ZY "list" (ZaE [vb,P]) c)->RU X.K Y H b vb->RU X.K Y H kb P->Kont B X RU V Y Z U H (Vn gt mk i n r b kb h) Q E ->
   ZbI (Zy X.prog X.w) A (.builtin hJ #[[.ref I,.ref fq,.ref C],kw]) R z:=by
 intro r;induction r with
 |zero=>
  intro j z H Y h b kb vb P c hr h0 hj N g hi fI fC st gC rb rk K;obtain rfl:j=n:=00;unfold Vn at K;cases eh:h[i]? with|none=>rw[eh]at K;exact Zf K|some ob=>
   rw[eh]at K;cases ob with
   |lst ys=>
    dsimp only at K;split at K
    .rename_i D;obtain⟨ws,e1,r3⟩:=N.at eh hi;obtain⟨m,O,pl,_⟩:=N.inv.list<|SqL.of e1;have ne:l≠I:=λq=>by have:=fI.1;rw[<-q,e1]at this;cases this
     have sz:m.toArray.size=j:=by rw[ZV,<-O.length,r3.length,D]
     have W:=Zc6 (prog:=X.prog) (w:=X.w) (A:=A.in1) hh I l ne m.toArray;refine Zai M.en ?_;rw[Za2 M.pl _];show Zv _ A.in1 (Zfk (.ref C)>>=_) _ _ z;refine Zb<|Zb1 gC rfl ?_;refine Zb (ZaG<|W.done z _ _ #[by rw[sz];exact st,pl.isList] λL tk keep=>?_);have gC2:=keep C _ (λq=>F (Z2.mp q).symm) gC;have N1:=N.turned (h':=L) (t':=tk) fI λb o hb e=>keep b o (λq=>hb<|Z2.mp q) e
     show Zv _ A.in1 (updateSeq C (λ_=>#[])>>=_) _ _ _;refine Zb ?_;refine ZbT gC2 rfl (Zb<|ZbE<|Zk ?_);have N2:=N1.turned (h':=L.update C<|Zag λ_=>#[]) (t':=tk) fC λb o hb e=>(Zw _ _<|ZP hb).trans e
     exact hR _ _<|K _ _ _ _ N2 .refl rb
    .exact Zf K
   |_=>exact Zf K
 |succ r ih=>
  intro j z H Y h b kb vb P c hr h0 hj N g hi fI fC st gC rb rk K;unfold Vn at K;cases eh:h[i]? with|none=>rw[eh]at K;exact Zf K|some ob=>
   rw[eh]at K;cases ob with
   |lst ys=>
    dsimp only at K;split at K
    .rename_i D;obtain⟨ws,e1,r3⟩:=N.at eh hi;obtain⟨m,O,pl,_⟩:=N.inv.list<|SqL.of e1;have ne:l≠I:=λq=>by have:=fI.1;rw[<-q,e1]at this;cases this
     have sz:m.toArray.size=n:=by rw[ZV,<-O.length,r3.length,D]
     have ej:n-(r+1)=j:=00;rw[ej]at K;have W:=Zc6 (prog:=X.prog) (w:=X.w) (A:=A.in1) hh I l ne m.toArray;refine Zai M.en ?_;rw[Za2 M.pl _];show Zv _ A.in1 (Zfk (.ref C)>>=_) _ _ z;refine Zb<|Zb1 gC rfl ?_;refine Zb (ZaG<|W.item j z _ _ (by rw[sz];omega) #[st,pl.isList] λy L tk hP st2 keep=>?_);have ey:m[j]?=J y:=by simpa using hP
     obtain⟨x,ex,rx⟩:=Jn4 O ey;obtain⟨yv,eyv,qy⟩:=r3.get' ex;rw[eyv]at K;dsimp only at K;have gC2:=keep C _ (λq=>F (Z2.mp q).symm) gC;have N1:=N.turned (h':=L) (t':=tk) fI λb o hb e=>keep b o (λq=>hb<|Z2.mp q) e
     obtain⟨oI,hoI,hoc,hod⟩:=id st2.1;have N2:=(N1.pinO gC2 fC λv z=>by cases z).pinO hoI (FpOk.more (p:=(C,ZY "list" (ZaE [vb,P]) c)) fI<|ZP F) λv z=>by rw[hod]at z;cases z
     rw[Zaa]at N2;refine Zb<|ZaG<|ZO<|nof<|ko _ _ _ _ _ yv y _ N2 g #[x,rx,qy]<|Js8 K λk h3 u s3 H3 U3 N3 n3 ru K3=>?_
     have pC:=N3.inv.pin (C,ZY "list" (ZaE [vb,P]) c)<|Zp _<|Zp _ 03;have pI:=N3.inv.pin (I,oI)<|Zp _<|Zp _ 03;have N4:=N3.pins;have hi3:=n3.at hi;have g3:=hG _ _ n3.ext g;have fI3:=FpOk.at (H':=H3) fI pI.2.1;have fC3:=FpOk.at (H':=H3) fC pC.2.1;have it3:s3.heap.IsListIter I l (j+1):=#[oI,pI.1,hoc,hod];have ry3:RU X.K U3 H3 yv y:=RU.mono n3 #[x,rx,qy];cases eg:gt k kb with|none=>rw[eg]at K3;exact Zf K3|some bb=>
      show Zv _ A.in1 (tryCatch (Zcb [y,u]<|Ze9 op u P>>=_) _>>=_) _ _ _;refine Zb<|ZaG<|ZO<|Zb<|cm _ _ _ _ _ _ _ k kb u P bb _ _ N4 ru (rk.mono n3) eg λh5 t5 k5=>?_
      refine Zb<|ZO<|Zbq ?_;refine Zb<|ZbE<|Zk ?_;have N5:=N4.keptH (h':=h5) (t':=t5) k5;have gC5:=k5 _ _ pC.1;obtain⟨oI5,hoI5,S,hod5⟩:=id it3;have it5:h5.IsListIter I l (j+1):=#[oI5,k5 _ _ hoI5,S,hod5];rw[eg]at K3;cases bb with
      |true=>
       simp only[if_true];refine Zb ?_;refine ZbT gC5 rfl (Zb<|ZbE ?_);rw[M.nm];have N6:=N5.turned (h':=h5.update C<|Zag λ_=>(ZaE [y,u])) (t':=t5) fC3 λb o hb e=>(Zw _ _<|ZP hb).trans e
       obtain⟨c2,hc2⟩:∃c2,(h5.update C<|Zag λ_=>(ZaE [y,u])).get? C=J (ZY "list" (ZaE [y,u]) c2):=#[_,Zbf gC5 λ_=>(ZaE [y,u])];refine Zk #[Za7 M.pl _,ih (j+1) _ H3 U3 h3 yv k y u c2 00 00 00 N6 g3 hi3 fI3 fC3 ?_ hc2 ry3 ru K3];exact#[oI5,(Zw _ _<|ZP F).trans<|k5 _ _ hoI5,S,hod5]
      |false=>simp only[Zb0,if_false];refine Zb<|ZbE ?_;rw[M.nm];exact Zk #[Za7 M.pl _,ih (j+1) _ H3 U3 h3 b kb vb P c 00 00 00 N5 g3 hi3 fI3 fC3 it5 gC5 (rb.mono n3) (rk.mono n3) K3]
    .exact Zf K
   |_=>exact Zf K
theorem Jz5{F:Fin->Zl->Prop}(M:Mm nm hJ op)(hh:A.handled=Zc)(cm:CmpK B X A.in1 op gt)(ko:X2 B X A.in1 Z U V G (.ref fq) mk)(hG:∀H H',Ext H H'->G H->G H')(N:Now B X V Y Z h U H z)(g:G H)(hi:Y[i]?=J l)(rd:∀y,d=J y->∃u,dv=J u/\RU X.K Y H y u)
  (hR:∀v s',Q v s'->R (.ok<|.ret v) s')(hF:∀c s',c.quiet=Zg->ZbI (Zy X.prog X.w) A c R s'->F (.again c) s')(K:Kont B X RU V Y Z U H (Xl gt mk i d h) Q E):
  Zv (Zy X.prog X.w) A.in1 (Zdv (.ref l)>>=λit=>newList []>>=λc=>again<|.builtin (toString nm++toString ".loop") #[[it,.ref fq,c],dv.toList.map λu=>(ZW "default",u)]) F E z:=by
 unfold Xl at K;cases eh:h[i]? with|none=>rw[eh]at K;exact Zf K|some ob=>
  rw[eh]at K;cases ob with
  |lst D=>
   dsimp only at K;obtain⟨ws,e1,r3⟩:=N.at eh hi;obtain⟨m,rv2,pl,_⟩:=N.inv.list<|SqL.of e1;have hl:=pl.isList;obtain⟨ol,hol,_⟩:=id hl;have lt:l<z.heap.objs.size:=Zu hol;have sz:m.toArray.size=D.length:=by rw[ZV,<-rv2.length,r3.length]
   refine Zb<|ZaO hl ?_;refine Zb<|ZbX ?_<|ZN _;rw[M.nm];have ne:l≠z.heap.objs.size:=Z1 lt;have W:=Zc6 (prog:=X.prog) (w:=X.w) (A:=A.in1) hh z.heap.objs.size l ne m.toArray;have hS:(z.heap.push<|liOb l).objs.size=z.heap.objs.size+1:=Zc7 ..;obtain⟨C,O⟩:∃C,C=(z.heap.push<|liOb l).objs.size:=#[_,rfl];have j:z.heap.objs.size≠C:=by rw[O,hS];exact Z1<|Zau _
   have old:∀b o,z.heap.get? b=J o->((z.heap.push<|liOb l).push<|ZY "list" #[] 0).get? b=J o:=λb o e=>Ze _<|Ze _ e
   have gI:((z.heap.push<|liOb l).push<|ZY "list" #[] 0).get? z.heap.objs.size=J (liOb l):=Ze _<|Zs _ rfl;have gC:((z.heap.push<|liOb l).push<|ZY "list" #[] 0).get? C=J (ZY "list" #[] 0):=by rw[O];exact Zs _ rfl
   rw[<-O];have fI:FpOk X V H z.heap.objs.size:=N.inv.fpOk (Zq _)<|N.inv.hok.fresh<|Zq _;have fC:FpOk X V H C:=N.inv.fpOk (by rw[O,hS];exact Zay _) (N.inv.hok.fresh<|by rw[O,hS];exact Zay _);have N0:=N.keptH (t':=z.toks) old;refine Zk<|hF _ _ (Za7 M.pl _)<|Zai M.en ?_;rw[Za2 M.pl _];show Zv _ A.in1 (Zfk (.ref _)>>=_) _ _ _;refine Zb<|Zb1 gC rfl ?_;cases e0:D[0]? with
   |none=>
    have h0:D.length=0:=by have:=List.getElem?_eq_none_iff.mp e0;omega
    rw[e0]at K;cases d with|none=>exact Zf K|some dy=>
     obtain⟨u,rfl,ru⟩:=rd dy rfl;refine Zb (ZaG<|W.done _ _ _ (by rw[sz,h0];exact#[#[_,gI,rfl,rfl],(hl.push _).push _]) λL tk keep=>?_);have N1:=N0.turned (h':=L) (t':=tk) fI λb o P e=>keep b o (λq=>P<|Z2.mp q) e
     show Zv _ A.in1 (rule _>>=_) _ _ _;exact Zb<|Zc8<|Zk<|hR _ _<|K _ _ _ _ N1 .refl ru
   |some yv=>
    have h0:0<D.length:=(Zo.mp e0).1;rw[e0]at K;dsimp only at K;refine Zb (ZaG<|W.item 0 _ _ _ (by rw[sz];exact h0) #[#[_,gI,rfl,rfl],(hl.push _).push _] λy L tk hP st2 keep=>?_);have ey:m[0]?=J y:=by simpa using hP
    obtain⟨x,ex,rx⟩:=Jn4 rv2 ey;obtain⟨yv',I,qy⟩:=r3.get' ex;rw[e0]at I;cases I;have gC2:=keep C _ (λq=>j (Z2.mp q).symm) gC;have N1:=N0.turned (h':=L) (t':=tk) fI λb o P e=>keep b o (λq=>P<|Z2.mp q) e
    obtain⟨oI,hoI,hoc,S⟩:=id st2.1;have N2:=(N1.pinO gC2 fC λv z=>by cases z).pinO hoI (FpOk.more (p:=(C,ZY "list" #[] 0)) fI<|ZP j) λv z=>by rw[S]at z;cases z
    rw[Zaa]at N2;refine Zb<|ZaG<|ZO<|nof<|ko _ _ _ _ _ yv y _ N2 g #[x,rx,qy]<|Js8 K λk h3 u s3 H3 U3 N3 n3 ru K3=>?_
    have pC:=N3.inv.pin (C,ZY "list" #[] 0)<|Zp _<|Zp _ 03;have pI:=N3.inv.pin (z.heap.objs.size,oI)<|Zp _<|Zp _ 03;have N4:=N3.pins;have fI3:=FpOk.at (H':=H3) fI pI.2.1;have fC3:=FpOk.at (H':=H3) fC pC.2.1;have ry3:RU X.K U3 H3 yv y:=RU.mono n3 #[x,rx,qy];refine Zb ?_;refine ZbT pC.1 rfl ?_;rw[M.nm];have N6:=N4.turned (h':=s3.heap.update C<|Zag λ_=>(ZaE [y,u])) (t':=s3.toks) fC3 λb o P e=>(Zw _ _<|ZP P).trans e
    obtain⟨c2,hc2⟩:∃c2,(s3.heap.update C<|Zag λ_=>(ZaE [y,u])).get? C=J (ZY "list" (ZaE [y,u]) c2):=#[_,Zbf pC.1 λ_=>(ZaE [y,u])];refine Zk #[Za7 M.pl _,Jz6 M hh cm ko hG hR j (D.length-1) 1 _ H3 U3 h3 yv k y u c2 rfl 00 00 N6 (hG _ _ n3.ext g) (n3.at hi) fI3 fC3 ?_ hc2 ry3 ru K3];exact#[oI,(Zw _ _<|ZP j).trans pI.1,hoc,S]
  |_=>exact Zf K
end
theorem Kont.more{α β:Type}{R:REL α β}{V pl:PnT}{Y:Tw}{Z:ISt}{U:L2.St}{H:Hp}{r:Res α}{Q:β->Zl->Prop}{E:QvT}(K:Kont B X R V Y Z U H r Q E):Kont B X R (V++pl) Y Z U H r Q E:=by cases r with|ok v F=>exact λu j D k N n q=>K u j D k N.pins n q|exc m F=>exact λC a j D k N n q=>K (pl++C) a j D k (by simp_all) n q|stuck=>exact K
theorem Jj9{params:ZbW}{x:Str}{env:Env}(hx:Q6 params=J x):defaultsOf params env=([],[]):=by
 unfold Q6 at hx;split at hx
 .rfl
 .cases hx
end
def bmV:Tv:=[.type "ValueError",.type "Exception",.type "BaseException",.type "object"]
def XCls(K:W.Frag)(C:Zm):Prop:=W.excIn K C bmV "ValueError.__new__"=Zg
theorem XCls.obj{K:W.Frag}{C:Zm}{h:Zam}(x:XCls K C)(I:K.In h):∃bm N nm q bs hdct sn sub ab col dd k0 k1 k2 k3 k5 mN,h.get? C=J (Zd7 nm q C N bs bm hdct sn sub ab col dd k0 k1 k2 k3 k5 "ValueError.__new__")/\h.Ns N mN/\mN "__init__"=Zc/\OwnTail h bmV bm:=by
 unfold XCls W.excIn at x;split at x;case h_2=>cases x
 rename_i dd cd u F;split at x;case h_2=>cases x
 rename_i D bm k0 k1 k2 k3 n k5 m j;simp at x;obtain⟨⟨⟨⟨⟨e1,e2⟩,k⟩,e4⟩,e5⟩,e6⟩:=x;subst e1 e2;obtain⟨nm,bs,G,N,B,hd,sn,sub,ab,col,E⟩:=cd;have m:=m;have k:=k;subst m k;have j:u=(ZaE [k0,k1,k2,k3,J<|.builtin "ValueError.__new__",k5]):=by rw[<-Array.toArray_toList (xs:=u),j]
 subst j;exact#[bm,N,nm,B,bs,hd,sn,sub,ab,col,dd,k0,k1,k2,k3,k5,_,I _ _ F,.of_isNs<|W.isNs_of_in I e5,W.nsMap_none_of_in I e5 e6,W.tail_of_in I e4]
def VU(c:Str)(a:A1):S1:=λU h=>rS U (a U h) λO h1=>if O.length<=sizeLine then .exc h1.length U (h1++[.exc c []])else .stuck
section
variable{B:CeT}{X:Cx}{C:Zm}{x c:Str}{np cpos pos:Pos}{e:Expr}{es:Tf}{ma:A1}
theorem J0w(hc:X.calm=Zg)(hg:Gl X x)(hm:X.mg x=J (.ref C))(hC:W.nsIn X.K Zn c=J (J<|.ref C))(xc:XCls X.K C)(ha:PAi B X (e::es) ma)(R:(x==("__debug__":Str))=Zi:=by decide) (he:Z9 (e::es) X.env=(Zi,ZaQ e X.env)::Z9 es X.env:=by rfl)(S:(Zbh cpos<|Z9 es X.env).any (·.1)=Zi:=by rfl):PS1 B X (.Raise (J<|.Call (.Name x np) (e::es) [] cpos) Zc pos) (VU c ma):=by
 intro V s U H Y Z h Q E N K;obtain⟨bm,Na,nm,q,bs,hdct,sn,sub,ab,col,dd,k0,k1,k2,k3,k5,mN,hCo,hN,P,T⟩:=xc.obj N.inv.mod.kin;have hpa:(Zbh cpos<|Z9 (e::es) X.env).any (·.1)=Zi:=by rw[he];show(Zi||(Zbh cpos (Z9 es X.env)).any (·.1))=Zi;rw[S];rfl
 refine wpAny_Raise_call_subU (mN:=mN) (nm:=nm) (q:=q) (N:=Na) (bs:=bs) (hdct:=hdct) (sn:=sn) (sub:=sub) (ab:=ab) (col:=col) (dd:=dd) (k0:=k0) (k1:=k1) (k2:=k2) (k3:=k3) (k5:=k5) F.excBase_ValueError 01 F.excBase_ValueError (T.hasType 01) (N.inv.ok.hd hc) hpa P<|Vp N.inv hg hm #[rfl,?_] R;have hs:=ha cpos;rw[he]at hs ⊢;refine Calls.evalArgs_plain<|krun hs N K λO h1 us s1 j U1 k n1 r1 G=>?_
 change JE B X V U1 j (if O.length<=sizeLine then _ else _) Q E at G;split at G;case isFalse=>exact G.elim
 rename_i hz;have I:=k.inv.bk;have hl:us.length=O.length:=by obtain⟨ws,rv,qv⟩:=r1;rw[<-rv.length,qv.length]
 refine#[rfl,by show us.length<=_;lia,I _ _ hCo,hN.keeps I,T.keeps I,λh' a M=>?_];obtain⟨t,L,_,_⟩:=M.there;have hf:j a=Zc:=by cases z:j a with|none=>rfl|some u=>obtain⟨o,z'⟩:=Jta<|k.inv.hok a u z;rw[M.new]at z';cases z'
 obtain⟨R2,n2⟩:=k.rel.alloc (io:=.exc c []) hf #[C,.none,Zc,.inl #[rfl,rfl],hC,J2,.inl rfl];have D:=λb u q=>M.keeps b u q
 have m:∀{b:Zm}{u:HO},j b=J u->upd j a (ExF a C .none Zc) b=J u:=λ{b u} q=>by rw[Jo λz=>by subst z;rw[hf]at q;cases q];exact q
 have un:Un X.fs [] j (upd j a<|ExF a C .none Zc) s1.heap h':=#[λb o q _ _ _=>D b o q,λb o q _ _ _=>#[o.slots,D b o q],λb o q n _=>by rw[Jo λz=>by subst z;rw[M.new]at q;cases q];exact n,λb o q _=>#[o,D b o q],λb xs q=>m q,λb o u q=>m q,λb ps q=>#[#[],by rw[m q];simp]];have ok:HOk X.prog X.w (upd j a<|ExF a C .none Zc) h':=λb u q=>by
  by_cases z:b=a
  .subst z;rw[J2]at q;cases q;exact ExF.ok L rfl rfl rfl rfl rfl
  .rw[Jo z]at q;exact(k.inv.hok b u q).stay (λd v _ p=>D d v p) (λd p=>m p) λd xs p=>m p
 have I2:=k.inv.un (t':=s1.toks) un ok;refine G [] a _ U _ _ #[by simpa using I2,R2,k.st.mono n2] n2 ?_ _<|.inl rfl;rw[<-k.rel.len,ZK<|Zq _];simp
end
abbrev JD(X:Cx)(a:Zm):Cx:={X with A:=X.A.mark<|J<|.ref a,calm:=Zi}
section
variable{B:CeT}{X:Cx}{a C:Zm}{V:PnT}{U:L2.St}{H:Hp}{s:Zl}{Y:Tw}{Z:ISt}{h:IH}{n:Nat}{c:Str}{fs:Wm}{tv:Zh}
theorem Jkc(I:Inv X V U H s)(a:Zm):Inv (JD X a) V U H s:=#[#[I.ok.mod,I.ok.kind,I.ok.glob,I.ok.blt,I.ok.above,I.ok.inj,I.ok.has,I.ok.cab,nofun,I.ok.frames,I.ok.stk,I.ok.exf,I.ok.bs,I.ok.bsz,I.ok.noex,I.ok.exfs,I.ok.funs,I.ok.frf],I.os,I.bare,I.base,I.loc,I.cell,I.free,I.freeC,I.pin,I.hok,I.len]
theorem Ji5(ok:X.Ok)(I:Inv (JD X a) V U H s):Inv X V U H s:=#[ok,I.os,I.bare,I.base,I.loc,I.cell,I.free,I.freeC,I.pin,I.hok,I.len]
theorem _root_.L2.Inv.fewer(I:Inv X V U H s)(k:∀p∈X.pn++pj',p∈X.pn++V):Inv X pj' U H s:=#[I.ok,I.os,I.bare,I.base,I.loc,I.cell,I.free,I.freeC,λp hp=>I.pin p<|k p hp,I.hok,I.len]
theorem Jwb(N:Now B X V Y Z h U H s)(E:h[n]?=J (.exc c fs))(hi:Y[n]?=J a)(M:W.nsIn X.K Zn c=J (J<|.ref C))(ha:H a=J (ExF a C tv d))(p:Past X H s.heap a C d T oT h'):Now B X V Y Z h U (upd (upd H T<|.frz oT<|.own 0) a<|ExF a C (.ref T) d) {s with heap:=h'}/\Nxt Y H Y (upd (upd H T<|.frz oT<|.own 0) a<|ExF a C (.ref T) d):=by
 obtain⟨O,G,d',m,_,k,_⟩:=Vs N.rel E hi;rw[Ju6 N.inv.hok k ha]at m;obtain⟨L,F⟩:=N.rel.grow p.new;have j:upd H T (.frz oT<|.own 0) a=J (ExF a C tv d):=by rw[Jo<|ZP p.ne];exact ha
 obtain⟨D,u⟩:=L.write hi j (by rw[j];trivial) (io:=.exc c fs) #[C,.ref T,d,m.mono p.un.frzs,M,J2,.inr #[T,oT,_,rfl,by rw[Jo p.ne,J2],p.fld.choose_spec]];rw[Jkp E]at D;have I:=N.inv.call (t':=s.toks) (d':=s.drawn) p.un p.hok N.inv.bare λb z=>absurd z 03
 exact#[#[I,D,N.st.mono<|F.trans u],F.trans u]
theorem Jha{M:Model}{A:ZI}{E:QvT}(ok:HOk X.prog X.w H s.heap)(ha:H a=J (ExF a C tv d))(B:TvOk H tv)(k:∀h',(∀b o,s.heap.get? b=J o->h'.get? b=J o)->Q () {s with heap:=h'}):Zv M A (ZeI (.ref a) Zc) Q E s:=by
 obtain⟨G,O,D,F,m,u,_⟩:=ExF.get ok ha;refine Zb<|Zch D m u ?_;rcases B with rfl|⟨T,oT,ts,rfl,q1,q2,q3⟩
 .rw[if_neg 01];exact Zk<|k s.heap λ_ _ q=>q
 .have j:s.heap.get? T=J oT:=(ok T _ q1).1;refine ZaF j q2 (Za1.mp q3).1 (k _ λb o q=>?_);by_cases z:b=T
  .subst z;rw[j]at q;cases q;exact Jn2 j q2 q3
  .rw[Zw _ _<|ZP z];exact q
theorem Jvc{M:Model}{A:ZI}{E:QvT}{Q:Unit->Zl->Prop}{i:Nat}{x:Str}{pos:Pos}(I:Inv X V U H s)(hN:X.N.Nodup)(hi:X.N[i]?=J x)(hx:X.env.kindOf x=J .local)(k:∀s',Inv X V (U.set i Zc) H s'->Q () s'):
  Zv M A (do bindName X.env x .none;unbindBehindTheSuite X.env x pos) Q E s:=by
 obtain⟨m,hn,hl⟩:=id I.loc;have F:(X.env.scope.kind==.class||(X.env.scope.kind==.module&&X.env.locals != X.env.globals))=Zi:=by rw[I.ok.kind];rfl
 have cne:=I.cne;refine wpAny_nameGoes_keeps hx hn F λh' v Y B=>?_
 have P:∀{b:Zm}{o:Obj},X.s₀.heap.get? b=J o->b≠X.env.locals:=λe=>Z1<|ZF (Zu e) I.ok.above
 refine k _ #[I.ok,I.os,I.bare,#[λb o e D S hx=>?_,λb o e D S hx=>?_,I.base.free,λb o e hx=>?_,I.base.tups,I.base.frzs,I.base.tbls],#[_,Y,λj y w C L e3=>?_],λy G e=>?_,I.free,I.freeC,λp hp=>?_,λb ob e=>?_,by rw[Zbg];exact I.len]
 .exact(B.2 b<|P e).trans<|I.base.keep b o e D S hx
 .obtain⟨sl,C⟩:=I.base.slot b o e D S hx;exact#[sl,(B.2 b<|P e).trans C]
 .obtain⟨o',C⟩:=I.base.there b o e hx;exact#[o',(B.2 b<|P e).trans C]
 .by_cases z:j=i
  .subst z;have hj:j<U.length:=by rw[I.len];exact(Zo.mp hi).1
   rw[ZE hj]at L;cases L
  .rw[ZC<|ZP z]at L;obtain⟨u,r,q⟩:=hl j y w C L e3;refine#[u,r,?_];rcases q with⟨W,O⟩|⟨W,G,O,q3⟩
   .refine .inl #[W,?_];show(if y=x then v else m y)=J u;rw[if_neg λz2=>z<|Jke hN C<|by rw[z2];exact hi];exact O
   .exact .inr #[W,G,O,q3.sameBut B<|cne y G O]
 .obtain⟨Z,z⟩:=I.cell y G e;exact#[Z,z.sameBut B<|cne y G e]
 .obtain⟨e,D,ne,nf,d⟩:=I.pin p hp;exact#[(B.2 p.1 ne).trans e,D,ne,nf,d]
 .have nb:∀{d:Zm}{u:HO},H d=J u->d≠X.env.locals:=λq z=>by rw[z,I.free]at q;cases q
  refine(I.hok b ob e).stay (λd Z R q=>(B.2 d ?_).trans q) (λ_ q=>q) λ_ _ q=>q
  rcases R with rfl|R
  .exact nb e
  .exact nb R
end
theorem RSt.unset{K:W.Frag}{Y:Tw}{H:Hp}{Z:ISt}{U:L2.St}(r:RSt K Y H Z U)(i:Nat):RSt K Y H (Z.set i Zc) (U.set i Zc):=by
 refine#[by simp[r.len],λj w e=>?_];by_cases z:j=i
 .subst z;have k:j<Z.length:=by have:=(Zo.mp e).1;simpa using this
  rw[ZE k]at e;cases e
 .rw[ZC<|ZP z]at e;obtain⟨u,B,m⟩:=r.at_ j w e;exact#[u,by rw[ZC<|ZP z];exact B,m]
abbrev HdI:=(Str->Ww)×Option Nat×S1
abbrev _root_.Ts:=List HdI
noncomputable def Xq (sl:Ta)(x:Tg)(U:ISt):ISt:=match sl with|some i=>U.set i x|none=>U
def SRes.drop(sl:Ta)(r:SRes):SRes:=match r with|.next U h=>.next (Xq sl Zc U) h|.brk U h=>.brk (Xq sl Zc U) h|.cont U h=>.cont (Xq sl Zc U) h|.ret v h=>.ret v h|_=>.stuck
def Vk:Ts->Str->Nat->S1|[],_,_=>λ_ _=>.stuck|q::r,c,n=>λU h=>match q.1 c with|some Zg=>(q.2.2 (Xq q.2.1 (J<|.ref n) U) h).drop q.2.1|some Zi=>Vk r c n U h|none=>.stuck
def sTry(b:S1)(hs:Ts):S1:=λU h=>match b U h with|.exc n W1 h1=>(match h1[n]? with|some (.exc c _)=>Vk hs c n W1 h1|_=>.stuck)|r=>r
def PSH(B:CeT)(X:Cx)(a:Zm)(sl:Ta)(suite:To)(m:S1):Prop:=∀(V:PnT)(s:Zl)(U:L2.St)(H:Hp)(Y:Tw)(Z:ISt)(h:IH)(Q:Flow->Zl->Prop)(E:QvT)(n:Nat)(c:Str)(fs:Wm),X.Ok->Now B (JD X a) V Y Z h U H s->h[n]?=J (.exc c fs)->Y[n]?=J a->(∀i,sl=J i->i<Z.length->Z[i]?=J (J<|.ref n)) ->JE B (JD X a) V Y H (m Z h) Q E->Zv (Zy X.prog X.w) (JD X a).A (execs suite X.env) Q E s
theorem PS2.h(p:PS2 B (JD X a) suite m):PSH B X a sl suite m:=λV s U H Y Z h Q E _ _ _ _ N _ _ _ K=>p V s U H Y Z h Q E N K
structure HdOk(B:CeT)(X:Cx)(t:Expr)(nm:Wx)(suite:To)(f:Str->Ww)(sl:Ta)(m:S1):Prop where
 test:∀(a:Zm)(c:Str)(C:Zm)(b:Bool)(V:PnT)(U:L2.St)(H:Hp)(s:Zl)(Q:Bool->Zl->Prop)(E:QvT),f c=J b->W.nsIn X.K Zn c=J (J<|.ref C)->Inv (JD X a) V U H s->(∃oe,s.heap.get? a=J oe/\oe.cls=.ref C)->Q b s ->Zv (Zy X.prog X.w) (JD X a).A (ZaQ t X.env) (λv s₁=>Zv (Zy X.prog X.w) (JD X a).A (excMatches (.ref a) v) Q E s₁) E s
 nm:(nm=Zc/\sl=Zc)\/∃n i,nm=J n/\sl=J i/\X.N[i]?=J n/\X.env.kindOf n=J .local
 run:∀a,PSH B X a sl suite m
inductive HdsOk(B:CeT)(X:Cx):Tt->Ts->Prop|nil:HdsOk B X [] []|cons {t:Expr}{nm:Wx}{b₀:Zcg}{suite:To}{pos:Pos}{f:Str->Ww}{sl:Ta}{m:S1}{hs:Tt}{ms:Ts}:HdOk B X t nm (b₀::suite) f sl m->HdsOk B X hs ms->HdsOk B X (.ExceptHandler (J t) nm (b₀::suite) pos::hs) ((f,sl,m)::ms)
section
variable{B:CeT}{X:Cx}
theorem Jsc(hN:X.N.Nodup)(kD:HdsOk B X hs ms){a:Zm}{V:PnT}{U:L2.St}{H:Hp}{s:Zl}{Y:Tw}{Z:ISt}{h:IH}{n:Nat}{c:Str}{fs:Wm}{Q:Flow->Zl->Prop}{E:QvT}
  (N:Now B X V Y Z h U H s)(hj:h[n]?=J (.exc c fs))(hi:Y[n]?=J a)(K:JE B X V Y H (Vk ms c n Z h) Q E):Zv (Zy X.prog X.w) X.A (handleBy (.ref a) X.env hs) Q E s:=by
 obtain⟨C,tv,d,fe,hC,ha,ht⟩:=Vs N.rel hj hi;obtain⟨oe,O,e1,e2,_⟩:=ExF.get N.inv.hok ha;induction kD with|nil=>exact(K).elim|@cons t nm b₀ suite pos f sl m hs ms o kD ih=>
  unfold Vk at K;dsimp only at K;cases hb:f c with|none=>rw[hb]at K;exact(K).elim|some b=>
   rw[hb]at K;refine wpAny_handleBy_cons (codeAny_handlers_test<|o.test a c C b V U H s _ _ hb hC (Jkc N.inv a) #[oe,e1,e2] ?_) (by intro q;cases q);cases b with|false=>exact ih K|true=>
    dsimp only at K;rcases o.nm with⟨rfl,rfl⟩|⟨x,i,rfl,rfl,hx,hk⟩
    .have K:JE B X V Y H ((m Z h).drop Zc) Q E:=K;refine codeAny_handlers_suite<|Jha N.inv.hok ha ht λh' kp=>?_
     have N2:Now B (JD X a) V Y Z h U H {s with heap:=h'}:=#[Jkc (N.inv.kept kp) a,N.rel,N.st];refine o.run a V _ U H Y Z h _ _ n c fs N.inv.ok N2 hj hi (λi z=>by cases z) ?_;have un:∀{V:PnT}{Y:Tw}{Z:ISt}{h:IH}{U:L2.St}{H:Hp}{s:Zl},Now B (JD X a) V Y Z h U H s->Now B X V Y Z h U H s:=λq=>#[Ji5 N.inv.ok q.inv,q.rel,q.st]
     cases S:m Z h with|next R L=>rw[S]at K;exact λI P D F G M=>K I P D F (un G) M|brk R L=>rw[S]at K;exact λI P D F G M=>K I P D F (un G) M|cont R L=>rw[S]at K;exact λI P D F G M=>K I P D F (un G) M|ret v L=>rw[S]at K;exact λu I R P D F G M r3=>K u I R P D F (un G) M r3|exc k R L=>rw[S]at K;exact(K).elim|stuck=>rw[S]at K;exact(K).elim
    .have K:JE B X V Y H ((m (Z.set i<|J<|.ref n) h).drop<|J i) Q E:=K;refine codeAny_handlers_suite_as<|Jha N.inv.hok ha ht λh' kp=>?_
     have I2:Inv (JD X a) V U H {s with heap:=h'}:=Jkc (N.inv.kept kp) a;refine YF (X:=JD X a) (v:=hV.ref a) I2 hN hx (.inl hk) rfl (λI I3=>?_) (.inr hk);have G:Now B (JD X a) V Y (Z.set i<|J<|.ref n) h (U.set i<|J<|hV.ref a) H I:=#[I3,N.rel,N.st.set i #[a,rfl,hi]];refine o.run a V _ _ H Y _ h _ _ n c fs N.inv.ok G hj hi (λj z l=>by cases z;exact ZE<|by simpa using l) ?_;have fin:∀{F:Tw}{R:ISt}{L:IH}{P:L2.St}{D:Hp}{I:Zl}{W:Unit->Zl->Prop},Now B (JD X a) V F R L P D I->(∀s4,Now B X V F (R.set i Zc) L (P.set i Zc) D s4->W () s4)->Zv (Zy X.prog X.w) X.A (do bindName X.env x .none;unbindBehindTheSuite X.env x pos) W E I:=λq k=>
      Jvc (Ji5 N.inv.ok q.inv) hN hx hk λs4 I4=>k s4 #[I4,q.rel,q.st.unset i]
     cases S:m (Z.set i<|J<|.ref n) h with|next R L=>rw[S]at K;exact λI P D F G M=>fin G λs4 N4=>K s4 _ D F N4 M|brk R L=>rw[S]at K;exact λI P D F G M=>fin G λs4 N4=>K s4 _ D F N4 M|cont R L=>rw[S]at K;exact λI P D F G M=>fin G λs4 N4=>K s4 _ D F N4 M|ret v L=>rw[S]at K;exact λu I R P D F G M r3=>fin G λs4 N4=>K u s4 _ _ D F N4 M r3|exc k R L=>rw[S]at K;exact(K).elim|stuck=>rw[S]at K;exact(K).elim
theorem J7q(S:X.N.Nodup)(hk:X.stack=X.env::X.outer)(R:X.env.frame=J X.env.locals)(hb:PS2 B X body mb)(kD:HdsOk B X (h₀::hs) ms):PS1 B X (.Try body (h₀::hs) [] [] pos) (sTry mb ms):=by
 intro V s U H Y Z h Q E N K;unfold sTry at K;refine wpAny_Try_except<|hb V s U H Y Z h _ _ N ?_;cases e:mb Z h with|next m L=>rw[e]at K;exact λD G u M j I=>Zc1<|K D G u M j I|brk m L=>rw[e]at K;exact K|cont m L=>rw[e]at K;exact K|ret v L=>rw[e]at K;exact K|stuck=>rw[e]at K;exact K|exc n m L=>
  rw[e]at K;dsimp only at K;cases k:L[n]? with|none=>rw[k]at K;exact(K).elim|some O=>
   cases O with
   |exc c fs=>
    rw[k]at K;intro pl a D G u M j I F s4 fl;have j:Now B X V M m L G u D:=#[j.inv.fewer λp hp=>ZZ.mpr<|(ZZ.mp hp).imp_right λz=>Zax _ z,j.rel,j.st];obtain⟨C,tv,d,fe,W,ha,P⟩:=Vs j.rel k F;refine Jox j.inv fl hk R ha P λT oT h' p=>?_
    obtain⟨N4,n4⟩:=Jwb j k F W ha p;exact Jsc S kD N4 k F<|JE.mono K<|I.trans n4
   |_=>rw[k]at K;exact(K).elim
def slT:IV->Wz->Wz->IH->Res IV|.str x,lo,hi,h=>if x.length<=sizeLine then .ok (.str<|ZeJ x lo hi) h else .stuck|x,lo,hi,h=>slI x lo hi h
theorem J75:SlI B X slT:=by
 intro V s U H Y Z h x v R W O P S Q E N C m pl I K;cases x with
 |str x=>
  obtain⟨xv,C,qx⟩:=C;cases (qx);obtain⟨t,rfl⟩:=C;dsimp only[slT]at K;split at K
  .rename_i D;refine#["str",_,F.slot_str_getitem.lookup,typeIs_str _ _ _,?_];cases pl with
   |none=>cases I with|none=>exact ZbL (l:=Zc) (u:=Zc) (st:=Zc) m rfl (Zdf #[ZM (Zeo x _ _) D,λG k=>fin0 N K rfl _ _ (N.inv.tok _) #[_,rfl]])|int j L=>exact ZbL (l:=Zc) (u:=J (j,L)) (st:=Zc) m rfl (Zdf #[ZM (Zeo x _ _) D,λG k=>fin0 N K rfl _ _ (N.inv.tok _) #[_,rfl]])
   |int i M=>cases I with|none=>exact ZbL (l:=J (i,M)) (u:=Zc) (st:=Zc) m rfl (Zdf #[ZM (Zeo x _ _) D,λG k=>fin0 N K rfl _ _ (N.inv.tok _) #[_,rfl]])|int j L=>exact ZbL (l:=J (i,M)) (u:=J (j,L)) (st:=Zc) m rfl (Zdf #[ZM (Zeo x _ _) D,λG k=>fin0 N K rfl _ _ (N.inv.tok _) #[_,rfl]])
  .exact(K).elim
 |_=>exact x_sl V s U H Y Z h _ v R W O P S Q E N C m pl I K
end
theorem Jq2(a:Zh):Zel "max" #[[a],[]]:=by unfold Zel;kernel_rfl
section
variable{B:CeT}{X:Cx}
def XI:IV->IH->Res IV
 |.ref i,h=>match h[i]? with
  |some (.lst xs)=>(match JL xs with
   |some ns=>if ns=[]then .stuck else .ok (.int<|JX (λi=>ns.getD i 0) ns.length) h
   |none=>.stuck)
  |_=>.stuck
 |_,_=>.stuck
theorem J2f(F:X.A.handled=Zc):Ql B X (.builtin "max") (on1 XI):=Vf λV s U H Y Z h x xv u Q E N I W K=>by
 cases x with
 |ref i=>
  obtain⟨a,C,ha⟩:=W;subst C;cases I;dsimp only[XI]at K;cases k:h[i]? with|none=>rw[k]at K;exact(K).elim|some D=>
   rw[k]at K;cases D with
   |lst xs=>
    dsimp only at K;cases m:JL xs with|none=>rw[m]at K;exact(K).elim|some ns=>
     rw[m]at K;dsimp only at K;split at K
     .exact(K).elim
     .rename_i j;obtain⟨O,C,R⟩:=N.at k ha;obtain⟨S,M,pl,hz⟩:=N.inv.list<|SqL.of C;refine Js6 rfl (Jq2 _) (λq=>absurd q j) F pl.isList (Vm m R M) λv L tk G P=>?_
      rcases G with⟨e,_⟩|⟨_,t,ev⟩
      .exact absurd e j
      .subst ev;exact fin0 N K rfl _ _ (N.inv.kept P) #[t,rfl]
   |_=>exact(K).elim
 |_=>exact(K).elim
def Xm:IV->IH->Res IV
 |.ref i,h=>match h[i]? with
  |some (.dct kvs)=>.ok (.int kvs.length) h
  |_=>.stuck
 |_,_=>.stuck
theorem J2d:Ql B X (.builtin "len") (on1 Xm):=Vf λV s U H Y Z h x O u Q E N I F K=>by
 cases x with
 |ref i=>
  obtain⟨a,j,ha⟩:=F;subst j;cases I;dsimp only[Xm]at K;cases k:h[i]? with|none=>rw[k]at K;exact(K).elim|some m=>
   rw[k]at K;cases m with
   |dct G=>
    obtain⟨M,j,C⟩:=N.at k ha;refine J6f N.inv (.of j) λt L D=>?_
    rw[C.length];exact fin0 N K rfl _ _ D #[_,rfl]
   |_=>exact(K).elim
 |_=>exact(K).elim
structure BasK(K:W.Frag)(C:Zm):Prop where
 sp:W.specialIn K (.ref C) "__getattribute__"=J (J<|.builtin "type.__getattribute__")
 rd:W.readsIn K C (.type "type")=Zg
 fc:∃fa,W.findIn K (.ref C) "__init__"=J (J<|.ref fa)/\W.findCls K (.ref C) (.type "type") "__init__"=J (.val<|.ref fa)/\W.keepIn K (.ref fa)=Zg
variable{k:Nat}{fa C:Zm}{fd:ZaK}{ps:Tl}{f:Tx->IH->Res IV}{dvs:Tx}{ds:Tv}{x:Str}{p pos apos:Pos}{e:Expr}{es:Tf}{ma:A1}{pl:Sem Bool}
theorem J2x(F:FnOk X.prog X.w X.K X.mg X.base (CXI X.prog X.w) k fa fd ps<|spI B X.K ps f)(hr:Room k X.A)(hg:Gl X x)(hm:X.mg x=J (.ref C))(cS:BasK X.K C)(M:Mk X.K C fa)(hb:Qc X.K fd ps ds)(hd:∃O,Vals O ds/\∀Y H,RVs X.K Y H dvs O) (ha:PAi B X (e::es) ma)(m:∀U h xs h',ma U h=.ok xs h'->xs.length+ds.length=ps.length)(I:(x==("__debug__":Str))=Zi:=by decide)(he:Z9 (e::es) X.env=(Zi,ZaQ e X.env)::Z9 es X.env:=by rfl)(G:(Zbh pos<|Z9 es X.env).any (·.1)=Zi:=by rfl) (R:ZaQ (.Call (.Attribute (.Name x p) "__init__" apos) (e::es) [] pos) X.env=(do
   let ov<-ZaQ (.Name x p) X.env
   Zeh apos.atName
   let (f,first)<-Zcb [ov] (Zdr ov "__init__" pl)
   ZeZ pos f first (Zbh pos<|Z9 (e::es) X.env) (Zdy pos<|Zci [] X.env)):=by rfl):
  PEi B X (.Call (.Attribute (.Name x p) "__init__" apos) (e::es) [] pos) (Ji f dvs ma):=by
 intro V s U H Y Z h Q E N K;obtain⟨D,f1,f2,hk⟩:=cS.fc;have S:D=fa:=by have:=f1.symm.trans M.init;cases this;rfl
 subst S;refine W.methodCall_KW (Vp N.inv hg hm ?_ I) R;refine W.method_cls N.inv.kIn cS.sp<|W.cls_value N.inv.kIn cS.rd f2 rfl ?_;have N':Now B X V Y Z h U H {s with toks:=s.toks+1}:=#[N.inv.tok _,N.rel,N.st];refine W.callWith_K N.inv.ok.mod.kin hk ?_ he G;have j:=K;unfold Ji at j;refine ha pos V _ U H Y Z h _ E N' ?_;cases u:ma Z h with|exc n h'=>rw[u]at j;exact j|stuck=>rw[u]at j;exact j|ok xs h'=>
  rw[u]at j;intro us s1 H1 U1 L n1 P;have hl:xs.length=us.length:=by obtain⟨O,rv,q⟩:=P;rw[<-rv.length,q.length]
  have hl2:=m Z h xs h' u;exact#[L.inv.kIn,Y9 (us:=us) F hr hb hd 05 L P<|Kont.mono j n1]
end
section
variable{prog:Z7}{w:ZU}{A:ZI}{E:QvT}{s:Zl}{x y:Str}{t u:Tok}{Q:QvT}
open Builtin Builtin.Str in
end
section
variable{B:CeT}{X:Cx}
def Jvk:IV->IH->Res IV|.str x,h=>if x.length<=640 then(match ZeD x with|some n=>.ok (.int n) h|none=>.stuck)else .stuck|v,h=>intI v h
theorem J2c:Ql B X (.type "int") (on1 Jvk):=by
 intro V s U H Y Z h xs k Q E N j K;match xs,K with
 |[.str x],K=>
  obtain⟨O,F,C⟩:=j;obtain⟨w,rfl,e⟩:=C.one_of;cases (e);obtain⟨u,rfl,D⟩:=Qq F;obtain⟨t,rfl⟩:=D;have K:Kont B X RU V Y Z U H (if x.length<=640 then(match ZeD x with|some n=>.ok (.int n) h|none=>.stuck)else .stuck) Q E:=K;split at K
  .rename_i m;cases en:ZeD x with|none=>rw[en]at K;exact(K).elim|some n=>rw[en]at K;exact W.KIN.call_text en m<|fin0 N K rfl _ _ (N.inv.tok _) #[_,rfl]
  .exact(K).elim
 |[],K=>exact VH V s U H Y Z h [] k Q E N j K
 |[.non],K=>exact VH V s U H Y Z h _ k Q E N j K
 |[.bl _],K=>exact VH V s U H Y Z h _ k Q E N j K
 |[.int _],K=>exact VH V s U H Y Z h _ k Q E N j K
 |[.ref _],K=>exact VH V s U H Y Z h _ k Q E N j K
 |[.tup _],K=>exact VH V s U H Y Z h _ k Q E N j K
 |[.rol _],K=>exact VH V s U H Y Z h _ k Q E N j K
 |y::z::r,K=>exact VH V s U H Y Z h (y::z::r) k Q E N j K
def fmtI:IV->IH->Res IV|.str x,h=>if x.length<=sizeLine then .ok (.str x) h else .stuck|.int i,h=>if i.natAbs.log2<1920 then .ok (.str<|toString i) h else .stuck|_,_=>.stuck
theorem J6v{a:Expr}{ma:E1}{pos:Pos}(ha:PEi B X a ma):PEi B X (.FormattedValue a (-1) Zc pos) (eUn fmtI ma):=λV s U H Y Z h Q E N K=>wpAny_FormattedValue_plain (ha.run N K λx M u O G I k n1 F j=>by
  obtain⟨L,C,D⟩:=F;cases x with
  |str x=>
   cases (D);obtain⟨t,rfl⟩:=C;dsimp only[fmtI]at j;split at j
   .rename_i m;exact wpAny_formatField_str (fin0 k j rfl _ _ k.inv #[_,rfl]) (fin0 k j rfl _ _ (k.inv.tok _) #[_,rfl]) m
   .exact(j).elim
  |int i=>
   cases (D);obtain⟨t,rfl⟩:=C;dsimp only[fmtI]at j;split at j
   .rename_i m;exact wpAny_formatField_int m<|fin0 k j rfl _ _ (k.inv.tok _) #[_,rfl]
   .exact(j).elim
  |_=>exact(j).elim)
def Y0:Tz->Str->E1|[],acc=>λ_ h=>if acc.length<=sizeLine then .ok (.str acc) h else .stuck|m::r,acc=>λU h=>(m U h).bind λv h1=>match v with|.str y=>if (acc++y).length<=sizeLine then Y0 r (acc++y) U h1 else .stuck|_=>.stuck
def eFst(ms:Tz):E1:=Y0 ms Zb7
theorem J3l(m:∀e,PEi B X e<|f e){V:PnT}{U:L2.St}{Z:ISt}{Q E:QvT}:∀(es:Tf)(acc:Str)(s:Zl)(H:Hp)(Y:Tw)(h:IH),Now B X V Y Z h U H s->Kont B X RU V Y Z U H (Y0 (es.map f) acc Z h) Q E ->Joins (Zy X.prog X.w) X.A E (evalEach es X.env) acc (λout s₁=>out.length<=sizeLine/\Q (.str out s₁.toks) {s₁ with toks:=s₁.toks+1}) s
 |[],acc,s,H,Y,h,N,K=>by
  have K:Kont B X RU V Y Z U H (if acc.length<=sizeLine then .ok (.str acc) h else .stuck) Q E:=K;split at K
  .rename_i k;exact#[k,fin0 N K rfl _ _ (N.inv.tok _) #[_,rfl]]
  .exact(K).elim
 |e::es,acc,s,H,Y,h,N,K=>by
  refine(m e).run N K λx L u O D I F n1 C j=>?_
  obtain⟨P,G,M⟩:=C;cases x with
  |str y=>
   cases (M);obtain⟨t,rfl⟩:=G;dsimp only at j;split at j
   .rename_i k;exact#[y,t,rfl,k,J3l m es (acc++y) O D I L F j]
   .exact(j).elim
  |_=>exact(j).elim
theorem J6w(j:∀e,PEi B X e<|f e):PEi B X (.JoinedStr (a::b::r) pos) (eFst<|(a::b::r).map f):=λV s U H Y Z h Q E N K=>wpAny_JoinedStr<|J3l j (a::b::r) Zb7 s H Y h N K
end
noncomputable def neIn (K:W.Frag)(C:Zm):Bool:=match K.lookup C with|some ⟨.type "type",_,.cls cd,sl⟩=>(match cd.mro,sl.toList with|[.ref C',.type "object"],[_,_,_,_,J (.builtin _),_]=>C'==C&&!cd.hasDel&&W.nsOkIn K cd.ns&&W.nsIn K cd.ns "__eq__"==J Zc&&W.nsIn K cd.ns "__ne__"==J Zc|_,_=>Zi)|_=>Zi
noncomputable def Ji8:Ty->Ww|.lst=>J Zg|.ins c=>if c=="Work" then J Zi else Zc|.exc _=>Zc|_=>J Zi
theorem Jp5{B:CeT}{K:W.Frag}(h:∀C,B "Work"=J C->ClsI K C/\W.kitOne K (.ref C) (.type "list")=J Zi):IsOk B K (.type "list") Ji8:=by
 have j:IsOk B K (.type "list") Yo:=Jlz;refine#[j.non,j.bl,j.int,j.str,j.lst,j.tup,j.dct,λk C b e m=>?_,(λk C b e=>by cases e)];unfold Ji8 at e;dsimp only at e;split at e
 .simp_all
 .cases e
def ExC(h:Zam)(C:Zm):Prop:=∃nm q N bs bm hdct sn sub ab col dd k0 k1 k2 k3 k5 newId,h.get? C=J (Zd7 nm q C N bs bm hdct sn sub ab col dd k0 k1 k2 k3 k5 newId)/\bm.contains (.type "BaseException")=Zg
theorem Jig{M:Model}{A:ZI}{E:QvT}{env:Env}{s:Zl}{x:Sem Zh}{Q:Flow->Zl->Prop}(I:A.handled=Zc) (h:Zv M A x (λv s₁=>∃e B O C,v=.ref e/\ExC s₁.heap C/\s₁.heap.get? e=J B/\B.cls=.ref C/\B.data=.fields O/\Zv M A (ZeI (.ref e) Zc) (λ_ s₂=>E (.ref e) s₂) E s₁) E s):Zv M A (raiseStmt env (J x) Zc) Q E s:=by
 unfold raiseStmt;refine Zb<|Zaf h (λv s₁ h₁=>?_) λ_ _ x=>x
 obtain⟨e,⟨W,X,L,S⟩,O,C,rfl,⟨nm,q,N,bs,H,F,sn,sub,ab,P,V,k0,k1,k2,k3,k5,m,G,j⟩,U,R,hd,D⟩:=h₁;have u:(Zb6 C::H).contains (.type "BaseException")=Zg:=by rw[List.contains_cons,j,Bool.or_true]
 subst R hd;obtain⟨hp,g,d,Y,os⟩:=s₁;generalize k:ZeI=Z at D ⊢;repeat (first|with_reducible refine Zce U ?_|with_reducible refine Zce G ?_|(with_reducible refine wpAny_isSubtype_exc G ?_;rw[u])|wp_step)
 subst k;exact Zaf D (λ_ s₂ z=>wpAny_raiseNew_none I z) λ_ _ z=>z
def YA(rz:Str->Bool)(m:E1):S1:=λU h=>rS U (m U h) λv h1=>match v with|.ref n=>(match h1[n]? with|some (.exc c _)=>if rz c then .exc n U h1 else .stuck|_=>.stuck)|_=>.stuck
section
variable{B:CeT}{X:Cx}{x:Expr}{m:E1}{pos:Pos}
theorem Jwi(S:X.calm=Zg)(he:PEi B X x m)(hx:∀c C,rz c=Zg->W.nsIn X.K Zn c=J (J<|.ref C)->∀h:Zam,X.K.In h->ExC h C):PS1 B X (.Raise (J x) Zc pos) (YA rz m):=by
 intro V s U H Y Z h Q E N K;rw[arm_exec_Raise];refine Zb<|ZaS ?_;refine Jig (N.inv.ok.hd S) ?_;refine Zb<|krun he N K λv R u s1 H1 U1 k n1 r1 j=>?_
 refine Zb<|ZaS<|Zk ?_;cases v with
 |ref n=>
  obtain⟨xv,P,a,rfl,F⟩:=r1;cases P;dsimp only at j;cases D:R[n]? with|none=>rw[D]at j;exact(j).elim|some I=>
   rw[D]at j;cases I with
   |exc c fs=>
    dsimp only at j;split at j
    .rename_i hr;obtain⟨C,tv,d,fe,hC,ha,L⟩:=Vs k.rel D F;obtain⟨oe,O,e1,G,M,_⟩:=ExF.get k.inv.hok ha;refine#[a,oe,O,C,rfl,hx c C hr hC _ k.inv.kIn,e1,G,M,?_];refine Jha k.inv.hok ha L λh' keep=>?_
     exact j [] a _ U H1 U1 #[by rw[ZbS];exact k.inv.kept keep,k.rel,k.st] .refl F _<|.inl rfl
    .exact(j).elim
   |_=>exact(j).elim
 |_=>exact(j).elim
end
section
variable{prog:Z7}{w:ZU}{A:ZI}{E:QvT}{hp:Zam}{ge:Td}{dr:Drawn}{tk:Nat}{ox:OsState}
variable{nm qn:Str}{C Na:Zm}{bs bm bmB:Tv}{hdct:Bool}{sn:Tl}{sub:Tv}{ab:Bool}{col:Ww}{dd:Te}{k0 k1 k2 k3 k5:Tc}{cS Bn newId nid initId inN:String}{bmN:Tv}
theorem Jt5(Fn:Zep Bn newId inN bmN)(D:bmB.contains (.type Bn)=Zg)(F:Zep cS nid initId bmB)(T:OwnTail hp bmB bm){mN:Str->Tc}{u:Tv}{L:Zm}{P:Obj}{Q:Fin->Zl->Prop} (H:hp.get? C=J (Zd7 nm qn C Na bs bm hdct sn sub ab col dd k0 k1 k2 k3 k5 newId))(hn:hp.Ns Na mN)(hi:mN "__init__"=J (.ref L))(R:hp.get? L=J P)(M:P.cls=.type "function")(W:u.length<=sizeLine) (go:∀h' e,ZeE hp h' e (.ref C) u->Zv (Zy prog w) A (call (.ref L)<|.ref e::u) (λr s'=>r=.none/\Q (.done<|.ret<|.ref e) s') E #[h',ge,dr,tk,ox]):Zv (Zy prog w) A (Zbp.«type.__call__» #[.ref C::u,[]]) Q E #[hp,ge,dr,tk,ox]:=by
 repeat (first|with_reducible refine Zce H ?_|with_reducible refine wpAny_madeBy_exc H ?_|wp_step)
 refine codeAny_call_builtin_code (ZbR _ Fn.quiet)<|wpAny_check_new_subU Fn D T H<|codeAny_exc_new_subU Fn D F T H ?_ W;generalize j:({cls:=.type "tuple",data:=.seq u.toArray}:Obj)=m;generalize k:({cls:=.ref C,data:=.fields (ZaE [.ref hp.objs.size,.none,.none,.none,.bool Zi,.none])}:Obj)=B;have G:∀b o,hp.get? b=J o->((hp.push m).push B).get? b=J o:=λb o q=>Ze _<|Ze _ q
 have I:((hp.push m).push B).get? (hp.objs.size+1)=J B:=by
  subst k j
  heap_get
 have X:((hp.push m).push B).get? hp.objs.size=J m:=by subst k j;exact Ze _<|Zd8 rfl rfl
 have O:=G _ _ H;have U:((hp.push m).push B).Ns Na mN:=let ⟨o,S,Y,q,r⟩:=hn;#[o,S,Y,G _ _ q,r];have cC:(Zb6 C::bm).contains (.ref C)=Zg:=03;have T1:=T.keeps G;have made:ZeE hp ((hp.push m).push B) (hp.objs.size+1) (.ref C) u:=#[G,Zcf<|Zay _,hp.objs.size,by rw[I,k],Zcf<|Zq _,by rw[X,j]];have Z:=I;subst k j;repeat (first|with_reducible refine Zce I ?_|(with_reducible refine wpAny_isSubtype_exc O ?_;rw[cC])|wp_step)
 refine wpAny_typeLookup_tail O U T1 F.mroIs F.init.lookup ?_;rw[hi];refine ZO<|Zb ?_;refine Zb<|Zfa #[_,G _ _ R,M] ?_;refine Zk<|Zb<|Zaf (go _ _ made) (λr s' hr=>?_) λ_ _ z=>z
 obtain⟨rfl,V⟩:=hr
 wp_walk
 exact V
theorem Jre(Fn:Zep Bn newId inN bmN)(m:bmB.contains (.type Bn)=Zg)(F:Zep cS nid initId bmB)(T:OwnTail hp bmB bm){mN:Str->Tc}{j:Tv}{k:Zm}{D:Obj}{Q:QvT} (B:hp.get? C=J (Zd7 nm qn C Na bs bm hdct sn sub ab col dd k0 k1 k2 k3 k5 newId))(hn:hp.Ns Na mN)(hi:mN "__init__"=J (.ref k))(G:hp.get? k=J D)(u:D.cls=.type "function")(H:j.length<=sizeLine) (go:∀h' e,ZeE hp h' e (.ref C) j->Zv (Zy prog w) (A.under<|.builtin "type.__call__" #[.ref C::j,[]]) (call (.ref k)<|.ref e::j) (λr s'=>r=.none/\Q (.ref e) s') E #[h',ge,dr,tk,ox]):Zv (Zy prog w) A (call (.ref C) j) Q E #[hp,ge,dr,tk,ox]:=by
 have g1:=tc_lookup;have g2:=tc_bind<|.ref C;refine Zc5<|Zdc ?_;repeat (any_goals (first|assumption|with_reducible refine Zce B ?_|wp_step))
 exact#[rfl,codeAny_call_builtin_at (ZbR _<|by decide +kernel) entry_typeCall<|wpAny_check_type_call_sub B<|Jt5 Fn m F T B hn hi G u H go]
end
theorem J35{K:W.Frag}(I:K.In h)(G:h.Ns N m)(e:W.nsIn K N x=J (J v)):m x=J v:=by
 obtain⟨o,B,u,go,gd,_,j⟩:=G;unfold W.nsIn at e;split at e
 .rename_i q;have z:=I _ _ q;rw[go]at z;cases z;cases gd;split at e
  .rename_i en k;cases e;rw[<-j];unfold nsFind findBy;rw[<-Zdw,k];rfl
  .split at e<;>cases e
 .cases e
def Qi(K:W.Frag)(C f:Zm):Bool:=match K.lookup C with|some ⟨.type "type",_,.cls cd,sl⟩=>(match cd.mro,sl.toList with|.ref C'::bm,[_,_,_,_,J (.builtin n),_]=>C'==C&&n=="ValueError.__new__"&&!cd.hasDel&&W.tailIn K bmV bm&&W.nsOkIn K cd.ns&&W.nsIn K cd.ns "__init__"==J (J<|.ref f)&&(match K.lookup f with|some o=>o.cls==.type "function"|none=>Zi)|_,_=>Zi)|_=>Zi
theorem Qi.obj{K:W.Frag}{C f:Zm}{h:Zam}(x:Qi K C f=Zg)(I:K.In h):∃bm N nm q bs hdct sn sub ab col dd k0 k1 k2 k3 k5 mN E,h.get? C=J (Zd7 nm q C N bs bm hdct sn sub ab col dd k0 k1 k2 k3 k5 "ValueError.__new__")/\h.Ns N mN/\mN "__init__"=J (.ref f)/\OwnTail h bmV bm/\h.get? f=J E/\E.cls=.type "function":=by
 unfold Qi at x;split at x;case h_2=>cases x
 rename_i dd cd B H;split at x;case h_2=>cases x
 rename_i D bm k0 k1 k2 k3 n k5 u j;simp at x;obtain⟨⟨⟨⟨⟨⟨e1,e2⟩,m⟩,e4⟩,e5⟩,e6⟩,e7⟩:=x;subst e1 e2;obtain⟨nm,bs,L,N,F,hd,sn,sub,ab,col,G⟩:=cd;have u:=u;have m:=m;subst u m;have j:B=(ZaE [k0,k1,k2,k3,J<|.builtin "ValueError.__new__",k5]):=by rw[<-Array.toArray_toList (xs:=B),j]
 subst j;cases k:K.lookup f with|none=>rw[k]at e7;cases e7|some o=>rw[k]at e7;exact#[bm,N,nm,F,bs,hd,sn,sub,ab,col,dd,k0,k1,k2,k3,k5,_,o,I _ _ H,.of_isNs<|W.isNs_of_in I e5,J35 I (.of_isNs<|W.isNs_of_in I e5) e6,W.tail_of_in I e4,I _ _ k,beq_iff_eq.mp e7]
section
variable{X:Cx}{V:PnT}{U:L2.St}{H:Hp}{s:Zl}{k:Nat}{f C:Zm}{fd:ZaK}{ps:Tl}{sp:Sp}{dvs:Ud}{ds:Tv}{E:XK}{Q:VK}{us:Tv}{O:Ud}{W:QvT}
theorem Jtm(xc:Qi X.K C f=Zg)(F:FnOk X.prog X.w X.K X.mg X.base (CXI X.prog X.w) k f fd ps sp)(hr:Room (k+1) X.A)(hb:Qc X.K fd ps ds)(hd:Vals dvs ds)(I:Inv X V U H s)(r:Vals O us)(hz:us.length<=sizeLine) (h:∀e,H e=Zc->sp (.ref e::(O++dvs)) (upd H e<|ExF e C .none Zc) (λv H2=>v=.non/\Q (.ref e) H2) E) (hx:∀e s' H',Inv X V U H' s'->E e Zc H'->W e s'):Zv (Zy X.prog X.w) X.A (call (.ref C) us) (EP X V U Q) W s:=by
 obtain⟨bm,Na,nm,qn,bs,Z,sn,sub,ab,col,dd,k0,k1,k2,k3,k5,mN,oI,R,hN,G,T,hf,P⟩:=Qi.obj xc I.kIn;obtain⟨hp,ge,dr,tk,ox⟩:=s;refine Jre Zcj 01 Zcj T R hN G hf P hz λY e M=>?_
 obtain⟨t,D,_,_⟩:=M.there;have he:H e=Zc:=by cases z:H e with|none=>rfl|some u=>obtain⟨o,z'⟩:=Jta<|I.hok e u z;rw[show hp.get? e=Zc from M.new]at z';cases z'
 have m:=λb u q=>M.keeps b u q
 have j:∀{b:Zm}{u:HO},H b=J u->upd H e (ExF e C .none Zc) b=J u:=λ{b u} q=>by rw[Jo λz=>by subst z;rw[he]at q;cases q];exact q
 have un:Un X.fs [] H (upd H e<|ExF e C .none Zc) hp Y:=#[λb o q _ _ _=>m b o q,λb o q _ _ _=>#[o.slots,m b o q],λb o q n _=>by rw[Jo λz=>by subst z;rw[show hp.get? b=Zc from M.new]at q;cases q];exact n,λb o q _=>#[o,m b o q],λb xs q=>j q,λb o u q=>j q,λb ps q=>#[#[],by rw[j q];simp]];have ok:HOk X.prog X.w (upd H e<|ExF e C .none Zc) Y:=λb u q=>by
  by_cases z:b=e
  .subst z;rw[J2]at q;cases q;exact ExF.ok D rfl rfl rfl rfl rfl
  .rw[Jo z]at q;exact(I.hok b u q).stay (λd v _ p=>m d v p) (λd p=>j p) λd xs p=>j p
 have B:=I.un (t':=tk) un ok;have hq:=h e he;have S:Vals (hV.ref e::(O++dvs)) (Zb6 e::(us++ds)):=.cons rfl (r.append hd);have la:=S.length;have lf:=F.len _ _ _ _ hq;have hl:(Zb6 e::us++ds).length=ps.length:=by rw[Zac];lia
 refine Zc5<|ZbA (F.run _ _ _ _ #[.ref e::us,[]] _ _ _ _ (hr.make C us []) (B.env0.make C us []) (hb _ (.ref e::us) B.kIn hl) S hq) λL s' q=>?_
 match L,q with|.error x,q=>obtain⟨H',I',z⟩:=Jt2 B q;exact hx x s' H' I' z|.ok (.ret u),q=>obtain⟨v,H',J3,rv,ev,q3⟩:=B.after q;subst ev;exact#[rv,#[hV.ref e,H',J3,rfl,q3]]|.ok .next,q=>exact ZaV q|.ok .brk,q=>exact ZaV q|.ok .cont,q=>exact ZaV q
end
def Joo(c:Str)(f:Tx->IH->Res IV)(dvs:Tx)(a:A1):E1:=λU h=>(a U h).bind λO h1=>(f (.ref h1.length::(O++dvs))<|h1++[.exc c []]).bind λr L=>match r with|.non=>.ok (.ref h1.length) L|_=>.stuck
section
variable{B:CeT}{X:Cx}{k:Nat}{fa C:Zm}{fd:ZaK}{ps:Tl}{f:Tx->IH->Res IV}{dvs:Tx}{ds:Tv}{x c:Str}{p pos:Pos}{e:Expr}{es:Tf}{ma:A1}
theorem Jqe{V:PnT}{U:L2.St}{H:Hp}{Y:Tw}{Z:ISt}{h:IH}{s:Zl}{Q E:QvT}{us:Tv}{xs:Tx}(xc:Qi X.K C fa=Zg)(F:FnOk X.prog X.w X.K X.mg X.base (CXI X.prog X.w) k fa fd ps<|spI B X.K ps f)(hC:W.nsIn X.K Zn c=J (J<|.ref C))(hr:Room (k+1) X.A)(hb:Qc X.K fd ps ds) (hd:∃O,Vals O ds/\∀Y H,RVs X.K Y H dvs O)(hlen:us.length+ds.length+1=ps.length)(hz:us.length<=sizeLine)(N:Now B X V Y Z h U H s)(r:RUs X.K Y H xs us) (K:Kont B X RU V Y Z U H ((f (.ref h.length::(xs++dvs))<|h++[.exc c []]).bind λr L=>match r with|.non=>.ok (.ref h.length) L|_=>.stuck) Q E):Zv (Zy X.prog X.w) X.A (call (.ref C) us) Q E s:=by
 obtain⟨O,S,q⟩:=r;obtain⟨dv,rd,qd⟩:=hd;have hl1:=S.length;have hl2:=rd.length;refine Zaf (Jtm (Q:=λz m=>∀u j,Inv X V U m j->RelV z u->Q u j) (E:=λv _ m=>∀j,Inv X V U m j->E v j) xc F hr hb rd N.inv S hz (λb hx=>#[by rw[Zar,Z0];lia,?_]) λ_ j _ D z=>z j D) (λu j ⟨z,m,D,r',k'⟩=>k' u j D r') λ_ _ z=>z
 obtain⟨R2,n2⟩:=N.rel.alloc (io:=.exc c []) hx #[C,.none,Zc,.inl #[rfl,rfl],hC,J2,.inl rfl];have I:(Y++[b])[h.length]?=J b:=by rw[<-N.rel.len];simp
 refine#[Y++[b],h++[.exc c []],.ref h.length::(xs++dvs),R2,#[_,_,rfl,#[b,rfl,I],(RVs.mono n2 _ _ q).append<|qd _ _],?_];cases M:f (.ref h.length::(xs++dvs)) (h++[.exc c []])with
 |ok v h'=>rw[M]at K;intro z m P R G qz;cases v with|non=>cases (qz);exact#[rfl,λu j D ru=>K u j m P #[D,R,N.st.mono<|n2.trans G] (n2.trans G) #[.ref b,ru,b,rfl,G.at I]]|_=>exact(K).elim
 |exc n h'=>rw[M]at K;exact λa m P R G hi j D=>K [] a j m P #[by simpa using D,R,N.st.mono<|n2.trans G] (n2.trans G) hi
 |stuck=>rw[M]at K;exact(K).elim
theorem Jzw(xc:Qi X.K C fa=Zg)(kp:W.keepIn X.K (.ref C)=Zg)(F:FnOk X.prog X.w X.K X.mg X.base (CXI X.prog X.w) k fa fd ps<|spI B X.K ps f)(P:W.nsIn X.K Zn c=J (J<|.ref C))(R:Room (k+1) X.A)(hg:Gl X x)(hm:X.mg x=J (.ref C))(S:Qc X.K fd ps ds)(hd:∃O,Vals O ds/\∀Y H,RVs X.K Y H dvs O) (ha:PAi B X (e::es) ma)(m:∀U h xs h',ma U h=.ok xs h'->xs.length+ds.length+1=ps.length)(hz:ps.length<=sizeLine)(G:(x==("__debug__":Str))=Zi:=by decide)(he:Z9 (e::es) X.env=(Zi,ZaQ e X.env)::Z9 es X.env:=by rfl)(D:(Zbh pos<|Z9 es X.env).any (·.1)=Zi:=by rfl):PEi B X (.Call (.Name x p) (e::es) [] pos) (Joo c f dvs ma):=by
 intro V s U H Y Z h Q E N K;refine ZT<|Vp N.inv hg hm ?_ G;refine W.callWith_K N.inv.ok.mod.kin kp ?_ he D;have j:=K;unfold Joo at j;refine ha pos V s U H Y Z h _ E N ?_;cases u:ma Z h with|exc n h'=>rw[u]at j;exact j|stuck=>rw[u]at j;exact j|ok xs h'=>
  rw[u]at j;intro us s1 H1 U1 I n1 L;have hl:xs.length=us.length:=by obtain⟨O,M,q⟩:=L;rw[<-M.length,q.length]
  have hn:=m Z h xs h' u;exact#[I.inv.kIn,Jqe (us:=us) xc F P R S hd 05 05 I L<|Kont.mono j n1]
end
section
variable{X:Cx}{V:PnT}{U:L2.St}{H:Hp}{s:Zl}{f C e:Zm}{tv:Zh}{d:Te}{us:Tv}
theorem J5i(h:H a=J o):upd H a o=H:=by
 funext b;by_cases z:b=a
 .subst z;rw[J2,h]
 .rw[Jo z]
theorem Ju5(xc:Qi X.K C f=Zg)(I:Inv X V U H s)(ha:H e=J (ExF e C tv d))(hz:us.length<=sizeLine){Q E:QvT} (go:∀s',Inv X V U H s'->Q .none s'):Zv (Zy X.prog X.w) X.A (call (.builtin "ValueError.__init__")<|.ref e::us) Q E s:=by
 obtain⟨bm,Na,nm,qn,bs,M,sn,sub,ab,Y,dd,k0,k1,k2,k3,k5,mN,oI,D,hN,hni,T,hf,hfc⟩:=Qi.obj xc I.kIn;obtain⟨oe,O,g1,g2,B,g4,g5,Z⟩:=ExF.get I.hok ha;refine Zc5<|ZaX PySem.F.excBase_ValueError.init.plain PySem.F.excBase_ValueError.initEntry ?_;obtain⟨hp,P,S,G,W⟩:=s;refine wpAny_check_init_subU Zcj T D g1 g2 ?_
 wp_walk
 have sz:=(Za1.mp g4).1;obtain⟨F,h0⟩:∃F,O[0]?=J F:=#[O[0],Zb4 00];rw[B];refine Zk ?_;dsimp only;rw[h0];refine Zk ?_;have k:=Ze {cls:=.type "tuple",data:=.seq us.toArray} g1;refine Zb<|ZaF k B 00 ?_;have I1:Inv X V U H #[hp.push {cls:=.type "tuple",data:=.seq us.toArray},P,S,G,W]:=I.kept λb o q=>Ze _ q
 have j:=ZS B (·.setIfInBounds 0 (Zb6 hp.objs.size));have m:=Zae (Zao (·.setIfInBounds 0 (Zb6 hp.objs.size))) k<|ZaB j;have R:Inv X V U (upd H e<|ExF e C tv d) #[(hp.push {cls:=.type "tuple",data:=.seq us.toArray}).update e (Zao (·.setIfInBounds 0 (Zb6 hp.objs.size))),P,S,G,W]:=I1.write (by rw[ha];trivial) (.inl rfl) (λb u n q=>(Zw _ _<|ZP n).trans q) #[_,m] (ExF.ok m ((Zcc _ _).trans g2) j (by simp_all) (by simp_all)<|(Jlh _ _).trans Z);rw[J5i ha]at R;have L:=go _ R;cases F with|ref b=>exact ZbE<|Zk L|_=>exact Zk<|Zk L
end
structure BasX(K:W.Frag)(D:Zm):Prop where
 sp:W.specialIn K (.ref D) "__getattribute__"=J (J<|.builtin "type.__getattribute__")
 rd:W.readsIn K D (.type "type")=Zg
 fc:W.findCls K (.ref D) (.type "type") "__init__"=J (.val<|.builtin "ValueError.__init__")
def Yt(rz:Str->Bool)(a:A1):E1:=λU h=>(a U h).bind λO h1=>match O with|[.ref n,.str _]=>(match h1[n]? with|some (.exc c _)=>if rz c then .ok .non h1 else .stuck|_=>.stuck)|_=>.stuck
section
variable{B:CeT}{X:Cx}{D:Zm}{x:Str}{p pos apos:Pos}{e:Expr}{es:Tf}{ma:A1}{pl:Sem Bool}
theorem Jzr{rz:Str->Bool}(hx:∀c C,rz c=Zg->W.nsIn X.K Zn c=J (J<|.ref C)->∃f,Qi X.K C f=Zg)(hg:Gl X x)(hm:X.mg x=J (.ref D))(cS:BasX X.K D) (ha:PAi B X (e::es) ma)(F:(x==("__debug__":Str))=Zi:=by decide)(he:Z9 (e::es) X.env=(Zi,ZaQ e X.env)::Z9 es X.env:=by rfl)(m:(Zbh pos<|Z9 es X.env).any (·.1)=Zi:=by rfl) (I:ZaQ (.Call (.Attribute (.Name x p) "__init__" apos) (e::es) [] pos) X.env=(do
   let ov<-ZaQ (.Name x p) X.env
   Zeh apos.atName
   let (f,first)<-Zcb [ov] (Zdr ov "__init__" pl)
   ZeZ pos f first (Zbh pos<|Z9 (e::es) X.env) (Zdy pos<|Zci [] X.env)):=by rfl):
  PEi B X (.Call (.Attribute (.Name x p) "__init__" apos) (e::es) [] pos) (Yt rz ma):=by
 intro V s U H Y Z h Q E N K;refine W.methodCall_KW (Vp N.inv hg hm ?_ F) I;refine W.method_cls N.inv.kIn cS.sp<|W.cls_value N.inv.kIn cS.rd cS.fc rfl ?_;have R:Now B X V Y Z h U H {s with toks:=s.toks+1}:=#[N.inv.tok _,N.rel,N.st];refine ZaI ?_ he m;refine(ha pos).run R K λxs P us s1 H1 U1 k n1 r1 j=>?_
 obtain⟨O,S,qs⟩:=r1;by_cases hv:∃n y,xs=[.ref n,.str y]
 .obtain⟨n,y,rfl⟩:=hv;obtain⟨w1,w2,rfl,⟨a,rfl,M⟩,q2⟩:=qs.two_of;obtain⟨u1,u2,rfl,p1,p2⟩:=S.two;cases p1;dsimp only at j;cases u:P[n]? with|none=>rw[u]at j;exact(j).elim|some G=>
   rw[u]at j;cases G with
   |exc c fs=>
    dsimp only at j;split at j
    .rename_i hr;obtain⟨C,tv,d,fe,hC,hH,ht'⟩:=Vs k.rel u M;obtain⟨f,xc⟩:=hx c C hr hC;have sb:1<=sizeLine:=01;exact Ju5 xc k.inv hH (by simpa using sb) λL I'=>j _ L H1 U1 #[I',k.rel,k.st] .refl #[.non,rfl,rfl]
    .exact(j).elim
   |_=>exact(j).elim
 .refine(show False from ?_).elim;split at j
  .exact hv #[_,_,rfl]
  .exact j
end
def Joq:Tv->Bool|.ref _::r=>Joq r|l=>l==bmV
theorem Ji3(self:Zh):∀{l:Tv},Joq l=Zg->refuseLoop self "__setattr__" l=pure ()|.ref c::r,e=>by rw[refuseLoop_ref];exact Ji3 self e|[],e=>by cases e|.type n::r,e=>by rw[show Zc2 n::r=bmV from beq_iff_eq.mp e];exact PySem.F.store_ValueError.passes self|.none::_,e=>absurd (beq_iff_eq.mp e) nofun|.bool _::_,e=>absurd (beq_iff_eq.mp e) nofun|.int _ _::_,e=>absurd (beq_iff_eq.mp e) nofun|.str _ _::_,e=>absurd (beq_iff_eq.mp e) nofun|.float _ _::_,e=>absurd (beq_iff_eq.mp e) nofun|.bytes _ _::_,e=>absurd (beq_iff_eq.mp e) nofun|.ellipsis::_,e=>absurd (beq_iff_eq.mp e) nofun|.notImplemented::_,e=>absurd (beq_iff_eq.mp e) nofun|.builtin _::_,e=>absurd (beq_iff_eq.mp e) nofun
theorem Jr0:∀{l:Tv},Joq l=Zg->l.contains (.type "object")=Zg|.ref c::r,e=>by rw[List.contains_cons,Jr0 (l:=r) e,Bool.or_true]|[],e=>by cases e|.type n::r,e=>by rw[show Zc2 n::r=bmV from beq_iff_eq.mp e];decide|.none::_,e=>absurd (beq_iff_eq.mp e) nofun|.bool _::_,e=>absurd (beq_iff_eq.mp e) nofun|.int _ _::_,e=>absurd (beq_iff_eq.mp e) nofun|.str _ _::_,e=>absurd (beq_iff_eq.mp e) nofun|.float _ _::_,e=>absurd (beq_iff_eq.mp e) nofun|.bytes _ _::_,e=>absurd (beq_iff_eq.mp e) nofun|.ellipsis::_,e=>absurd (beq_iff_eq.mp e) nofun|.notImplemented::_,e=>absurd (beq_iff_eq.mp e) nofun|.builtin _::_,e=>absurd (beq_iff_eq.mp e) nofun
section
variable{prog:Z7}{w:ZU}{A:ZI}{K:W.Frag}{C x:Zm}{s:Zl}{R:Zec->Zl->Prop}{ox:Obj}{name:Str}{v:Zh}
structure StoX(K:W.Frag)(C:Zm)(name:Str):Prop where
 line:(W.clsIn K C).any (λcd=>Joq cd.mro&&cd.hasDict)=Zg
 free:W.takerIn K C name=J Zc
 way:W.findIn K (.ref C) "__setattr__"=J (J<|.builtin "object.__setattr__")
theorem Ju7(S:StoX K C name){tk:Tok}(X:K.In s.heap)(I:W.InstAt s.heap x ox C Zc) (h:∀b,Zv (Zy prog w) A.in1 (Builtin.ObjectAttr.storeInOwnDict (.ref x) (.ref C) (.str name tk) name v b) (λfin s'=>match fin with|.done f=>R (.ok f) s'|.again c=>c.quiet=Zg/\ZbI (Zy prog w) A c R s') (λe s'=>R (.error e) s') s):ZbI (Zy prog w) A (.call (.builtin "object.__setattr__") #[[.ref x,.str name tk,v],[]]) R s:=by
 obtain⟨cd,B,D⟩:=W.any_some S.line;obtain⟨m,E⟩:=ZbF.mp D;have ne:cd.mro.isEmpty=Zi:=by cases q:cd.mro with|cons _ _=>rfl|nil=>rw[q]at m;cases m
 have u:W.Looks (Zy prog w) s.heap (isInstance (.ref x)<|.type "object") Zg:=I.type.andThen (W.looks_mroIn X (by unfold W.mroIn;rw[B,Option.bind_some,if_neg (by rw[ne];decide),Jr0 m]));have k:=PySem.F.store_object;obtain⟨j,ha,F⟩:=ZdS.mp S.free;have st:W.Looks (Zy prog w) s.heap (Builtin.ObjectAttr.storeTaker? j) Zc:=by
  cases j with
  |some a=>obtain⟨b,G,e⟩:=Z3.mp F;refine(W.looks_takesIn X G).andThen ?_;cases b with|false=>exact .now|true=>cases e
  |none=>exact .now
 refine ZaX k.slot.plain k.entry ?_;refine @W.check_slot (Zy prog w) _ _ s "object.__setattr__" "object" "__setattr__" (.ref x) [.str name tk,v] [] _ k.kind k.split u (k.args _ _ _) ?_;rw[W.osa_eq,refuse_eq];have H:W.Looks (Zy prog w) s.heap (mroOf<|.ref C) cd.mro:=(W.looks_clsIn X B).andThen .now;refine Zb<|Zb<|I.type.here<|Zb<|H.here ?_;rw[Ji3 _ m];exact Zk<|Zb<|I.type.here<|Zb<|(W.looks_findIn X ha).here<|Zb<|st.here<|h _
end
section
variable{prog:Z7}{w:ZU}{A:ZI}{K:W.Frag}{C x:Zm}{s:Zl}{ox:Obj}{name:Str}{v:Zh}
theorem Jr1(S:StoX K C name){Q:Unit->Zl->Prop}{E:QvT}(X:K.In s.heap)(I:W.InstAt s.heap x ox C Zc)(hd:ox.dict=Zc)
  (go:∀h' t',h'.get? x=J {ox with dict:=J s.heap.objs.size}->h'.Ns1 s.heap.objs.size (λy=>if y=name then J v else Zc)->(∀b o,b≠x->s.heap.get? b=J o->h'.get? b=J o)->Q () {s with heap:=h',toks:=t'}):
  Zv (Zy prog w) A (setAttr (.ref x) name v) Q E s:=by
 refine W.set_plain X I S.way<|Ju7 S X I λb=>?_
 obtain⟨cd,G,L⟩:=W.any_some S.line;have u:=(ZbF.mp L).2;obtain⟨hx,j,hn,-⟩:=I;obtain⟨O,M,k,H⟩:=ox;dsimp only at j hd go;subst j hd;obtain⟨hp,R,Y,P,os⟩:=s;dsimp only at hx X go ⊢;refine Zb<|Zk<|Zb<|Zb<|Ze4 hx<|Zb<|(W.looks_clsIn X G).here ?_;rw[u];have fr:=(Heap.get?_some_iff.mp hx).2;have lt:=Z1<|Zu hx;have D:=Ze {cls:=.type "dict",data:=.dict #[]} hx;show Zv _ _ (if (!true||!typeHasDict (.ref C))=Zg then pure Zc else match k with|Data.cls c=>pure Zc|_=>(alloc {cls:=Zc2 "dict",data:=Data.dict #[]}>>=λd=>update x (λo=>{o with dict:=J d})>>=λ_=>dictMade (.ref C) x d)) _ _ _;rw[if_neg<|by simp[typeHasDict]];split
 .cases hn
 .refine Zb<|wpAny_alloc'<|Zb<|wpAny_update' D<|Zk ?_;have m:=(Zdj (hp.push {cls:=.type "dict",data:=.dict #[]}) hp.objs.size x (λo:Obj=>{o with dict:=J hp.objs.size}) lt.symm).trans<|Zd8 rfl rfl;refine Zb<|Zk<|Zb<|wpAny_nsSet1 (Heap.Ns1.of_empty #[_,#[],_,m,rfl,λe z=>absurd z 03,λ_=>rfl]) λh' B F=>?_
  obtain⟨U,V,Z,g,gd,gl⟩:=B.count<|Within.cons name v Within.nil;refine Zb (wpAny_lookBehind g (by rw[gd];exact pastItsLine_dict<|ZM gl<|Nat.le_add_left 1 _)<|Zk ?_);refine go h' _ ?_ B λb o nb q=>(F.2 b<|Z1<|Zu q).trans<|(Zdj _ _ _ _ nb).trans<|Ze _ q
  refine(F.2 x lt).trans<|Zae _ D ?_;revert fr;cases k<;>exact id
end
theorem Jv5{h:Zam}(n:h.Ns1 a m)(e:m f=J v):∃o,h.get? a=J o/\o.isFreed=Zi/\W.lookIn f o=J (J v):=by obtain⟨o,D,C,g,gd,_,_,j⟩:=n;refine#[o,g,(Heap.get?_some_iff.mp g).2,?_];have z:=j f;rw[e]at z;obtain⟨en,k,B⟩:=Z3.mp z;unfold W.lookIn;rw[gd];dsimp only;rw[Zdw,k];exact congrArg (λu=>J<|J u) B
def xvOk:IV->Bool|.int _=>Zg|.ref _=>Zg|_=>Zi
def Jwh(st:Str->Bool)(f:Str)(o e:E1):S1:=λU h=>rS U (e U h) λv h1=>rS U (o U h1) λov L=>match ov with|.ref i=>(match L[i]? with|some (.exc c [])=>if st c&&xvOk v then .next U (L.set i<|.exc c [(f,v)])else .stuck|_=>.stuck)|_=>.stuck
section
variable{B:CeT}{X:Cx}{o value:Expr}{mo mv:E1}{pos pos':Pos}{fl:Str}
theorem Jzd{V:PnT}{Y:Tw}{Z:ISt}{h:IH}{U:L2.St}{H:Hp}{s:Zl}{n:Nat}{a C:Zm}{c:Str}{y:IV}{u:Zh}{Q:Unit->Zl->Prop}{E:QvT} (hu:XV Y y u)(S:StoX X.K C fl)(G:W.nsIn X.K Zn c=J (J<|.ref C))(N:Now B X V Y Z h U H s)(hj:h[n]?=J (.exc c []))(hi:Y[n]?=J a) (go:∀s' H',Now B X V Y Z (h.set n<|.exc c [(fl,y)]) U H' s'->Nxt Y H Y H'->Q () s'):Zv (Zy X.prog X.w) X.A (setAttr (.ref a) fl u) Q E s:=by
 obtain⟨C',D,d,fe,m,ha,ht⟩:=Vs N.rel hj hi;rw[G]at m;cases m;obtain⟨oe,O,g1,g2,R,g4,g5,F⟩:=ExF.get N.inv.hok ha;obtain rfl:d=Zc:=by
  rcases fe with⟨_,q⟩|⟨_,_,_,_,_,q,_⟩
  .exact q
  .cases q
 refine Jr1 S N.inv.kIn #[g1,g2,by unfold W.notCls;rw[R],by rw[F];trivial] F λh' P L x2 x3=>?_
 obtain⟨j,d1,d2,d3⟩:=Jv5 x2<|if_pos rfl;have hn:=N.inv.hok.fresh<|Zq _;have ne:s.heap.objs.size≠a:=λz=>by rw[z,ha]at hn;cases hn
 have M:(s.heap.push j).get? s.heap.objs.size=J j:=Zd8 rfl d2;have I1:Inv X V U (upd H s.heap.objs.size<|.frz j<|.own 0) {s with heap:=s.heap.push j,toks:=P}:=N.inv.laid (λb u q=>Ze _ q) (Zq _) #[M,#[_,M]];obtain⟨R1,n1⟩:=N.rel.grow hn;have k:upd H s.heap.objs.size (.frz j<|.own 0) a=J (ExF a C D Zc):=by rw[Jo ne.symm];exact ha
 have I:Mut (upd H s.heap.objs.size (.frz j<|.own 0) a):=by rw[k];trivial
 obtain⟨R2,n2⟩:=R1.write hi k I (io:=.exc c [(fl,y)]) #[C,D,J s.heap.objs.size,.inr #[fl,y,s.heap.objs.size,j,u,rfl,rfl,by rw[Jo ne,J2],d3,hu],G,J2,ht.mono λb o u q=>by rw[Jo (λz=>by subst z;rw[ha]at q;cases q),Jo λz=>by subst z;rw[hn]at q;cases q];exact q];have I2:Inv X V U (upd (upd H s.heap.objs.size<|.frz j<|.own 0) a<|ExF a C D<|J s.heap.objs.size) {s with heap:=h',toks:=P}:=I1.write I (.inl rfl) (λb u nb q=>by
   by_cases z:b=s.heap.objs.size
   .lia
   .exact x3 b u nb<|(Heap.get?_push_ne _ b _ z).symm.trans q) #[_,L] (ExF.ok L g2 R g4 g5 rfl)
 exact go _ _ #[I2,R2,N.st.mono<|n1.trans n2]<|n1.trans n2
theorem J4z{st:Str->Bool}(ho:PEi B X o mo)(hv:PEi B X value mv)(hx:∀c C,st c=Zg->W.nsIn X.K Zn c=J (J<|.ref C)->StoX X.K C fl)(hs:ZcT value (J<|.Attribute o fl pos') pos.line X.env=pure Zi:=by rfl):
  PS1 B X (.Assign [.Attribute o fl pos'] value pos) (Jwh st fl mo mv):=by
 intro V s U H Y Z h Q E N K;refine ZcM (krun hv N K λv h1 u s1 H1 U1 N1 n1 r1 K1=>krun ho N1 K1 λov L w s2 H2 U2 P n2 r2 k=>?_) hs;cases ov with
 |ref i=>
  obtain⟨w,I,a,e1,R⟩:=r2;subst e1;cases I;dsimp only at k;cases F:L[i]? with
  |none=>rw[F]at k;exact(k).elim
  |some O=>
   rw[F]at k;by_cases hb:∃c,O=.exc c []
   .obtain⟨c,rfl⟩:=hb;dsimp only at k;split at k
    .rename_i G;obtain⟨G,hv⟩:=ZbF.mp G;obtain⟨C,_,_,_,S,_⟩:=Vs P.rel F R;refine Jzd ?_ (hx c C G S) S P F R λs3 H3 N3 n3=>k s3 U H3 U2 N3 n3
     obtain⟨w1,D,M⟩:=r1;cases v with
     |int y=>cases M;exact D
     |ref j=>obtain⟨b,rfl,q⟩:=M;obtain⟨⟨m,rfl⟩,_⟩:=n2;exact#[b,D,by rw[Z8 (Zo.mp q).1];exact q]
     |_=>cases hv
    .exact(k).elim
   .cases O with
    |exc c fs=>cases fs with
     |nil=>exact absurd #[c,rfl] hb
     |cons _ _=>exact(k).elim
    |_=>exact(k).elim
 |_=>exact(k).elim
end
end L3
namespace L3
open PySem PySem.Spec PySem.Calls PyProof.Rows L2
section
variable{prog:Z7}{w:ZU}{A:ZI}{E:QvT}{s:Zl}{K:W.Frag}{x D:Zm}{ox od:Obj}{f:Str}{v:Zh}
theorem Jxe{tk:Tok}{Q:Fin->Zl->Prop}(X:K.In s.heap)(I:W.InstAt s.heap x ox D<|J od)(F:W.hasDictIn K D=Zg)(u:W.findIn K (.ref D) f=J Zc)(j:W.lookIn f od=J (J v)) (G:Q (.done<|.ret v) s):Zv (Zy prog w) A (Zbp.«object.__getattribute__» #[[.ref x,.str f tk],[]]) Q E s:=by
 obtain⟨cd,m,hd⟩:=W.any_some F;have B:W.Looks (Zy prog w) s.heap (Zej<|.ref x) (.ref D):=I.type;have k:=W.looks_findIn (M:=Zy prog w) X u;have C:=W.looks_own (M:=Zy prog w) X I m<|by unfold W.ownOf;rw[if_pos hd];exact j
 obtain⟨hp,g,d,t,os⟩:=s;repeat (any_goals (first|assumption|with_reducible refine B.at ?_|with_reducible refine k.at ?_|with_reducible refine C.at ?_|wp_step))
theorem J79{b:Bool}{tk:Tok}{Q:QvT}(e:ExI K D)(X:K.In s.heap)(I:W.InstAt s.heap x ox D<|J od)(B:W.findIn K (.ref D) f=J Zc)(u:W.lookIn f od=J (J v))(hv:∀id,v≠.builtin id) (C:Q v s):Zv (Zy prog w) A (getAttrBy (.ref x) (.str f tk) Zg b) Q E s:=by
 have j:W.Looks (Zy prog w) s.heap (Zej<|.ref x) (.ref D):=I.type;have k:=W.looks_findIn (M:=Zy prog w) X e.ga;have m:=W.looks_findIn (M:=Zy prog w) X e.gn;obtain⟨hp,g,d,t,os⟩:=s;dsimp only at j k m;have G:=F.attr_ValueError.ga.bind<|.ref x;have n2:(ZcW "BaseException.__getattribute__"==ZcW "object.__getattribute__")=Zi:=by decide +kernel
 have H:(b&&onTheHeap (ZcW "BaseException.__getattribute__"))=Zi:=by cases b<;>rfl
 repeat (any_goals (first|assumption|with_reducible refine j.at ?_|with_reducible refine k.at ?_|with_reducible refine m.at ?_|wp_step))
 refine ZaX F.attr_ValueError.ga.plain F.entry_bexc_ga<|Jpq X I.at_ I.cls e.mb<|Jxe X I e.hd B u ?_;repeat (any_goals (first|assumption|wp_step))
 split
 .exact absurd rfl (hv _)
 .exact Zk C
theorem J2a{b:Bool}{Q:QvT}(e:ExI K D)(X:K.In s.heap)(I:W.InstAt s.heap x ox D<|J od)(k:W.findIn K (.ref D) f=J Zc)(j:W.lookIn f od=J (J v))(hv:∀id,v≠.builtin id) (m:Q v {s with toks:=s.toks+1}):Zv (Zy prog w) A (getAttr (.ref x) f b) Q E s:=Zb (wpAny_mkText<|J79 e X I k j hv m)
theorem XV.nb(h:XV Y y u):∀id,u≠.builtin id:=by cases y with|int i=>obtain⟨t,rfl⟩:=h;exact nofun|ref j=>obtain⟨b,rfl,_⟩:=h;exact nofun|_=>cases h
end
def Yu(xa:Str->Bool)(f:Str)(o:E1):E1:=λU h=>(o U h).bind λv h1=>match v with|.ref i=>(match h1[i]? with|some (.exc c [(g,y)])=>if xa c&&decide (g=f)then .ok y h1 else .stuck|some (.hld c [(g,y)])=>if xa c&&decide (g=f)then .ok y h1 else .stuck|_=>.stuck)|_=>.stuck
section
variable{B:CeT}{X:Cx}{o:Expr}{mo:E1}{pos:Pos}{fl:Str}
theorem J21(ho:PEi B X o mo)(hx:∀c C,xa c=Zg->W.nsIn X.K Zn c=J (J<|.ref C)->ExI X.K C/\W.findIn X.K (.ref C) fl=J Zc)(hb:Zcq o fl X.env (ZaQ o X.env)=ZaQ o X.env:=by rfl):PEi B X (.Attribute o fl pos) (Yu xa fl mo):=by
 intro V s U H Y Z h Q E N K;refine Jq6 hb<|ho.run N K λv h1 u s1 H1 I D n1 r1 m=>?_
 have P:∀{i a:Nat}{c:Str}{C:Zm}{F:Obj}{O:Tk}{g:Str}{y:IV},xa c=Zg->g=fl->W.nsIn X.K Zn c=J (J<|.ref C)->s1.heap.get? a=J F->F.cls=.ref C->F.data=.fields O->XdOk I H1 F.dict [(g,y)] ->(∀t,XV I y t->Q t {s1 with toks:=s1.toks+1})->Zv (Zy X.prog X.w) X.A (getAttr (.ref a) fl Zg) Q E s1:=by
  intro i a c C F O g y L S M g1 g2 g3 G k;subst S;obtain⟨ei,hf⟩:=hx c C L M;rcases G with⟨q,_⟩|⟨f',i',dx,od,t,q,qd,qH,ql,qx⟩
  .cases q
  .cases q;have gd:=(D.inv.hok dx _ qH).1;exact J2a ei D.inv.kIn #[g1,g2,by unfold W.notCls;rw[g3],by rw[qd];exact gd] hf ql qx.nb<|k t qx
 cases v with
 |ref i=>
  obtain⟨wv,rw',a,e1,hi⟩:=r1;subst e1;cases rw';dsimp only at m;cases hh:h1[i]? with|none=>rw[hh]at m;exact(m).elim|some ob=>
   rw[hh]at m;have R:∀fs:Wm,(∃g y,fs=[(g,y)])\/¬ ∃g y,fs=[(g,y)]:=λ_=>Classical.em _
   have rep:∀{y:IV}{t:Zh}{H2:Hp},XV I y t->RU X.K I H2 y t:=by intro y t H2 q;cases y with|int i=>exact#[.int i,q,rfl]|ref j=>obtain⟨b,rfl,q⟩:=q;exact#[.ref b,rfl,b,rfl,q]|_=>cases q
   cases ob with
   |exc c fs=>
    rcases R fs with⟨g,y,rfl⟩|no
    .dsimp only at m;split at m
     .rename_i hz;obtain⟨L,S⟩:=ZbF.mp hz;obtain⟨C,tv,d,G,M,ha,_⟩:=Vs D.rel hh hi;obtain⟨F,O,g1,g2,g3,_,_,g6⟩:=ExF.get D.inv.hok ha;rw[<-g6]at G;exact P (i:=i) L (of_decide_eq_true S) M g1 g2 g3 G λt q=>m t _ H1 I #[D.inv.tok _,D.rel,D.st] .refl<|rep q
     .exact(m).elim
    .match fs,no,m with|[],_,m=>exact(m).elim|_::_::_,_,m=>exact(m).elim|[(g,z)],no,m=>exact absurd #[g,z,rfl] no
   |hld c fs=>
    rcases R fs with⟨g,y,rfl⟩|no
    .dsimp only at m;split at m
     .rename_i hz;obtain⟨L,S⟩:=ZbF.mp hz;obtain⟨C,F,u,O,G,M,ha,g2,g3,_⟩:=Vs D.rel hh hi;exact P (i:=i) L (of_decide_eq_true S) M (D.inv.hok a _ ha).1 g2 g3 G λt q=>m t _ H1 I #[D.inv.tok _,D.rel,D.st] .refl<|rep q
     .exact(m).elim
    .match fs,no,m with|[],_,m=>exact(m).elim|_::_::_,_,m=>exact(m).elim|[(g,z)],no,m=>exact absurd #[g,z,rfl] no
   |_=>exact(m).elim
 |_=>exact(m).elim
end
end L3
namespace L3
open PySem PySem.Spec PyProof.Rows L2
section
variable{B:CeT}{X:Cx}
section
variable{A:ZI}{R:Zec->Zl->Prop}{Q E:QvT}{V:PnT}{Z:ISt}{U:L2.St}{G:Hp->Prop}{fq:Zm}{mk:IV->IH->Res IV}{gt:IV->IV->Ww}{i n:Nat}{l I C:Zm}{kw:Wl}
theorem Jv3(k:A.handled=Zc)(C:CmpK B X A.in1 .Lt gt)(u:X2 B X A.in1 Z U V G (.ref fq) mk)(j:∀H H',Ext H H'->G H->G H')(N:Now B X V Y Z h U H z)(g:G H)(hi:Y[i]?=J l) (K:Kont B X RU V Y Z U H (Xl gt mk i Zc h) Q E):Zv (Zy X.prog X.w) A (call (.builtin "min") [.ref l] [(ZW "key",.ref fq)]) Q E z:=by refine kmk_tree PySem.F.kind_min PySem.F.plain_min PySem.F.entry_min (kmk_min_key _ _) ?_;refine Zb<|ZeA (rfl) ?_;refine Zb<|Zk ?_;exact Jz5 mmN k C u j N g hi (λy e=>by cases e) (λv m q=>q) (λc m q r=>#[q,r]) K
end
def XB(gt:IV->IV->Ww)(q:Str)(j:Nat)(js:Tr)(aa:A1)(m:E1):E1:=λU h=>(aa U h).bind λxs h1=>match h1[j]? with|some (.tab q')=>if q'=q then(match xs with|[.ref i]=>Xl gt (λv h'=>m (J v::js.map λj=>(U[j]?).join) h') i Zc h1|_=>.stuck)else .stuck|_=>.stuck
theorem J28{k:Nat}{q x:Str}{D:Tl}{js:Tr}{j:Nat}{a C:Expr}{aa:A1}{m:E1}{lt:IV->IV->Ww}{params:ZbW}{scope:Zbm}{p lp pos kp:Pos}(hg:Gl X "min")(hm:X.mg "min"=Zc)(ha:PAi B X [a] aa)(cm:∀A:ZI,A.units+64<cLine->CmpK B X A .Lt lt)(hs:Z9 [a] X.env=[(Zi,ZaQ a X.env)])
  (hr:Room (k+2) X.A)(hcd:W.codeIn X.K X.env.code q=Zg)(hq:X.env.qual=q++".<locals>.")(cS:Q8 X.mg X.base)(hx:Q6 params=J x)(S:LamSc X.N X.env.scope.names x D js scope)
  (hb:∀f cd s' H',PEi B (cxL X X.A.in1 (x::D) q scope f cd s' H') C m):
  PEi B X (.Call (.Name "min" p) [a] [#[J "key",.Lambda params C scope lp,kp]] pos) (XB lt q j js aa m):=λV s U H Y Z h Q E N K=>by
 have R:=Ja3 λy hm hk=>N.inv.ok.has y.1<|.inl<|S.free y hm hk
 refine ZT<|Qt N.inv hg hm rfl ?_;refine ZeC ?_ (by rw[hs];rfl) (by rw[hs];rfl) rfl rfl;refine(ha pos).run N K λxs h1 us s1 H1 U1 N1 n1 r1 F=>?_
 cases ej:h1[j]? with|none=>rw[ej]at F;exact(F).elim|some ob=>
  rw[ej]at F;cases ob with
  |tab P=>
   dsimp only at F;split at F
   .rename_i eq;subst eq;refine Zbi<|Zb<|Jka N1 ej hcd hq (Jj9 hx) R cS λf c pm I s2 H2 N2 n2 LC=>Zb<|ZaS<|Zk ?_
    refine ZbH ?_;have L:=Kont.more (pl:=[(f,lamO P params C scope (clOf X.env.cells scope.names []) pm I c)])<|Kont.mono F n2;obtain⟨O,rv,qs⟩:=r1.mono n2;cases xs with|nil=>exact(L).elim|cons x t=>
     cases t with|cons _ _=>cases x<;>exact(L).elim|nil=>
      cases x with
      |ref i=>
       obtain⟨w,rfl,ad,rfl,M⟩:=qs.one_of;obtain⟨u,rfl,ru⟩:=Qq rv;cases ru;refine Jv3 (G:=λH=>QK H P<|.ref c) (mk:=λv h'=>m (J v::js.map λj=>(Z[j]?).join) h') hr.hd (cm _ hr.in1.units) ?_ (λH H' e g=>g.mono e.frzs) N2 LC M ?_
       .intro pl s4 H4 U4 h4 v u Q4 N4 g4 ru4 K4;have pf:=N4.inv.pin (f,lamO P params C scope (clOf X.env.cells scope.names []) pm I c)<|Zp _<|Zax _<|Zp _<|Z2.mpr rfl;exact Jnl N.inv.ok.frames hr.in1 N4 pf.1 g4 hx S (hb f<|.ref c) ru4 K4
       .exact L
      |_=>exact(L).elim
   .exact(F).elim
  |_=>exact(F).elim
end
def ltL:Tq->Tq->Bool|a::as,b::bs=>if a=b then ltL as bs else decide (a<b)|_,_=>Zi
abbrev ivl(l:Wi):Tv:=l.map λp=>.int p.1 p.2
section
open PySem.AutoSeq1 (wpAny_loadPart')
open PySem.MeetsSeq PySem.MeetsSeq2 PySem.MeetsSeq3 PySem.SeqRoads2
theorem Jqp(l b:Zm)(D bs:Wi)(M:D.length=bs.length)(n n2:Nat)(dd I:Te)(sl H:Wb):
  Meets (Zbp.«tuple.__lt__» #[[.ref l,.ref b],[]])
   (λA R s=>s.heap.get? l=J {cls:=.type "tuple",dict:=dd,data:=.seq (ivl D).toArray n,slots:=sl}/\s.heap.get? b=J {cls:=.type "tuple",dict:=I,data:=.seq (ivl bs).toArray n2,slots:=H} /\
    R (.ok (.ret (.bool (ltL (D.map (·.1)) (bs.map (·.1)))))) s):=
 .of_wp λprog w A R s h=>by
  obtain⟨hp,g,d,L,os⟩:=s;obtain⟨U,P,h⟩:=h;have W:=AutoSeq1.sub_tuple_tuple
  wp_walk using Zc0 U,Zc0 P,wpAny_forIn_list _ (λu b F=>b.1=Zc/\F=#[hp,g,d,L,os]/\∃xs k:Wi,xs.length=k.length/\u=(ivl xs).zip (ivl k) /\
   R (.ok (.ret (.bool (ltL (xs.map (·.1)) (k.map (·.1)))))) #[hp,g,d,L,os]) _
  case turn=>
   rintro⟨y,x⟩ u b F ⟨C,rfl,xs,k,B,j,m⟩;match xs,k,B,j,m with
   |p::xs,q::k,B,j,m=>
    injection j with hyx hrest
    have S:=(congrArg Prod.fst hyx).symm;have hx:=(congrArg Prod.snd hyx).symm;subst S hx;refine Zb<|wpAny_eqBool_int ?_;by_cases e:p.1=q.1
    .rw[beq_iff_eq.mpr e]
     wp_walk
     exact#[rfl,rfl,xs,k,by simpa using B,hrest,by simpa[ltL,e]using m]
    .rw[beq_eq_false_iff_ne.mpr e];have G:=CmpOf.ints_lt (prog:=prog) (w:=w) (A:=A.in1) (λi=>if i=0 then p.1 else q.1) λ_ _ q=>q
     have O:=λQ E s h=>by have:=G 0 1 (.int p.1 p.2) (.int q.1 q.2) s Q E #[p.2,03] #[q.2,03];exact this h
     refine Zb<|Zc8<|Zb<|O _ _ _<|Zb<|Zk<|Zk<|Zk #[_,rfl,?_];simpa[ltL,e]using m
   |[],k,B,j,m=>cases j
   |_::_,[],B,j,m=>cases j
  case fin=>
   rintro⟨X,V⟩ F ⟨C,rfl,xs,k,B,j,m⟩;simp only at C;subst C;match xs,k,B,j,m with
   |[],[],_,_,m=>
    wp_walk
    exact#[_,rfl,by simpa[Builtin.Tuple.tupleCompareSizes,M,ltL]using m]
   |_::_,_::_,_,j,_=>cases j
  case h=>exact#[rfl,rfl,D,bs,M,03,h]
end
theorem Jhg:∀{us:Tv}{ns:Tq},ZaZ us ns->∃l:Wi,us=ivl l/\l.map (·.1)=ns|[],[],_=>#[[],rfl,rfl]|[],_::_,h=>by cases h|_::_,[],h=>by cases h|u::us,n::ns,h=>by cases h;rename_i t r;obtain⟨l,e1,e2⟩:=Jhg r;exact#[(n,t)::l,by rw[e1];rfl,by rw[<-e2];rfl]
def ltT:IV->IV->Ww|.tup xs,.tup ys=>(match JL xs,JL ys with|some as,J bs=>if as.length=bs.length then J (ltL as bs)else Zc|_,_=>Zc)|_,_=>Zc
section
variable{B:CeT}{X:Cx}
theorem J3w{A:ZI}(hu:A.units<cLine)(N:Now B X V Y Z h U H s)(r:RU X.K Y H k u)(rb:RU X.K Y H kb ub)(e:ltT k kb=J b)(q:Q (.bool b) s):Zv (Zy X.prog X.w) A (Ze9 .Lt u ub) Q E s:=by
 cases k with
 |tup xs=>
  cases kb with
  |tup ys=>
   obtain⟨x,rx,a,O,rfl,sa,ra⟩:=r;obtain⟨y,ry,c,ws,rfl,sc,rc⟩:=rb;have ru:=rx;have L:=ry;subst ru L;unfold ltT at e;dsimp only at e;cases C:JL xs with|none=>rw[C]at e;cases e|some as=>
    cases D:JL ys with|none=>rw[C,D]at e;cases e|some bs=>
     rw[C,D]at e;dsimp only at e;split at e
     .rename_i hl;cases e;obtain⟨its,v1,⟨⟨cls,dd,R,sl⟩,W,hc,n,hd⟩,_⟩:=N.inv.tuple sa;obtain⟨jts,v2,⟨⟨S,P,G,M⟩,j,I,n2,F⟩,_⟩:=N.inv.tuple sc;subst hc hd I F;obtain⟨l,rfl,rfl⟩:=Jhg<|Vm C ra v1;obtain⟨m,rfl,rfl⟩:=Jhg<|Vm D rc v2;exact richCompare_meets_room #[_,W,rfl] #[_,j,rfl] PySem.F.slot_tuple_lt PySem.F.entry_tuple_lt (PySem.F.args_tuple_lt_2 _ _) (Jqp a c l m (by simpa using hl) n n2 dd P sl M) #[W,j,show Zds (ltL (l.map (·.1)) (m.map (·.1)))≠Value.notImplemented/\Q (.bool (ltL (l.map (·.1)) (m.map (·.1)))) s from#[(λx=>nomatch x),q]] hu
     .cases e
  |_=>cases e
 |_=>cases e
theorem Jy0{A:ZI}(k:A.units<cLine):CmpK B X A .Lt ltT:=λ_ _ _ _ _ _ s _ _ _ _ _ _ _ N r j e q=>J3w k N r j e<|q s.heap s.toks λ_ _ e=>e
end
end L3
namespace L3
open PySem PySem.Spec PyProof.Rows L2 PySem.W
noncomputable def kRun {α:Type}(lt:Nat->Nat->Bool):KasT α->α|.ret a=>a|.ask i j k=>kRun lt<|k<|lt i j
def Asks{α:Type}(n:Nat)(P:α->Prop):KasT α->Prop|.ret a=>P a|.ask i j k=>i<n/\j<n/\∀b,Asks n P<|k b
theorem Asks.mono{α:Type}{n:Nat}{P j:α->Prop}(f:∀a,P a->j a):∀{t:KasT α},Asks n P t->Asks n j t|.ret _,h=>f _ h|.ask _ _ _,⟨h1,L,h3⟩=>#[h1,L,λb=>Asks.mono f<|h3 b]
theorem Asks.bind{α β:Type}{n:Nat}{P:α->Prop}{j:β->Prop}{f:α->KasT β}(k:∀a,P a->Asks n j (f a)):∀{t:KasT α},Asks n P t->Asks n j (t.bind f)|.ret _,h=>k _ h|.ask _ _ _,⟨h1,L,h3⟩=>#[h1,L,λb=>Asks.bind k<|h3 b]
theorem Asks.run:∀{t:KasT α},Asks n P t->P (kRun lt t)|.ret _,h=>h|.ask i j k,⟨_,_,h⟩=>Asks.run (t:=k<|lt i j)<|h<|lt i j
theorem Asks.wp{α:Type}{P:α->Prop}{Q:α->Zl->Prop}(m:∀i j,i<n->j<n->∀C:Bool->Zl->Prop,C (lt i j) s->cmp i j C s):∀{t:KasT α},Asks n P t->Q (kRun lt t) s->t.kasWp cmp Q s|.ret _,_,q=>q|.ask i j k,⟨h1,L,h3⟩,q=>m i j h1 L _<|Asks.wp m (h3<|lt i j) q
def Bd(n:Nat)(p:Th):Prop:=0<n/\p.toList.Perm (ZR n)
theorem Bd.at(h:Bd n p)(i:Nat):p.getD i 0<n:=by
 by_cases j:i<p.size
 .rw[Zdn,Zb4 j];have:p[i]∈p.toList:=03;exact Zaw.mp<|h.2.mem_iff.mp this
 .rw[Zdn,ZcK 05];exact h.1
theorem Jja{n:Nat}{p:Th}(h:Bd n p):∀f m,Asks n (λ_=>True) (kas_asc p f m)|0,_=>trivial|f+1,m=>#[h.at _,h.at _,λb=>by
   dsimp only;split
   .trivial
   .exact Jja h f _]
theorem Je9{n:Nat}{p:Th}(h:Bd n p)(k:Nat):∀f l r,Asks n (λ_=>True) (kas_place p k f l r)
 |0,_,_=>trivial
 |f+1,l,r=>by
  unfold kas_place;split
  .trivial
  .exact#[h.at _,h.at _,λb=>by
    dsimp only;split
    .exact Je9 h k f _ _
    .exact Je9 h k f _ _]
theorem Bd.perm{p q:Th}(h:Bd n p)(r:q.Perm p):Bd n q:=#[h.1,(Array.perm_iff_toList_perm.mp r).trans h.2]
theorem Bd.rev(h:Bd n p)(i j:Nat):Bd n (kas_rev p i j):=h.perm<|mirror_perm _ _ _ _
theorem Jea:∀f (p:Th) m q,Bd n p->Asks n (λr=>Bd n r.1) (kas_desc f p m q)|0,_,_,_,h=>h|f+1,p,m,q,h=>#[h.at _,h.at _,λb=>by
   dsimp only;split
   .split
    .exact Jea f _ _ _<|h.rev _ _
    .exact Jea f _ _ _ h
   .exact#[h.at _,h.at _,λd=>by
     dsimp only;split
     .exact h
     .exact Jea f _ _ _ h]]
theorem Jiq{n:Nat}{p:Th}(h:Bd n p)(m r:Nat):Asks n (λr=>Bd n r.2) (kas_tail3 m r p):=by refine Asks.bind (λx _=>?_)<|Jja (h.rev _ _) _ _;exact h.rev _ _
theorem Jeb{n:Nat}{p:Th}(h:Bd n p)(m r:Nat):Asks n (λr=>Bd n r.2) (kas_descPart m r p):=Asks.bind (λx hx=>by
  split
  .exact Jiq (hx.rev _ _) _ _
  .exact Jiq hx _ _) (Jea _ _ _ _ h)
theorem Jpt{n:Nat}{p:Th}(h:Bd n p)(r:Nat):Asks n (λr=>Bd n r.2) (kas_count r p):=Asks.bind (λm _=>by
  split
  .exact h
  .split
   .exact#[h.at _,h.at _,λb=>by
     dsimp only;split
     .exact h
     .exact Jeb (h.rev _ _) _ _]
   .exact Jeb h _ _) (Jja h _ _)
theorem Jn9{n:Nat}:∀f (p:Th) k,Bd n p->Asks n (Bd n) (kas_bin f p k)|0,_,_,h=>h|f+1,p,k,h=>Asks.bind (λl _=>Jn9 f _ _<|h.perm<|bubble_perm _ _ _)<|Je9 h k _ _ _
theorem Jgr{n:Nat}(hn:0<n):Asks n (Bd n) (ZdT n):=Asks.bind (λr j=>by
  split
  .exact Jn9 _ _ _ j
  .exact j) (Jpt #[hn,Zck _] n)
theorem Jwx(O:Tv)(h:O.length<2):(kRun lt<|ZdT O.length).toList.map (λi=>O.getD i Zaj)=O:=by match O,h with|[],_=>simp[ZdT,kas_count,kas_asc,KasT.bind,kas_descPart,kas_desc,kas_tail3,kRun,kas_rev,mirror,Array.swapIfInBounds]|[v],_=>have:=(Jgr (n:=1) 01).run (lt:=lt);have e:=List.perm_singleton.mp this.2;show(kRun lt<|ZdT 1).toList.map _=_;rw[e];rfl|_::_::_,h=>simp at h;lia
theorem Jmv(r:Vals O us):∀p:Tr,(∀i∈p,i<O.length)->Vals (p.map λi=>O.getD i .non) (p.map λi=>us.getD i Zaj)
 |[],_=>.nil
 |i::p,h=>by
  have k:=h i<|ZB ..;obtain⟨u,B,C⟩:=r.get<|Zd k;refine .cons ?_<|Jmv r p λj m=>h j<|Zr _ m
  show L2.RelV (O.getD i .non)<|us.getD i Zaj;rw[Zx,Zx,Zd k,B];exact C
theorem Jo3{K:W.Frag}{Y:Tw}{H:Hp}{xs:Tx}{O:Ud}(r:RVs K Y H xs O):∀p:Tr,(∀i∈p,i<xs.length)->RVs K Y H (p.map λi=>xs.getD i .non) (p.map λi=>O.getD i .non)
 |[],_=>rfl
 |i::p,h=>by have k:=h i<|ZB ..;obtain⟨v,ev,u⟩:=r.get<|Zd k;refine#[_,_,rfl,?_,Jo3 r p λj m=>h j<|Zr _ m];show RV K Y H (xs.getD i .non)<|O.getD i .non;rw[Zx,Zx,Zd k,ev];exact u
section
variable{kf:Nat->Int}{p:Th}{n i j:Nat}
abbrev ltF(kf:Nat->Int)(i j:Nat):Bool:=decide (kf i<kf j)
end
def ordK(ks:Tq)(n:Nat):Tr:=(kRun (ltF λi=>ks.getD i 0)<|ZdT n).toList
theorem Je4(ks:Tq)(hn:0<n):(ordK ks n).Perm (ZR n):=((Jgr hn).run).2
theorem Jv9(ks:Tq):ordK ks 0=[]:=rfl
theorem Jkh(ks:Tq):∀i∈ordK ks n,i<n:=by
 intro i j;rcases Zc9 n with e|e
 .subst e;cases j
 .exact Zaw.mp<|(Je4 ks e).mem_iff.mp j
theorem Jv8(ks:Tq)(n:Nat):(ordK ks n).length=n:=by
 rcases Zc9 n with e|e
 .subst e;rfl
 .rw[(Je4 ks e).length_eq,Zbc]
theorem Jsk{X:Cx}{V:PnT}{U:L2.St}{H:Hp}{s:Zl}{h':Zam}{t':Nat}{it:Zm}{o:HO}(I:Inv X V U H s)(k:∀b u,b≠it->s.heap.get? b=J u->h'.get? b=J u)(F:FpOk X V H it)(new:JU X.prog X.w (upd H it o) h' it o):
  Inv X V U (upd H it o) {s with heap:=h',toks:=t'}:=by
 obtain⟨hn,D,_,G,L,P⟩:=F;have j:∀b u,H b=J u->b≠it:=λb u e z=>by rw[z,hn]at e;cases e
 refine I.step (ch:=[it]) (λb C=>?_) (λb o _ _ B e _=>k b o (λz=>B<|by simp[z]) e) (λb o _ _ B e _=>#[o.slots,k b o (λz=>B<|by simp[z]) e]) (λb o B _ n=>by rw[Jo λz=>B<|by simp[z]];exact n)
  (λb o B e=>#[o,k b o (λz=>B<|by simp[z]) e]) (λb _ e=>by rw[Jo<|j b _ e];exact e) (λb _ _ e=>by rw[Jo<|j b _ e];exact e) (λb ps e=>#[#[],by rw[Jo<|j b _ e,e];simp]) (λm hm=>?_) (λb u e=>?_) I.bare
 .have e:b=it:=by simpa using C
  subst e;exact#[G,D,L,P]
 .obtain⟨o,E,M,O,r⟩:=hm;exact#[o,E,M,k _ o (ZP D) O,r]
 .by_cases C:b=it
  .subst C;rw[J2]at e;cases e;exact new
  .rw[Jo C]at e;refine(I.hok b u e).stay (λc v B q=>k c v ?_ q) (λc q=>by rw[Jo<|j c _ q];exact q) λc _ q=>by rw[Jo<|j c _ q];exact q
   rcases B with z|z
   .rw[z];exact C
   .exact j c _ z
def Q5(mk:IV->IH->Res IV):Tx->Tq->IH->Res (Tq)|[],ks,h=>.ok ks h|y::r,ks,h=>(mk y h).nx.bind λk h'=>match k with|.int n=>Q5 mk r (ks++[n]) h'|_=>.stuck
def rvB{α:Type}(b:Bool)(l:List α):List α:=if b then l.reverse else l
theorem QX{α:Type}{b:Bool}{l:List α}:(rvB b l).length=l.length:=by cases b;rfl;exact Zdk
def YE(b:Bool)(ys:Tx)(ks:Tq)(h:IH):Res IV:=.ok (.ref h.length)<|h++[.lst<|rvB b<|(ordK ks ys.length).map λi=>ys.getD i .non]
def Xs(b:Bool)(ys:Tx)(ks:Tq)(h:IH):Res IV:=YE b (rvB b ys) (rvB b ks) h
theorem RVs.rvB{K:W.Frag}{Y:Tw}{H:Hp}{b:Bool}{xs:Tx}{O:Ud}(h:RVs K Y H xs O):RVs K Y H (L3.rvB b xs) (L3.rvB b O):=by cases b;exact h;exact h.rev
theorem Jpk{b:Bool}{ws:Ud}{its:Tv}(h:Vals ws its):Vals (rvB b ws) (rvB b its):=by
 cases b
 .exact h
 .exact h.reverse
def XT(mk:IV->IH->Res IV)(i:Nat)(h:IH):Res IV:=match h[i]? with|some (.lst ys)=>if ys.length<64 then(Q5 mk ys [] h).bind (Xs Zi ys)else .stuck|_=>.stuck
section
variable{B:CeT}{X:Cx}
section
variable{A:ZI}{Q E:QvT}{P:PySem.Fin->Zl->Prop}{V:PnT}{Z:ISt}{U:L2.St}{G:Hp->Prop}{fq D kS:Zm}{mk:IV->IH->Res IV}{ys:Tx}{ws:Ud}{its:Tv}{ks:Tq}{e e1:Nat}{H:Hp}{Y:Tw}{h:IH}{s:Zl}
theorem Jpc{b:Bool}{kA:Tk}{st:SortSt}(N:Now B X V Y Z h U H s)(L:FpOk X V H D)(fK:FpOk X V H kS)(m:D≠kS)(gD:s.heap.get? D=J (ZY "list" #[] e1))(gK:s.heap.get? kS=J (ZY "list" kA e))(hz:kA.size<64) (S:Vals ws its)(M:RVs X.K Y H ys ws)(h64:ys.length<64)(k:(arrOf st).map (·.2)=ZaE ((ordK ks ys.length).map λi=>its.getD i Zaj))(hf:failedOf st=Zc)(hP:∀s',Q (.ref D) s'->P (.done<|.ret .none) s')(K:Kont B X RU V Y Z U H (YE b ys ks h) Q E):Zv (Zy X.prog X.w) A (ksk_tail D b e1 (.ref kS) st) P E s:=by
 have O:=Jv8 ks ys.length;have lt:=Jkh ks (n:=ys.length);have l1:=M.length;have l2:=S.length;have W:∀b u,b≠kS->s.heap.get? b=J u->(s.heap.update kS<|Zag λ_=>(#[]:Tk)).get? b=J u:=λb u nb q=>(Zw _ _<|ZP nb).trans q
 have j:=W D _ m gD;have R:=N.turned (t':=s.toks) fK W;have F:(ZaE<|rvB b<|(ordK ks ys.length).map λi=>its.getD i Zaj).size=ys.length:=by rw[ZV,QX,Zj,O]
 have G:(if b=Zg then(ZaE<|(ordK ks ys.length).map λi=>its.getD i Zaj).reverse else ZaE ((ordK ks ys.length).map λi=>its.getD i Zaj))=ZaE (rvB b<|(ordK ks ys.length).map λi=>its.getD i Zaj):=by cases b<;>simp[rvB]
 unfold ksk_tail;try dsimp only
 rw[k,G];refine Zb (Zcv gK rfl ?_ (by rw[Za8];lia) (ZN _));refine Zb<|ZbE ?_;refine Zb<|seqEpoch_at j rfl ?_;refine Zb (Zcv j rfl ?_ (ZN _) (by rw[F,Za8];lia));rw[hf];simp;refine Zk<|hP _ ?_;obtain⟨C,I⟩:∃C,((s.heap.update kS<|Zag λ_=>(#[]:Tk)).update D<|Zag λ_=>ZaE<|rvB b<|(ordK ks ys.length).map λi=>its.getD i Zaj).get? D=J (ZY "list" (ZaE<|rvB b<|(ordK ks ys.length).map λi=>its.getD i Zaj) C):=#[_,Zbf j λ_=>ZaE<|rvB b<|(ordK ks ys.length).map λi=>its.getD i Zaj];have hl:(rvB b<|(ordK ks ys.length).map λi=>ws.getD i hV.non).length<=sizeLine:=by rw[QX,Zj,O,Za8];lia
 have I':=Jsk R.inv (o:=.lst<|rvB b<|(ordK ks ys.length).map λi=>ws.getD i hV.non) (t':=s.toks) (λb u nb q=>(Zw _ _<|ZP nb).trans q) L #[hl,rvB b<|(ordK ks ys.length).map λi=>its.getD i Zaj,C,Jpk (Jmv S _ λi hi=>by have:=lt i hi;lia),I];exact finA R K D L.1 #[_,J2,RVs.new L.1 (Jo3 M _ lt).rvB] _ _ I' rfl
theorem Jwg{b:Bool}{us:Tv}{ns:Tq}(h:ZaZ us ns):ZaZ (rvB b us) (rvB b ns):=by
 cases b
 .exact h
 .exact h.reverse
theorem J2b{b:Bool}{j:Tk}{its:Tv}(h:j.size=its.length):(if b=Zg then(j.zip its.toArray).reverse else j.zip its.toArray)=(rvB b j.toList).toArray.zip (rvB b its).toArray:=by cases b with|false=>simp[rvB]|true=>apply Array.toList_inj.mp;simp;exact List.reverse_zipWith<|by simpa using h
theorem J09{b:Bool}{m:Tk}(N:Now B X V Y Z h U H s)(fD:FpOk X V H D)(fK:FpOk X V H kS)(I:D≠kS)(gD:s.heap.get? D=J (ZY "list" #[] e1))(gK:s.heap.get? kS=J (ZY "list" m e))(hk:ZaZ m.toList ks)(lk:ks.length=ys.length)
  (rv:Vals ws its)(r3:RVs X.K Y H ys ws)(S:ys.length<64)(hP:∀s',Q (.ref D) s'->P (.done<|.ret .none) s')(K:Kont B X RU V Y Z U H (Xs b ys ks h) Q E):
  Zv (Zy X.prog X.w) A (ksk_end D b its.toArray e1 (.ref kS) m) P E s:=by
 have l1:=r3.length;have l2:=rv.length;have l3:=hk.length;have hz:m.size=its.length:=by rw[<-Zal];lia
 have step:∀t:Sem PySem.Fin,Zv (Zy X.prog X.w) A t P E s->Zv (Zy X.prog X.w) A (if b=Zg then(do let _<-rule "list.sort.reverse";t)else t) P E s:=by
  intro t ht;split
  .exact Zb<|Zc8 ht
  .exact ht
 unfold ksk_end;try dsimp only
 refine step _ ?_;rw[J2b hz];have F:=Jpk (b:=b) rv;have O:=r3.rvB (b:=b);have M:=Jwg (b:=b) hk;have u:(rvB b ys).length<64:=by rw[QX];exact S
 have K:Kont B X RU V Y Z U H (YE b (rvB b ys) (rvB b ks) h) Q E:=K;have ly:(rvB b ys).length=(rvB b its).length:=by rw[QX,QX];lia
 have lk':(rvB b ks).length=(rvB b its).length:=by rw[QX,QX];lia
 have l4:(rvB b m.toList).length=(rvB b its).length:=by rw[QX,QX,Zal,hz]
 have z2:its.toArray.size=(rvB b its).length:=by rw[QX,ZV]
 by_cases L:its.toArray.size<2
 .rw[if_pos L,if_pos L];refine Zb<|Zk ?_;rw[StateT.run_pure];refine Zb<|Zk ?_;try dsimp only
  refine Jpc N fD fK I gD gK 05 F O u ?_ rfl hP K;generalize rvB b its=its at *;generalize rvB b m.toList=W at *;have e1:(arrOf<|SortSt.mk' general' (W.toArray.zip its.toArray) #[] 7 Zc).map (·.2)=its.toArray:=by apply Array.toList_inj.mp;rw[Array.toList_map,ksk_zip];exact List.map_snd_zip<|by simp_all
  rw[e1,ly];exact congrArg ZaE (Jwx its 05).symm
 .rw[if_neg L,if_neg L];rw[ZV]at L;rw[ksk_kind hk 05];refine Zb<|Zk ?_;have zk:m.size<64:=05;have n0:¬(rvB b its).length<2:=by rw[QX];exact L
  generalize rvB b its=its at *;generalize rvB b m.toList=W at *;generalize rvB b ks=ks at *;generalize rvB b ys=ys at *;generalize rvB b ws=ws at *;have sp:=Jgr (n:=its.length) 05;refine Zb (Zaf (kat_run (Q:=λk s'=>s'=s/\failedOf k=Zc/\arrOf k=(kRun (ltF λi=>ks.getD i 0)<|ZdT its.length).map (kas_item<|W.toArray.zip its.toArray)) (G:=λp s'=>s'=s/\p=kRun (ltF λi=>ks.getD i 0) (ZdT its.length)) l4 05 05
   (λp k s' a1 a2 a3 a4=>#[a4.1,a3,a4.2▸a2]) (Asks.wp (λi j hi hj C R=>?_) sp #[rfl,rfl])) ?_ λ_ _ e=>e)
  .unfold kas_ask;obtain⟨t1,e1⟩:=M.get i _ (Zd<|show i<ks.length by lia);obtain⟨t2,e2⟩:=M.get j _ (Zd<|show j<ks.length by lia);rw[Zx,Zx,e1,e2];refine kat_lt_int ?_;have R:C (decide (ks.getD i 0<ks.getD j 0)) s:=R;rw[Zx,Zx,Zd (show i<ks.length by lia),Zd<|show j<ks.length by lia]at R;exact R
  .rintro⟨⟨⟩,k⟩ s' ⟨rfl,hfl,har⟩;try dsimp only
   refine Jpc N fD fK I gD gK zk F O u ?_ hfl hP K;rw[kat_snds l4 har,ly];rfl
theorem Jw0{b:Bool}(ko:X2 B X A Z U V G (.ref fq) mk)(hG:∀H H',Ext H H'->G H->G H')(N:Now B X V Y Z h U H s)(g:G H)(fD:FpOk X V H D)(fK:FpOk X V H kS)(L:D≠kS)(gD:s.heap.get? D=J (ZY "list" #[] e1))(gK:s.heap.get? kS=J (ZY "list" #[] 0))
  (rv:Vals ws its)(r3:RVs X.K Y H ys ws)(h64:ys.length<64)(hP:∀s',Q (.ref D) s'->P (.done<|.ret .none) s')(K:Kont B X RU V Y Z U H ((Q5 mk ys [] h).bind<|Xs b ys) Q E):
  Zv (Zy X.prog X.w) A (ksk_rest D (.ref fq) b its.toArray e1<|.ref kS) P E s:=by
 have l1:=r3.length;have l2:=rv.length;unfold ksk_rest;refine Zb<|Zc8 ?_;rw[List.forIn_toArray];refine Zb (ksk_fold (λj s'=>∃H' W h' S I e,Now B X V W Z h' U H' s'/\G H'/\Nxt Y H W H'/\s'.heap.get? D=J (ZY "list" #[] e1)/\s'.heap.get? kS=J (ZY "list" I e)/\ZaZ I.toList S/\S.length=j/\H' D=Zc/\H' kS=Zc/\Kont B X RU V W Z U H' ((Q5 mk (ys.drop j) S h').bind<|Xs b ys) Q E) its 0 s
  #[H,Y,h,[],#[],0,N,g,.refl,gD,gK,.nil,rfl,fD.1,fK.1,K] ?step ?done)
 case step=>
  rintro j x s' hx ⟨H',W,h',S,I,e,N',g',n',M,F,hk,m,R,O,C⟩;simp only[Nat.zero_add]at m C ⊢;have fD':=FpOk.at fD R;have fK':=FpOk.at fK O;obtain⟨xv,ex,rx⟩:=Jn4 rv hx;obtain⟨yv,eyv,qy⟩:=(r3.mono n').get' ex;have hj:=(Zo.mp eyv).1;have ed:ys.drop j=yv::ys.drop (j+1):=by rw[Za4 hj,(Zo.mp eyv).2]
  rw[ed]at C;have C:Kont B X RU V W Z U H' (((mk yv h').nx.bind λk h''=>match k with|.int n=>Q5 mk (ys.drop<|j+1) (S++[n]) h''|_=>.stuck).bind<|Xs b ys) Q E:=C;rw[Res.bind_bind]at C;have hz:I.size=j:=by rw[<-Zal,hk.length,m]
  have N2:=(N'.pinO F fK' λv z=>by cases z).pinO M (FpOk.more fD'<|ZP L) λv z=>by cases z
  rw[Zaa]at N2;refine Zb<|Zct<|nof<|ko _ _ _ _ _ yv x _ N2 g' #[xv,rx,qy]<|Js8 C λk h3 u s3 H3 U3 N3 n3 ru K3=>?_
  have pK:=N3.inv.pin (kS,ZY "list" I e)<|Zp _<|Zp _ 03;have pD:=N3.inv.pin (D,ZY "list" #[] e1)<|Zp _<|Zp _ 03;have N4:=N3.pins;cases k with
  |int n=>
   obtain⟨v,rv',ev⟩:=ru;have ev:v=.int n:=ev;subst ev;obtain⟨t,rfl⟩:=rv';try dsimp only
   refine Zb (Zcv pK.1 rfl ?_ (by rw[Za8];lia) (ZM (ZcF<|Array.size_push ..)<|by rw[Za8];lia));obtain⟨c2,hc2⟩:∃c2,(s3.heap.update kS (Zag (·.push (.int n t)))).get? kS=J (ZY "list" (I.push<|.int n t) c2):=#[_,Zbf pK.1 (·.push (.int n t))];have s1:∀b u,b≠kS->s3.heap.get? b=J u->(s3.heap.update kS (Zag (·.push (.int n t)))).get? b=J u:=λb u nb q=>(Zw _ _<|ZP nb).trans q
   have N5:=N4.turned (t':=s3.toks) (FpOk.at fK pK.2.1) s1;refine Zk #[rfl,H3,U3,h3,S++[n],I.push<|.int n t,c2,N5,hG _ _ n3.ext g',n'.trans n3,s1 D _ L pD.1,hc2,by rw[Zd9];exact ksk_snoc hk,by simp[m],pD.2.1,pK.2.1,K3]
  |_=>exact(K3).elim
 case done=>
  rintro s' ⟨H',W,h',S,I,e,N',g',n',M,F,hk,m,R,O,C⟩;rw[Nat.zero_add]at m C;rw[ZcL 05]at C;try dsimp only
  refine Zb<|listItems_at F rfl ?_;exact J09 N' (FpOk.at fD R) (FpOk.at fK O) L M F hk 05 rv (r3.mono n') h64 hP C
theorem Jt0{b:Bool}{kw:Wl}{cS:ZI}{L:Zam}{tk:Nat}(hkw:∀a,Zbp.«list.sort» #[[.ref a],kw]=ksk_tree a (.ref fq) b)(S:∀a,Zel "list.sort" #[[a],kw])(ko:X2 B X cS.in1 Z U V G (.ref fq) mk)(hG:∀H H',Ext H H'->G H->G H')(N:Now B X V Y Z h U H s)(g:G H) (keep:∀b o,s.heap.get? b=J o->L.get? b=J o)(m:s.heap.objs.size<=L.objs.size)(I:Vals ws its)(r3:RVs X.K Y H ys ws)(W:ys.length<64)(hP:∀D s',Q (.ref D) s'->P (.done<|.ret<|.ref D) s') (K:Kont B X RU V Y Z U H ((Q5 mk ys [] h).bind<|Xs b ys) Q E):Zv (Zy X.prog X.w) cS (do let l<-newList its;let _<-Zcb [l] (call (.builtin "list.sort") [l] kw);ret l) P E {s with heap:=L,toks:=tk}:=by
 have l1:=r3.length;have l2:=I.length;refine Zb (ZbX ?_<|by rw[Za8];lia);have k:(L.push<|ZY "list" its.toArray 0).get? L.objs.size=J (ZY "list" its.toArray 0):=Zs _ rfl;have j:∀b o,s.heap.get? b=J o->(L.push<|ZY "list" its.toArray 0).get? b=J o:=λb o q=>Ze _<|keep b o q
 have M:(L.push<|ZY "list" its.toArray 0).objs.size=L.objs.size+1:=Zc7 ..;generalize L.push (ZY "list" its.toArray 0)=C at k j M;refine Zb<|ZO<|wpAny_call_entry_kw slot_list_sort #[_,k,rfl] entry_list_sort ?body<|S _;case body=>
  rw[hkw];unfold ksk_tree;refine Zb<|listItems_at k rfl ?_;refine Zb (Zcv k rfl ?_ (by rw[ZV,Za8];lia) (ZN _));obtain⟨ep,F⟩:∃ep,(C.update L.objs.size<|Zag λ_=>(#[]:Tk)).get? L.objs.size=J (ZY "list" #[] ep):=#[_,Zbf k λ_=>#[]];refine Zb<|seqEpoch_at F rfl ?_;refine Zb (wpAny_newTuple ?_ (by show its.length<=_;rw[Za8];lia));refine Zb<|ZbX ?_<|ZN _;refine ZO ?_;have R:((C.update L.objs.size<|Zag λ_=>(#[]:Tk)).push<|ZY "tuple" its.toArray 0).objs.size=L.objs.size+2:=by rw[Zc7,Heap.size_update,M]
  obtain⟨O,u⟩:∃O,O=((C.update L.objs.size<|Zag λ_=>(#[]:Tk)).push<|ZY "tuple" its.toArray 0).objs.size:=#[_,rfl];have gK:(((C.update L.objs.size<|Zag λ_=>(#[]:Tk)).push<|ZY "tuple" its.toArray 0).push<|ZY "list" #[] 0).get? O=J (ZY "list" #[] 0):=by rw[u];exact Zs _ rfl
  have gD:(((C.update L.objs.size<|Zag λ_=>(#[]:Tk)).push<|ZY "tuple" its.toArray 0).push<|ZY "list" #[] 0).get? L.objs.size=J (ZY "list" #[] ep):=Ze _<|Ze _ F;have old:∀b o,s.heap.get? b=J o->(((C.update L.objs.size<|Zag λ_=>(#[]:Tk)).push<|ZY "tuple" its.toArray 0).push<|ZY "list" #[] 0).get? b=J o:=λb o q=>Ze _<|Ze _<|(Zw _ _<|ZaT<|ZF (Zu q) m).trans<|j b o q
  rw[<-u];rw[R]at u;have fD:=N.inv.fpOk m<|N.inv.hok.fresh m;have le:s.heap.objs.size<=O:=by rw[u];exact ZM m<|Nat.le_add_right _ _
  have fK:=N.inv.fpOk le<|N.inv.hok.fresh le;exact Jw0 ko hG (N.keptH old) g fD fK (by simp_all) gD gK I r3 W (λs' q=>#[_,rfl,Zk<|hP _ _ q]) K
theorem Jwz{i:Nat}{l:Zm}(M:X2 B X A.in1.in1 Z U V G (.ref fq) mk)(I:∀H H',Ext H H'->G H->G H')(N:Now B X V Y Z h U H s)(g:G H)(hi:Y[i]?=J l) (K:Kont B X RU V Y Z U H (XT mk i h) Q E):Zv (Zy X.prog X.w) A (call (.builtin "sorted") [.ref l] [(ZW "key",.ref fq)]) Q E s:=by
 unfold XT at K;cases u:h[i]? with|none=>rw[u]at K;exact(K).elim|some L=>
  rw[u]at K;cases L with
  |lst W=>
   dsimp only at K;split at K
   .rename_i m;obtain⟨S,P,C⟩:=N.at u hi;obtain⟨O,j,pl,_⟩:=N.inv.list<|SqL.of P;have F:=pl.isList;have l1:=C.length;have l2:=j.length;refine Zeq kind_sorted Zfb Zfc (ksk_s1 _ _) ?_;refine Zb<|Zk ?_;refine Zb (collect_list F ?_<|by rw[Za8];lia);refine Jt0 (λa=>ksk_t1 fq a) (λa=>ksk_l1 a _) M I N g (λb o q=>?_) ?_ j C m (λD R q=>#[_,rfl,q]) K
    .have k:b<s.heap.objs.size:=Zu q;rw[Zdj _ _ _ _<|Z1 k,Heap.get?_push_ne _ _ _<|Z1 k];exact q
    .rw[Heap.size_update,Zc7];exact Zay _
   .exact(K).elim
  |_=>exact(K).elim
end
def XC(q:Str)(j:Nat)(js:Tr)(aa:A1)(m:E1):E1:=λU h=>(aa U h).bind λxs h1=>match h1[j]? with|some (.tab q')=>if q'=q then(match xs with|[.ref i]=>XT (λv h'=>m (J v::js.map λj=>(U[j]?).join) h') i h1|_=>.stuck)else .stuck|_=>.stuck
theorem Jzz{k:Nat}{q x:Str}{F:Tl}{js:Tr}{j:Nat}{a D:Expr}{aa:A1}{m:E1}{params:ZbW}{scope:Zbm}{p lp pos kp:Pos}(hg:Gl X "sorted")(hm:X.mg "sorted"=Zc)(ha:PAi B X [a] aa)(hs:Z9 [a] X.env=[(Zi,ZaQ a X.env)])
  (hr:Room (k+3) X.A)(hcd:W.codeIn X.K X.env.code q=Zg)(hq:X.env.qual=q++".<locals>.")(cS:Q8 X.mg X.base)(hx:Q6 params=J x)(S:LamSc X.N X.env.scope.names x F js scope)
  (hb:∀f cd s' H',PEi B (cxL X X.A.in1.in1 (x::F) q scope f cd s' H') D m):
  PEi B X (.Call (.Name "sorted" p) [a] [#[J "key",.Lambda params D scope lp,kp]] pos) (XC q j js aa m):=λV s U H Y Z h Q E N K=>by
 have R:=Ja3 λy hm hk=>N.inv.ok.has y.1<|.inl<|S.free y hm hk
 refine ZT<|Qt N.inv hg hm rfl ?_;refine ZeC ?_ (by rw[hs];rfl) (by rw[hs];rfl) rfl rfl;refine(ha pos).run N K λxs h1 us s1 H1 U1 N1 n1 r1 I=>?_
 cases ej:h1[j]? with|none=>rw[ej]at I;exact(I).elim|some ob=>
  rw[ej]at I;cases ob with
  |tab P=>
   dsimp only at I;split at I
   .rename_i eq;subst eq;refine Zbi<|Zb<|Jka N1 ej hcd hq (Jj9 hx) R cS λf c pm L s2 H2 N2 n2 LC=>Zb<|ZaS<|Zk ?_
    refine ZbH ?_;have C:=Kont.more (pl:=[(f,lamO P params D scope (clOf X.env.cells scope.names []) pm L c)])<|Kont.mono I n2;obtain⟨O,rv,qs⟩:=r1.mono n2;match xs,C with
    |[.ref i],C=>
     obtain⟨w,rfl,ad,rfl,M⟩:=qs.one_of;obtain⟨u,rfl,ru⟩:=Qq rv;cases ru;refine Jwz (G:=λH=>QK H P<|.ref c) (mk:=λv h'=>m (J v::js.map λj=>(Z[j]?).join) h') ?_ (λH H' e g=>g.mono e.frzs) N2 LC M ?_
     .intro pl s4 H4 U4 h4 v u Q4 N4 g4 ru4 K4;have pf:=N4.inv.pin (f,lamO P params D scope (clOf X.env.cells scope.names []) pm L c)<|Zp _<|Zax _<|Zp _<|Z2.mpr rfl;exact Jnl N.inv.ok.frames hr.in1.in1 N4 pf.1 g4 hx S (hb f<|.ref c) ru4 K4
     .exact C
    |[],C=>exact(C).elim
    |[.non],C=>exact(C).elim
    |[.bl _],C=>exact(C).elim
    |[.int _],C=>exact(C).elim
    |[.str _],C=>exact(C).elim
    |[.tup _],C=>exact(C).elim
    |[.rol _],C=>exact(C).elim
    |x::_::_,C=>cases x<;>exact(C).elim
   .exact(I).elim
  |_=>exact(I).elim
end
end L3
namespace L3
open PySem PySem.Spec PyProof.Rows L2
abbrev RisA(xs:Th):Prop:=xs.toList.Pairwise (· < ·)
section
variable{xs:Th}{j:Nat}
theorem RisA.get(r:RisA xs)(h:i<k)(j:k<xs.size):xs.getD i 0<xs.getD k 0:=by have:=List.pairwise_iff_getElem.mp r i k (by simp;lia) (by simpa using j) h;simpa[j,ZeY h j]using this
theorem RisA.le(r:RisA xs)(h:i<=k)(j:k<xs.size):xs.getD i 0<=xs.getD k 0:=by
 rcases Nat.eq_or_lt_of_le h with e|e
 .lia
 .exact Zbn<|r.get e j
theorem Jjs(r:RisA xs):∀(f lo hi:Nat),lo<=hi->hi<=xs.size->hi-lo<=f->(∀i,i<lo->xs.getD i 0<j)->(∀i,hi<=i->i<xs.size->j<=xs.getD i 0)->∀x,SetTable.below.go xs j f lo hi=x->x<=xs.size/\(∀i,i<x->xs.getD i 0<j)/\∀i,x<=i->i<xs.size->j<=xs.getD i 0
 |0,lo,hi,h1,L,h3,a,b,x,e=>by obtain rfl:lo=hi:=05;subst e;exact#[L,a,b]
 |f+1,lo,hi,h1,L,h3,a,b,x,e=>by
  unfold SetTable.below.go at e;split at e
  .rename_i u;have hm:(lo+hi)/2<xs.size:=05;have gd:xs.getD ((lo+hi)/2) j=xs.getD ((lo+hi)/2) 0:=by simp[Zd1,hm]
   dsimp only at e;rw[gd]at e;by_cases c:xs.getD ((lo+hi)/2) 0<j
   .rw[if_pos c]at e;exact Jjs r f _ _ 05 L 05 (λi k=>Zd2 (r.le (show i<=(lo+hi)/2 by lia) hm) c) b x e
   .rw[if_neg c]at e;exact Jjs r f _ _ 05 05 05 a (λi k m=>ZM (ZcS c)<|r.le k m) x e
  .obtain rfl:lo=hi:=05;subst e;exact#[L,a,b]
theorem Jjt(r:RisA xs)(j:Nat):Zaz xs j<=xs.size/\(∀i,i<Zaz xs j->xs.getD i 0<j)/\∀i,Zaz xs j<=i->i<xs.size->j<=xs.getD i 0:=
 Jjs r xs.size 0 xs.size (ZN _) (Zq _) 05 (λi h=>05) (λi k L=>05) _ rfl
def YD(xs:Th):Nat->Nat|0=>0|i+1=>xs.getD i 0+1
theorem Jis(r:RisA xs):∀{i:Nat},i<=xs.size->Zaz xs (YD xs i)=i
 |0,_=>by
  obtain⟨k,L,j⟩:=Jjt r 0;rcases Zc9 (Zaz xs 0)with e|e
  .exact e
  .have:=L 0 e;lia
 |i+1,hi=>by
  obtain⟨k,L,j⟩:=Jjt r<|xs.getD i 0+1;show Zaz xs (xs.getD i 0+1)=i+1;generalize Zaz xs (xs.getD i 0+1)=x at k L j;rcases Nat.lt_trichotomy x (i+1)with e|e|e
  .have:=j i 05 05;lia
  .exact e
  .have a:=L (i+1) e;have b:=r.get (show i<i+1 by lia) (show i+1<xs.size by lia);lia
theorem RisA.insert(r:RisA xs)(D:xs[Zaz xs j]?≠J j):RisA (SetTable.insertAt xs (Zaz xs j) j):=by
 obtain⟨F,L,B⟩:=Jjt r j;generalize Zaz xs j=p at F L B D;unfold RisA;rw[SetTable.toList_insertAt,List.pairwise_append];have C:∀a∈xs.toList.take p,a<j:=λa ha=>by
  obtain⟨i,m,rfl⟩:=Zab.mp ha;have k:i<p/\i<xs.size:=by
   have:i<min p xs.size:=by simpa using m
   lia
  have:=L i k.1;simpa[Zd1,k.2]using this
 have m:∀a∈xs.toList.drop p,j<a:=λa ha=>by
  obtain⟨i,m,rfl⟩:=Zab.mp ha;have k:p+i<xs.size:=by
   have:i<xs.size-p:=by simpa using m
   lia
  have G:=B (p+i) 05 k;have E:p<xs.size:=05;have np:j≠xs.getD p 0:=λe=>D<|by simp_all
  have H:=B p (Zq _) E;have I:=r.le (show p<=p+i by lia) k;have:j<xs.getD (p+i) 0:=05;simpa[Zd1,k]using this
 exact#[Ze1 (List.take_sublist _ _) r,List.pairwise_cons.mpr #[m,Ze1 (List.drop_sublist _ _) r],λa ha b u=>by
  rcases ZA.mp u with rfl|u
  .exact C a ha
  .exact ZeY (C a ha)<|m b u]
end
structure Tb(led:Bool)(t:SetTable):Prop where
 r:RisA t.place
 d:t.dummies=#[]
 l:t.led=led
section
variable{t:SetTable}{led:Bool}
theorem Tb.standIn(b:Tb led t)(n:Nat):Tb led (t.standIn n):=#[by show(Array.range n).toList.Pairwise _;rw[Array.toList_range];exact Zer,rfl,b.l]
theorem Tb.orStandIn(b:Tb led t)(n:Nat):Tb led (t.orStandIn n):=by
 unfold SetTable.orStandIn;split
 .exact b
 .exact b.standIn n
theorem Jsd(j:Nat):Zfd #[] j=Zi:=by unfold Zfd;simp
theorem Joz(d:t.dummies=#[]):∀(n:Nat)(p:SetTable.Probe),p.dummy=Zc->∀j k,SetTable.probe.go t f h n p=J (.empty j k)->k=Zc/\t.place[Zaz t.place j]?≠J j
 |0,p,_,j,k,e=>by cases e
 |n+1,p,hp,j,k,e=>by
  have m:(t.advance p).dummy=Zc:=by
   unfold SetTable.advance;split
   .exact hp
   .exact hp
  unfold SetTable.probe.go at e;unfold SetTable.slot at e;dsimp only at e;by_cases c:(t.place[Zaz t.place p.j]?==J p.j)=Zg
  .rw[if_pos c]at e;dsimp only at e;split at e
   .cases e
   .exact Joz d n _ m j k e
  .rw[if_neg c,d,Jsd]at e;obtain⟨rfl,rfl⟩:=e;exact#[hp,λz=>c<|beq_iff_eq.mpr z]
theorem Tb.free(b:Tb led t)(e:t.freeSlot h=J (sl,wd)):t.place[Zaz t.place sl]?≠J sl:=by
 unfold SetTable.freeSlot at e;split at e
 .rename_i j m k;obtain⟨rfl,q⟩:=Joz b.d _ _ rfl j m k;simp at e;rw[<-e.1];exact q
 .cases e
theorem Tb.layNew(b:Tb led t)(es:Wj)(h:Int)(x:Zh):Tb led (layNew t es h x).2.1:=by
 unfold PySem.layNew;split
 .rename_i j wd e;refine Tb.orStandIn ?_ _;refine#[b.r.insert<|b.free e,?_,b.l];show(if Zfd t.dummies j then _ else t.dummies)=#[];rw[b.d,Jsd];rfl
 .exact b.standIn _
theorem Tb.laid(e:SetTable.laid mask fi mo led pl hs=J (t',o)):Tb led t':=by unfold SetTable.laid at e;cases q:SetTable.layClean mask hs with|none=>rw[q]at e;cases e|some C=>rw[q]at e;have e:=e;obtain⟨rfl,_⟩:=e;refine#[?_,rfl,rfl];show(List.map _ _).Pairwise _;rw[ZdA];refine List.Pairwise.filterMap _ (λa u j b m B k=>?_) Zer;obtain⟨_,_,rfl⟩:=Z3.mp m;obtain⟨_,_,rfl⟩:=Z3.mp k;exact j
theorem Tb.relayAll(b:Tb led t)(es:Wj)(w:Nat):Tb led (Zfe t es w).2.1:=by
 unfold PySem.relayAll;split
 .rename_i j o e;dsimp only;split
  .unfold SetTable.relaid at e;rw[b.l]at e;exact Tb.laid e
  .exact b.standIn _
 .exact b.standIn _
end
theorem Jfh{α:Type}:∀{l:List α}{i:Nat}{x:α},l[i]?=J x->(x::l.eraseIdx i).Perm l|[],i,x,e=>by simp at e|a::l,0,x,e=>by simp at e;subst e;exact Zck _|a::l,i+1,x,e=>by simp at e;exact(List.Perm.swap a x _).trans<|(Jfh e).cons a
theorem Jtd:∀(f k:Nat)(l:List α)(j:Array α),l.length<=f->(Zff nx f k l j).toList.Perm (j.toList++l)
 |0,k,l,j,h=>by obtain rfl:l=[]:=Zat 05;unfold Zff;simp
 |f+1,k,l,j,h=>by
  unfold Zff;cases e:l[nx k%l.length]? with
  |none=>
   have:l=[]:=by
    cases l with
    |nil=>rfl
    |cons a l=>have:nx k%(a::l).length<(a::l).length:=Nat.mod_lt _ 03;rw[Zd this]at e;cases e
   subst this;simp
  |some x=>dsimp only;have m:=(Zo.mp e).1;refine(Jtd f (k+1) _ _<|by rw[Zd3 m];lia).trans ?_;rw[Zd9,Zaa];exact(Jfh e).append_left _
theorem Jte(nx:Nat->Nat)(xs:Array α):(ZeK nx xs).toList.Perm xs.toList:=by have:=Jtd (nx:=nx) xs.size 0 xs.toList #[] 03;unfold ZeK;simpa using this
abbrev byT(wd:ZU):Bool:=wd.params.followText "set-order"
abbrev ents(es:Wj):Tq:=es.toList.map λe=>numOf e.2
def AllI(es:Wp):Prop:=∀e∈es,∃n t,e=(ZeF n,ZdK n t)
def SetI(wd:ZU)(h:Zam)(a:Zm)(ns:Tq):Prop:=∃o es ep t,h.get? a=J o/\o.ExactSet/\o.data=.set es ep t/\AllI es.toList/\ents es=ns/\es.size<Zbr/\t.fits es.size=Zg/\Tb (!byT wd) t
theorem SetI.moved{hp L:Zam}(q:SetI wd hp a ns)(m:∀o,hp.get? a=J o->L.get? a=J o):SetI wd L a ns:=by obtain⟨o,B,k,t,u,j⟩:=q;exact#[o,B,k,t,m o u,j]
theorem AllI.perm{l j:Wp}(h:AllI l)(p:j.Perm l):AllI j:=λe k=>h e<|p.mem_iff.mp k
theorem AllI.elems(h:AllI l):ElemsOf (Zcw pr wd) l:=λe j=>by obtain⟨n,t,rfl⟩:=h e j;exact#[#[n,ZeU _ _ _ _,rfl],rfl]
section
variable{pr:Z7}{wd:ZU}{A:ZI}{E:QvT}{s:Zl}{a:Zm}
theorem Jth{h:Zam}(j:h.get? a=J o)(hd:o.data=.set es ep t):(h.update a<|Obj.putSet es' t').get? a=J {o with data:=.set es' (ep+1) t'}:=by
 have:=Zae (Obj.putSet es' t') j<|by rw[putSet_of es' t' hd];rfl
 rwa [putSet_of es' t' hd]at this
theorem Jor{b:Bool}{s1:Zl}{Q:Unit->Zl->Prop}(h:Q () s1):Zv (Zy pr wd) A (match b with|true=>rule "set.scan.the-table-gave-way"|false=>pure ()) Q E s1:=by cases b<;>first|exact Zk h|exact Zc8 h
theorem Jwk{n:Int}{tk:Tok}{Q:Bool->Zl->Prop}(hS:SetI wd s.heap a ns)(room:ns.length+1<Zbr)
  (h:∀b h' u,Zbo a s.heap h'->SetI wd h' a u->u.Perm (if n∈ns then ns else ns++[n])->Q b {s with heap:=h'}):Zv (Zy pr wd) A (setAddHashed a (.int n tk)<|ZeF n) Q E s:=by
 obtain⟨o,F,ep,t,Z,I,hd,S,en,hb,hf,tb⟩:=hS;have U:ElemsOf (Zcw pr wd) F.toList:=S.elems;have X:(Zcw pr wd).is n (.int n tk)=Zg:=ZeU _ _ _ _;have lz:F.size=ns.length:=by rw[<-en,Zj,Zal]
 unfold setAddHashed setAddHashedIn;refine ZO<|Zb<|ZbG Z hd hf ?_;dsimp only;rw[byScan_of rfl hb U];simp only[↓reduceIte];unfold setAddByScan;refine Zb ?_;refine Zb<|Zc8 ?_;refine Zb<|wpAny_setScan_of X Z hd hf U ?_;cases hr:List.findIdx? (λe=>(Zcw pr wd).is n e.2) F.toList with
 |some j=>
  dsimp only;obtain⟨hj,hpj,_⟩:=ZcE.mp hr;have mem:n∈ns:=by rw[<-en];refine Z6.mpr #[F.toList[j],Z5 hj,?_];obtain⟨m,t',e⟩:=S _<|Z5 hj;rw[e]at hpj ⊢;exact(Zcw pr wd).inj _ _ _ (ZeU _ _ _ _) hpj
  refine Zk<|Zk ?_;have e:s={s with heap:=s.heap}:=by cases s;rfl
  rw[e];exact h _ s.heap ns (Heap.SameBut.refl a s.heap) #[o,F,ep,t,Z,I,hd,S,en,hb,hf,tb]<|by rw[if_pos mem]
 |none=>
  dsimp only;have W:n∉ns:=λm=>by rw[<-en]at m;obtain⟨e,H,q⟩:=Z6.mp m;obtain⟨m',t',rfl⟩:=S e H;have q:m'=n:=q;subst q;have:=Zb5.mp hr _ H;rw[show(Zcw pr wd).is m' (.int m' t')=Zg from ZeU _ _ _ _]at this;cases this
  have B:=layNew_perm t F (ZeF n)<|.int n tk;have C:=layNew_fits t F (ZeF n)<|.int n tk;have G:=tb.layNew F (ZeF n)<|.int n tk;generalize layNew t F (ZeF n) (.int n tk)=hJ at B C G ⊢;obtain⟨k,t1,D,gave⟩:=hJ;dsimp only at B C G ⊢;rw[Zd9]at B;have ai1:AllI k.toList:=AllI.perm (λe H=>by
   rcases ZZ.mp H with H|H
   .exact S e H
   .rw[Z2.mp H];exact#[n,tk,rfl]) B
  have en1:(ents k).Perm (ns++[n]):=by
   have:=B.map λe=>numOf e.2
   rw[ZbU]at this;rwa [show F.toList.map (λe=>numOf e.2)=ns from en]at this
  have sz1:k.size=F.size+1:=by rw[<-Zal,B.length_eq,Z0,Zal];rfl
  have Y:k.size<Zbr:=05;have fin:∀h' u,Zbo a s.heap h'->SetI wd h' a u->u.Perm (ents k)->Q Zg {s with heap:=h'}:=λh' u V q p=>h Zg h' u V q<|by rw[if_neg W];exact p.trans en1
  refine Zb<|Jor ?_;have tail:∀{R:Ww->Zl->Prop},(∀h' u,Zbo a s.heap h'->SetI wd h' a u->u.Perm (ents k)->R (J Zg) {s with heap:=h'})->Zv (Zy pr wd) A (do
    storeSet a k t1
    if (!D&&t1.tooFull)=Zg then do
      (match (Zfe t1 k<|ZbM k.size).2.2 with|true=>rule "set.scan.the-table-gave-way"|false=>pure ())
      storeSet a (Zfe t1 k<|ZbM k.size).1 (Zfe t1 k<|ZbM k.size).2.1
      pure (J Zg)
     else pure (J Zg)) R E s:=λ{R} hR=>by
   refine Zb<|wpAny_storeSet_of Z hd ?_<|ZdB Y;have O:=Jth (es':=k) (t':=t1) Z hd;have sb1:=ZaN s.heap a<|Obj.putSet k t1;split
   .have hp:=relayAll_perm t1 k<|ZbM k.size;have L:=relayAll_fits t1 k<|ZbM k.size;have M:=G.relayAll k<|ZbM k.size;generalize Zfe t1 k (ZbM k.size)=Rl at hp L M ⊢;obtain⟨P,t3,gave2⟩:=Rl;dsimp only at hp L M ⊢;have sz2:P.size=k.size:=by rw[<-Zal,hp.length_eq,Zal]
    refine Zb<|Jor ?_;refine Zb<|wpAny_storeSet_of O rfl ?_ (ZdB 05);exact Zk<|hR _ _ (sb1.trans<|ZaN _ a _) #[_,P,ep+1+1,t3,Jth O rfl,I,rfl,ai1.perm hp,rfl,05,L,M]<|hp.map _
   .exact Zk<|hR _ _ sb1 #[_,k,ep+1,t1,O,I,rfl,ai1,rfl,Y,C,G]<|Zck _
  split
  .refine Zb ?_;rw[hashByValue_scannable 8 (x:=.int n tk) rfl];refine Zk ?_;exact tail λh' u V q p=>by dsimp only;exact Zk<|fin h' u V q p
  .refine Zb<|Zk ?_;simp only[↓reduceIte];exact tail λh' u V q p=>by dsimp only;exact Zk<|fin h' u V q p
end
def ddN(f:Nat->Int):Nat->Tq|0=>[]|i+1=>if f i∈ddN f i then ddN f i else ddN f i++[f i]
theorem Jrj(f:Nat->Int):∀i,(ddN f i).length<=i
 |0=>Zq _
 |i+1=>by
  have:=Jrj f i;unfold ddN;split
  .lia
  .simp_all
theorem Jux{j:Tq}(p:j.Perm<|ddN f i):(if f i∈j then j else j++[f i]).Perm (ddN f<|i+1):=by
 unfold ddN;by_cases c:f i∈j
 .rw[if_pos c,if_pos<|p.mem_iff.mp c];exact p
 .rw[if_neg c,if_neg λz=>c<|p.mem_iff.mpr z];exact p.append_right _
abbrev QO(zs:Tq):Nat->Int:=λi=>zs.getD i 0
def SetD(wd:ZU)(h:Zam)(a:Zm)(f:Nat->Int)(i:Nat):Prop:=∃ms,SetI wd h a ms/\ms.Perm (ddN f i)
theorem SetD.moved{hp L:Zam}(q:SetD wd hp a f i)(m:∀o,hp.get? a=J o->L.get? a=J o):SetD wd L a f i:=by obtain⟨j,h,p⟩:=q;exact#[j,h.moved m,p]
section
variable{pr:Z7}{wd:ZU}{cS:ZI}{R:Zec->Zl->Prop}{it:Zm}{fps wrs:Tw}{G:Td->Td->Prop}{n:Nat}{P:Nat->Zh->Prop}{St:Nat->Zl->Prop}
theorem Jtu(W:WalksS pr wd cS.in1 it fps wrs G n P St)(C:Zm)(L:C∉fps)(f:Nat->Int)(S:∀i v,P i v->∃t,v=.int (f i) t)(room:n+1<Zbr):∀(r i:Nat)(z:Zl),n-i=r->i<=n->St i z->SetD wd z.heap C f i->(∀j,Moved (C::wrs) G z j->SetD wd j.heap C f n->R (.ok<|.ret .none) j) ->ZbI (Zy pr wd) cS (.builtin "set.update.loop" #[[.ref C,.ref it],[]]) R z:=by
 have M:C∉wrs:=λq=>L<|W.sub _ q
 have more:∀b∈wrs,b∈C::wrs:=λb q=>Zr _ q
 intro r;induction r with
 |zero=>
  intro i z X U st E fin;obtain rfl:i=n:=05;refine Zai ZaM ?_;refine Zb<|W.done z _ _ st λj k=>?_
  exact Zk<|fin j (k.mono more)<|E.moved λo e=>k.heap C _ M e
 |succ r Y=>
  intro i z X U st E fin;have lt:i<n:=05;refine Zai ZaM ?_;refine Zb<|W.item i z _ _ lt st λv j hP B k=>?_
  obtain⟨t,rfl⟩:=S i v hP;have m:=E.moved λo e=>k.heap C _ M e
  refine Zb<|ZO ?_;unfold setAdd;refine ZO ?_;refine Zb<|wpAny_pyHash_int ?_;obtain⟨Z,hm,Q⟩:=m;have lm:Z.length<=i:=by rw[Q.length_eq];exact Jrj f i
  refine Jwk hm 05 λ_ h3 u O D H=>?_
  have F:SetD wd h3 C f (i+1):=#[u,D,H.trans<|Jux Q];refine Zk #[Za7 Zcp _,Y (i+1) _ 05 lt (W.frame _ j _ _ B (Zay _) λb q o e=>?_) F λz5 V I=>?_]
  .rw[O.2 b λe2:b=C=>L<|by rw[<-e2];exact q];exact e
  .refine fin z5 (Moved.trans W.gtrans ((k.mono more).then_heap (Zay _) λb o q e=>?_) V) I;rw[O.2 b λe2:b=C=>q<|by simp_all];exact e
end
section
variable{pr:Z7}{wd:ZU}{A cS:ZI}{E:QvT}{s z:Zl}{l:Zm}{us:Tv}{zs:Tq}{Q:QvT}
theorem Jwn(a:Zh)(h:Q₁ (.ref s.heap.objs.size) {s with heap:=s.heap.push (JR (!byT wd))}):ZbI (Zy pr wd) A (.call (.builtin "set.__new__") #[[.type "set",a],[]]) (wants Q₁ E) s:=by
 refine Zdc ?_;refine Zb<|ZeA (PySem.F.newCall_set_1 a)<|Zk #[Za7 PySem.F.plain_set_new _,Zai PySem.F.entry_set_new ?_];unfold Zbp.«set.__new__» Builtin.Frozenset.newClass;have j:=PySem.sub_set_self;obtain⟨hp,g,d,k,os⟩:=s;dsimp only
 wp_walk
 refine ZbN<|Zk ?_;dsimp only;refine Zb<|wpAny_alloc<|Zk ?_;exact Zk h
set_option maxRecDepth 100000 in
theorem Jtt(hh:cS.handled=Zc)(hl:z.heap.IsList l us.toArray)(hi:ZaZ us zs)(room:zs.length+1<Zbr)
  (fin:∀(L:Zam)(tk:Nat),SetD wd L z.heap.objs.size (QO zs) zs.length->(∀b o,z.heap.get? b=J o->L.get? b=J o)->Q (.ref z.heap.objs.size) {z with heap:=L,toks:=tk}):
  Zv (Zy pr wd) cS (call (.type "set") [.ref l]) Q E z:=by
 have len:us.toArray.size=zs.length:=by rw[ZV,hi.length]
 have G:∀(i:Nat)(v:Zh),us.toArray[i]?=J v->∃t,v=.int (QO zs i) t:=λi v q=>by
  have q:us[i]?=J v:=by simpa using q
  have hz:i<zs.length:=by have:=(Zo.mp q).1;have:=hi.length;lia
  obtain⟨t,e⟩:=hi.get i _<|Zd hz;rw[q]at e;cases e;exact#[t,by simp[QO,hz]]
 obtain⟨c,tl,hmro⟩:=PySem.F.called_set.mro;have S:=PySem.F.called_set.made;have hsub:=PySem.F.called_set.sub;refine Zc5<|Zdc ?_;show Zv _ _ (callAny (.type "set") _) _ _ _;refine Zk #[ZbR _ (by decide +kernel),Zai ZdR ?_];rw[Around.under_plain (Ze0 "set" [.ref l] []) rfl];have no1:=PySem.F.called_set.notType;have no2:=PySem.F.called_set.canCreate;have ok1:=Zem<|.ref l;repeat (any_goals (first|assumption|wp_step))
 refine ZbA (Jwn (.ref l) (E:=E) (Q₁:=λobj z1=>obj=.ref z.heap.objs.size/\z1={z with heap:=z.heap.push (JR (!byT wd))}) #[rfl,rfl]) λm z1 V=>?_
 cases m with|error e=>exact V|ok fl=>
  cases fl with
  |ret obj=>
   obtain⟨rfl,rfl⟩:=V;have Z:(z.heap.push<|JR (!byT wd)).get? z.heap.objs.size=J (JR (!byT wd)):=Zs _ rfl;have tS:ZdH {z with heap:=z.heap.push (JR (!byT wd))} (.ref z.heap.objs.size) "set":=#[_,Z,rfl];have in1:=PySem.F.called_set.init.lookup;have in2:=PySem.F.called_set.init.bind<|.ref z.heap.objs.size;repeat (any_goals (first|assumption|wp_step))
   refine ZbA (ZaX (R:=wants (λm z2=>m=.none/\∃L tk,z2={z with heap:=L,toks:=tk}/\SetD wd L z.heap.objs.size (QO zs) zs.length/\(∀b o,z.heap.get? b=J o->L.get? b=J o)) E)
    PySem.F.called_set.init.plain Zen (check_set_init_1 tS ?_)) λH z2 k=>?_
   .obtain⟨ol,F,C,nl,B⟩:=hl;obtain⟨ocls,u,X,j⟩:=ol;simp only at C B;subst C;subst B;have gl:(z.heap.push<|JR (!byT wd)).get? l=J {cls:=.type "list",dict:=u,data:=.seq us.toArray nl,slots:=j}:=Ze _ F;have sb1:=PySem.F.sub_list_set;have sb2:=Zdz;have dne:(Zc2 "list"==Zc2 "dict")=Zi:=01;have D:(z.heap.push<|JR (!byT wd)).IsList l us.toArray:=#[_,gl,rfl,nl,rfl];unfold Zbp.«set.__init__» noKeywords Zdd;generalize Y:Zdv=PI
    wp_walk
    subst Y;refine ZaO D ?_;refine Zb<|Zd0 ?_;have lS:l<z.heap.objs.size:=Zu F;have h3:cS.in1.in1.in1.handled=Zc:=by simp[hh]
    have W:l≠(z.heap.push<|JR (!byT wd)).objs.size:=by rw[Zby];exact Z1<|Zbb lS
    have nC:z.heap.objs.size∉[(z.heap.push<|JR (!byT wd)).objs.size,l]:=by rw[Zby];simp only[ZA,Zad,or_false,not_or];exact#[Z1<|Zau _,ZaT lS]
    refine Jtu ((Zc6 h3 _ l W us.toArray).toS) z.heap.objs.size nC (QO zs) G (by rw[len];exact room) (us.toArray.size-0) 0 _ 05 (ZN _) #[#[_,Zs _ rfl,rfl,rfl],(D.push _)] ?start ?stop;case start=>have g0:((z.heap.push<|JR (!byT wd)).push<|liOb l).get? z.heap.objs.size=J (JR (!byT wd)):=Ze _ Z;exact#[[],#[_,#[],0,_,g0,#[rfl,rfl,rfl],rfl,(λe he=>by simp at he),rfl,01,rfl,#[.nil,rfl,rfl]],Zck _]
    case stop=>
     intro z5 M I;obtain⟨h5,g5,d5,U,O⟩:=z5;have eg:g5=z.gens:=M.gens;have ed:d5=z.drawn:=M.drawn;have eo:O=z.os:=M.os;subst eg;subst ed;subst eo;show Zv _ _ _ _ _ _;refine Zk ?_;show Zv _ _ (ret Zaj) _ _ _;rw[len]at I;refine Zk #[rfl,h5,U,rfl,I,λb o e=>?_];have lb:=Zu e;have b1:b≠z.heap.objs.size:=Z1 lb;have b2:b≠(z.heap.push<|JR (!byT wd)).objs.size:=by rw[Zby];exact Z1<|Zbb lb
     exact M.heap b o (by simp only[ZA,Zad,or_false,not_or];exact#[b1,b2])<|Ze _<|Ze _ e
   .cases H with|error e=>exact k|ok fl2=>
     cases fl2 with
     |ret rv=>
      obtain⟨rfl,L,tk,rfl,P,keep⟩:=k;repeat (any_goals (first|assumption|wp_step))
      exact fin _ _ P keep
     |_=>exact k.elim
  |_=>exact V.elim
end
theorem QY:Slot "set_iterator" "__next__" "set_iterator.__next__" :=.of (owner:="set_iterator") (n:="__next__") (by rw[Zex,ZcN];kernel_rfl) (by decide +kernel) (by decide +kernel) (by decide +kernel) (by first|exact .inl (by decide +kernel)|exact .inr (by decide +kernel)) (by rw[isSubtype_type];kernel_rfl)
theorem Jo7:Slot "set_iterator" "__iter__" "set_iterator.__iter__" :=.of (owner:="set_iterator") (n:="__iter__") (by rw[Zex,ZcN];kernel_rfl) (by decide +kernel) (by decide +kernel) (by decide +kernel) (by first|exact .inl (by decide +kernel)|exact .inr (by decide +kernel)) (by rw[isSubtype_type];kernel_rfl)
theorem Jgg:entryFor table "set_iterator.__next__"=J Zbp.«set_iterator.__next__» :=entryFor_of_fast 02
theorem Ji9(a:Zh):Zel "set_iterator.__next__" #[[a],[]]:=by unfold Zel;kernel_rfl
theorem Jrw:entryFor table "set.__iter__"=J Zbp.«frozenset.__iter__» :=entryFor_alias (id':="frozenset.__iter__") 02 rfl (by decide +kernel) 02
def IsSI(h:Zam)(it:Zm)(F:Zh)(i:Nat)(a:Zm)(n ep:Nat):Prop:=∃o,h.get? it=J o/\o.cls=.type "set_iterator"/\o.data=.fields (ZaE [F,.int i 0,.ref a,.int n 0,.int ep 0])
theorem IsSI.ty{s:Zl}(x:IsSI s.heap it F i a n ep):s.TypeIs (.ref it) "set_iterator":=let ⟨o,k,j,_⟩:=x;#[o,k,j]
section
variable{pr:Z7}{wd:ZU}{A:ZI}{E:QvT}{s:Zl}{a it:Zm}{o:Obj}{es:Wj}{ep i n sl:Nat}{t:SetTable}
theorem Jmw(m:byT wd=Zg)(j:s.heap.get? a=J o)(hd:o.data=.set es ep t)(k:t.fits es.size=Zg){Q:Wg->Zl->Prop} (h:Q (((ZeK (wd.params.setOrder a ep) es)[i]?).map λe=>(e.2,sl)) s):Zv (Zy pr wd) A (Zes a sl i ep) Q E s:=by unfold Zes;refine Zb<|ZbG j hd k ?_;refine Zb<|Zb<|ZbN<|Zk ?_;show Zv _ _ (if byT wd=Zg then _ else _) _ _ s;rw[if_pos m];dsimp only;rw[if_neg 03];refine Zb<|Zb<|ZbG j hd k ?_;refine Zb<|Zb<|ZbN<|Zk ?_;show Zv _ _ (if byT wd=Zg then _ else _) _ _ s;rw[if_pos m];exact Zb<|ZbN<|Zk<|Zk h
theorem Jpl(B:byT wd=Zi)(m:s.heap.get? a=J o)(hd:o.data=.set es ep t)(u:t.fits es.size=Zg)(hp:(!t.plain&&decide (es.size>1))=Zi)(k:t.led=Zg){Q:Wg->Zl->Prop} (h:Q (match es[Zaz t.place sl]?,t.place[Zaz t.place sl]? with|some (_,x),J j=>J (x,j+1)|_,_=>Zc) s):Zv (Zy pr wd) A (Zes a sl i ep) Q E s:=by unfold Zes;refine Zb<|ZbG m hd u ?_;refine Zb<|Zb<|ZbN<|Zk ?_;show Zv _ _ (if byT wd=Zg then _ else _) _ _ s;rw[if_neg<|by simp_all];show Zv _ _ (if (!t.plain&&decide (es.size>1))=Zg then _ else _) _ _ s;rw[if_neg<|by simp_all];refine Zb<|show Zv _ _ (if (!t.led&&!es.isEmpty)=Zg then _ else _) _ _ s from ?_;rw[k];simp;exact Zk<|Zk h
theorem Jqs(j:s.heap.get? a=J o)(hd:o.data=.set es ep t)(k:t.fits es.size=Zg)(hx:es[p]?=J x)(h:Q x.2 s):Zv (Zy pr wd) A (setNextDrawn a p ep) Q E s:=by refine Zb<|ZbG j hd k ?_;dsimp only;rw[if_neg 03,hx];exact Zk h
theorem J03{x:Zh}{nx:Nat}{Q:Tc->Zl->Prop}(hit:IsSI s.heap it (.int sl 0) i a n ep)(H:s.heap.get? a=J o)(hd:o.data=.set es ep t)(C:t.fits es.size=Zg)(hn:es.size=n) (D:∀(m:Wg->Zl->Prop)(I:QvT),m (J (x,nx)) s->Zv (Zy pr wd) A.in1 (Zes a sl i ep) m I s) (F:∀h',IsSI h' it (.int nx 0) (i+1) a n ep->Zbo it s.heap h'->Q (J x) {s with heap:=h'}):Zv (Zy pr wd) A (Zdu<|.ref it) Q E s:=by
 obtain⟨B,k,G,j⟩:=id hit;unfold Zdu;refine Zb<|Zct<|ZbO hit.ty QY<|Zbw QY hit.ty Jgg ?_<|Ji9 _;refine Zb<|Zk ?_;refine Zb<|Zd4 k j ?_;refine Zb<|ZbJ H hd C ?_;rw[if_neg<|by rw[hn];simp];refine Zb<|D _ _ ?_;refine Zb<|ZaF k j 03 ?_;have u:(s.heap.update it (Zao (·.setIfInBounds 0 (Za9 (nx:Int))))).get? it=J (B.mapFields (·.setIfInBounds 0 (Za9 (nx:Int)))):=Zae _ k<|ZaB<|ZS j _;have d1:(B.mapFields (·.setIfInBounds 0 (Za9 (nx:Int)))).data=.fields (ZaE [.int nx 0,.int i 0,.ref a,.int n 0,.int ep 0]):=by rw[ZS j];simp[Za9]
 refine Zb<|ZaF u d1 03 ?_;refine Zk #[_,rfl,Zk<|F _ #[_,Zae _ u<|ZaB<|ZS d1 _,(Zcc ..).trans<|(Zcc ..).trans G,?_]<|(ZaN ..).trans<|ZaN ..];rw[ZS d1];simp[Za9]
theorem Jpe{α:Type}{k:α->Zl->Prop}(m:A.handled=Zc)(e1:ZcC it s.heap h1)(j:∀h' e,ZcC it s.heap h'->(∃o,h'.get? e=J o/\o.cls=.type "StopIteration")->E' (.ref e) {s with heap:=h'}):Zv (Zy pr wd) A.in1 (newExc (.type "StopIteration") []>>=λe=>(raiseNew e:Sem α)) k E' {s with heap:=h1}:=by
 refine Zb ?_;refine Zb (ZbB ?_<|by size_fits);refine Zb (ZeA (by first|rfl|(simp;rfl)) ?_);refine ZbB ?_<|by size_fits
 refine Zb<|wpAny_handled ?_;rw[show A.in1.handled=Zc from m];exact Zb<|Zk<|wpAny_throw<|j _ _ ((e1.push _).push _) #[_,Zs _ rfl,rfl]
theorem J46{Q:Tc->Zl->Prop}(C:A.handled=Zc)(hit:IsSI s.heap it (.int sl 0) i a n ep)(H:s.heap.get? a=J o)(hd:o.data=.set es ep t)(u:t.fits es.size=Zg)(hn:es.size=n) (B:∀(m:Wg->Zl->Prop)(L:QvT),m Zc s->Zv (Zy pr wd) A.in1 (Zes a sl i ep) m L s) (G:∀h',ZcC it s.heap h'->Q Zc {s with heap:=h'}):Zv (Zy pr wd) A (Zdu<|.ref it) Q E s:=by
 obtain⟨O,k,M,j⟩:=id hit;refine Zb<|Zct<|ZbO hit.ty QY<|Zbw QY hit.ty Jgg ?_<|Ji9 _;refine Zb<|Zk ?_;refine Zb<|Zd4 k j ?_;refine Zb<|ZbJ H hd u ?_;rw[if_neg<|by rw[hn];simp];refine Zb<|B _ _ ?_;refine Zb<|ZaF k j 03 ?_;refine Jpe C (ZaN ..).extBut λh' e x ⟨I,F,D⟩=>?_
 exact Zb<|ZdU #[I,F,D] isSubtype_stop<|Zk<|G _ x
theorem J00{ot:Obj}{its:Tk}{nt p:Nat}{x:Int×Zh}{tk:Tok}{Q:Tc->Zl->Prop}(hit:IsSI s.heap it (.ref T) i a n ep)(m:s.heap.get? a=J o)(hd:o.data=.set es ep t)(u:t.fits es.size=Zg)(hn:es.size=n) (D:s.heap.get? T=J ot)(C:ot.data=.seq its nt)(hp:its[i]?=J (.int p tk))(hx:es[p]?=J x) (F:∀h',IsSI h' it (.ref T) (i+1) a n ep->Zbo it s.heap h'->Q (J x.2) {s with heap:=h'}):Zv (Zy pr wd) A (Zdu<|.ref it) Q E s:=by obtain⟨G,k,B,j⟩:=id hit;refine Zb<|Zct<|ZbO hit.ty QY<|Zbw QY hit.ty Jgg ?_<|Ji9 _;refine Zb<|Zk ?_;refine Zb<|Zd4 k j ?_;refine Zb<|ZbJ m hd u ?_;rw[if_neg<|by rw[hn];simp];refine Zb<|Zb1 D C ?_;simp only[ZaP,hp];refine Zb<|Jqs m hd u hx ?_;refine Zb<|ZaF k j 03 ?_;refine Zk #[_,rfl,Zk<|F _ #[_,Zae _ k<|ZaB<|ZS j _,(Zcc ..).trans B,?_]<|ZaN ..];rw[ZS j];simp[Za9]
theorem J44{ot:Obj}{its:Tk}{nt:Nat}{Q:Tc->Zl->Prop}(C:A.handled=Zc)(hit:IsSI s.heap it (.ref T) i a n ep)(I:s.heap.get? a=J o)(hd:o.data=.set es ep t)(u:t.fits es.size=Zg)(hn:es.size=n) (B:s.heap.get? T=J ot)(L:ot.data=.seq its nt)(hp:its[i]?=Zc)(G:∀h',ZcC it s.heap h'->Q Zc {s with heap:=h'}):Zv (Zy pr wd) A (Zdu<|.ref it) Q E s:=by
 obtain⟨m,k,P,j⟩:=id hit;unfold Zdu;refine Zb<|Zct<|ZbO hit.ty QY<|Zbw QY hit.ty Jgg ?_<|Ji9 _;refine Zb<|Zk ?_;refine Zb<|Zd4 k j ?_;refine Zb<|ZbJ I hd u ?_;rw[if_neg<|by rw[hn];simp];refine Zb<|Zb1 B L ?_;simp only[ZaP,hp];refine Zb<|ZaF k j 03 ?_;have H:(s.heap.update it (Zao (·.setIfInBounds 0 (Za9 0)))).get? it=J (m.mapFields (·.setIfInBounds 0 (Za9 0))):=Zae _ k<|ZaB<|ZS j _;have d1:(m.mapFields (·.setIfInBounds 0 (Za9 0))).data=.fields (ZaE [.int 0 0,.int i 0,.ref a,.int n 0,.int ep 0]):=by rw[ZS j];simp[Za9]
 refine Zb<|ZaF H d1 03 ?_;have O:=((ZaN s.heap it (Zao (·.setIfInBounds 0 (Za9 0)))).trans (ZaN (s.heap.update it (Zao (·.setIfInBounds 0 (Za9 0)))) it (Zao (·.setIfInBounds 2 .none)))).extBut;refine Jpe (s:=s) C O λh' e x ⟨M,F,D⟩=>?_
 exact Zb<|ZdU #[M,F,D] isSubtype_stop<|Zk<|G _ x
end
theorem Jrv:entryFor table "set_iterator.__iter__"=J Zbp.«dict_keyiterator.__iter__» :=entryFor_alias (id':="dict_keyiterator.__iter__") 02 rfl (by decide +kernel) 02
theorem Juq(a:Zh):Zel "set_iterator.__iter__" #[[a],[]]:=by unfold Zel;kernel_rfl
section
variable{pr:Z7}{wd:ZU}{A:ZI}{E:QvT}{s:Zl}{a it T:Zm}{o ot:Obj}{es:Wj}{ep n nt:Nat}{t:SetTable}{ord:Tv}
theorem IsSI.self(hit:IsSI s.heap it F i a n ep)(h:Q (.ref it) s):Zv (Zy pr wd) A (Zdv<|.ref it) Q E s:=by refine wpAny_pyIter_slot hit.ty Jo7<|Zbw Jo7 hit.ty Jrv ?_<|Juq _;exact Zk #[_,rfl,"set_iterator",_,hit.ty,QY.lookup,h]
theorem IsSI.at{h h':Zam}(x:IsSI h it F i a n ep)(e:∀o,h.get? it=J o->h'.get? it=J o):IsSI h' it F i a n ep:=let ⟨o,j,r⟩:=x;#[o,e _ j,r]
theorem Jt7(M:A.handled=Zc)(ne:a≠it)(hd:o.data=.set es ep t)(G:t.fits es.size=Zg)(hn:es.size=n)(sl:Nat->Nat)(lo:ord.length=n) (L:∀(i:Nat)(s:Zl)(x:Zh),s.heap.get? a=J o->ord[i]?=J x->∀(u:Wg->Zl->Prop)(F:QvT),u (J (x,sl<|i+1)) s->Zv (Zy pr wd) A.in1 (Zes a (sl i) i ep) u F s) (I:∀(s:Zl),s.heap.get? a=J o->∀(u:Wg->Zl->Prop)(F:QvT),u Zc s->Zv (Zy pr wd) A.in1 (Zes a (sl n) n ep) u F s):Walks pr wd A it [it,a] [it] n (λi v=>ord[i]?=J v) (λi h=>IsSI h it (.int (sl i) 0) i a n ep/\h.get? a=J o) where
 sub:=λb j=>by simp at j;simp[j]
 frame:=λ_ _ _ st H=>#[st.1.at λo e=>H it 03 o e,H a 03 _ st.2]
 item:=λi s Q E O st m=>by
  have hx:ord[i]?=J (ord[i]' 05):=Zd _;refine J03 st.1 st.2 hd G hn (L i s _ st.2 hx) λD B k=>?_
  exact m _ D s.toks hx #[B,(k.2 a ne).trans st.2] λb o j e=>(k.2 b λh=>j<|by simp[h]).trans e
 done:=λs Q E st m=>J46 M st.1 st.2 hd G hn (I s st.2) λD C=>m D s.toks λb o j e=>C b o (λh=>j<|by simp[h]) e
 self:=λ_ _ _ _ st m=>st.1.self m
theorem J1l(L:A.handled=Zc)(ne:a≠it)(O:T≠it)(hd:o.data=.set es ep t)(G:t.fits es.size=Zg)(hn:es.size=n)(ps:Tr)(M:ps.length=n)(I:ot.data=.seq (ZaE<|ps.map λ(i:Nat)=>Za9 i) nt)(hp:∀p∈ps,p<es.size):Walks pr wd A it [it,a,T] [it] n (λi v=>(ps.map λp=>(es.getD p (0,.none)).2)[i]?=J v) (λi h=>IsSI h it (.ref T) i a n ep/\h.get? a=J o/\h.get? T=J ot) where
 sub:=λb m=>by simp at m;simp[m]
 frame:=λ_ _ _ st F=>#[st.1.at λo e=>F it 03 o e,F a 03 _ st.2.1,F T 03 _ st.2.2]
 item:=λi s Q E P st u=>by
  have k:i<ps.length:=05;have H:=hp _<|Z5 k;refine J00 (tk:=0) st.1 st.2.1 hd G hn st.2.2 I (by simp[k,Za9]) (Zb4 H) λD B j=>?_
  refine u _ D s.toks ?_ #[B,(j.2 a ne).trans st.2.1,(j.2 T O).trans st.2.2] λb o m e=>(j.2 b λh=>m<|by simp[h]).trans e
  simp[k,Zd1,H]
 done:=λs Q E st u=>J44 L st.1 st.2.1 hd G hn st.2.2 I (by simp[M]) λD C=>u D s.toks λb o m e=>C b o (λh=>m<|by simp[h]) e
 self:=λ_ _ _ _ st u=>st.1.self u
theorem Juc(hm:m≠0)(h:∀i d',i<m->Q i {s with drawn:=d'}):Zv (Zy pr wd) A (choose src m) Q E s:=λΓ p _=>by show Sem.wp _ Γ (.choose src m .pure) _ _ p s;refine#[hm,?_];exact h _ _<|Nat.mod_lt _<|Nat.pos_of_ne_zero hm
theorem Jrp:∀(n:Nat)(xs:List α)(s:Zl)(Q:List α->Zl->Prop),xs.length=n->(∀ys d',ys.Perm xs->Q ys {s with drawn:=d'})->Zv (Zy pr wd) A (drawOrder n xs) Q E s
 |0,xs,s,Q,h,hQ=>by obtain rfl:xs=[]:=Zat h;exact Zk<|hQ [] s.drawn<|Zck _
 |n+1,[],s,Q,h,hQ=>by cases h
 |n+1,x::xs,s,Q,h,hQ=>by
  unfold drawOrder;refine Zb<|Juc 03 λi d' j=>?_
  have e:=Zd j;have k:((x::xs).eraseIdx i).length=n:=by rw[Zd3 j,h];rfl
  have m:=Jfh e;rw[e];dsimp only;refine Zb<|Jrp n _ _ _ k λys d2 p=>?_
  exact Zk<|hQ _ d2<|(p.cons _).trans m
structure WalkOf(pr:Z7)(wd:ZU)(a lo it:Zm)(h:Zam)(ns:Tq)(fp:Tw)(ord:Tv)(St:Nat->Zam->Prop):Prop where
 w:∀A:ZI,A.handled=Zc->Walks pr wd A it fp [it] ns.length (λi v=>ord[i]?=J v) St
 st:St 0 h
 fp:∀b∈fp,b=a\/lo<=b
 zs:∃ms,ZaZ ord ms/\ms.Perm ns
theorem J1k{l:Wp}(h:AllI l):ZaZ (l.map (·.2)) (l.map λe=>numOf e.2):=by
 have:=intsAre_map (l.map (·.2)) λv hv=>by obtain⟨e,j,rfl⟩:=Z6.mp hv;obtain⟨n,t,rfl⟩:=h e j;exact#[n,t,rfl]
 rwa [Zah]at this
theorem Jhm{l j:Wp}{ns:Tq}(h:AllI l)(en:l.map (λe=>numOf e.2)=ns)(p:j.Perm l):∃k,ZaZ (j.map (·.2)) k/\k.Perm ns:=#[_,J1k<|h.perm p,en▸p.map _]
theorem Jvs(hS:SetI wd s.heap a ns)(X:∀it h' d' fp ord St,WalkOf pr wd a s.heap.objs.size it h' ns fp ord St->(∀b o,s.heap.get? b=J o->h'.get? b=J o)->s.heap.objs.size<=it->Q (.ref it) {s with heap:=h',drawn:=d'}):
  Zv (Zy pr wd) A (Zdv<|.ref a) Q E s:=by
 obtain⟨o,j,ep,t,u,P,hd,R,en,C,k,G⟩:=hS;have W:s.TypeIs (.ref a) "set":=#[o,u,P.1];have B:j.size=ns.length:=by rw[<-en,Zj,Zal]
 have lt:=Zu u;refine wpAny_pyIter_slot W Ze2<|Zbw Ze2 W Jrw ?_<|PySem.F.args_set_iter_1 _;unfold Zbp.«frozenset.__iter__»;refine Zb<|Zk ?_;refine Zb<|Zb<|ZbJ u hd k<|Zk ?_;refine Zb ?_;unfold setDrawn setsByText;refine Zb<|ZbG u hd k ?_;refine Zb<|Zb<|ZbN<|Zk ?_;refine Zk ?_;show Zv _ _ (if (!byT wd&&(!t.plain&&decide (j.size>1)))=Zg then _ else _) _ _ s;cases c:(!byT wd&&(!t.plain&&decide (j.size>1)))with
 |true=>
  rw[if_pos rfl];refine Zb<|Jrp j.size (ZR j.size) s _ 03 λps d' D=>?_
  have Y:ps.length=j.size:=by rw[D.length_eq,Zbc]
  have hp:∀p∈ps,p<j.size:=λp h=>Zaw.mp<|D.mem_iff.mp h
  refine Zb (wpAny_newTuple ?_<|by rw[Zj,Y];exact ZdB C);show Zv _ _ (setEpoch a>>=_) _ _ _;refine Zb<|wpAny_setEpoch_of (Ze _ u) hd k ?_;refine Zb<|ZbB<|Zk #[_,rfl,"set_iterator",_,#[_,Zs _ rfl,rfl],QY.lookup,?_];have sz:(s.heap.push<|ZY "tuple" (ZaE<|ps.map λ(i:Nat)=>Za9 i) 0).objs.size=s.heap.objs.size+1:=Zc7 ..;refine X _ _ d' [(s.heap.push<|ZY "tuple" (ZaE<|ps.map λ(i:Nat)=>Za9 i) 0).objs.size,a,s.heap.objs.size] (ps.map λp=>(j.getD p (0,.none)).2) (λi h=>IsSI h (s.heap.push<|ZY "tuple" (ZaE<|ps.map λ(i:Nat)=>Za9 i) 0).objs.size (.ref s.heap.objs.size) i a ns.length ep/\h.get? a=J o/\h.get? s.heap.objs.size=J (ZY "tuple" (ZaE<|ps.map λ(i:Nat)=>Za9 i) 0)) #[λA F=>?_,?_,?_,?_] (λb o e=>Ze _<|Ze _ e)<|by rw[sz];exact Zay _
  .exact J1l (nt:=0) (o:=o) (ep:=ep) F (by rw[sz];exact Z1<|Zbb lt) (by rw[sz];exact Z1<|Zau _) hd k B ps (by rw[Y,B]) rfl hp
  .refine#[#[_,Zs _ rfl,rfl,?_],Ze _<|Ze _ u,Ze _<|Zs _ rfl];simp[Za9,B]
  .intro b C;simp only[ZA,Zad,or_false]at C;rcases C with rfl|rfl|rfl
   .exact .inr<|by rw[sz];exact Zay _
   .exact .inl rfl
   .exact .inr<|Zq _
  .have e1:(ps.map λp=>(j.getD p (0,.none)).2)=(ps.map λp=>j.getD p (0,.none)).map (·.2):=by rw[Zah];rfl
   rw[e1];refine Jhm R en ?_;have e2:(ZR j.size).map (λp=>j.getD p (0,.none))=j.toList:=by
    refine Zbl 03 λi h1 L=>?_
    have h3:i<j.size:=by simpa using h1
    simp[Zd1,h3]
   rw[<-e2];exact D.map _
 |false=>
  rw[if_neg Zt];refine Zb<|Zk ?_;refine Zb<|wpAny_setEpoch_of u hd k ?_;refine Zb<|ZbB<|Zk #[_,rfl,"set_iterator",_,#[_,Zs _ rfl,rfl],QY.lookup,?_];have O:∀b∈[s.heap.objs.size,a],b=a\/s.heap.objs.size<=b:=λb C=>by
   simp only[ZA,Zad,or_false]at C;rcases C with rfl|rfl
   .exact .inr<|Zq _
   .exact .inl rfl
  have go:∀(U:Nat->Nat)(ord:Tv),U 0=0->(∀A:ZI,A.handled=Zc->Walks pr wd A s.heap.objs.size [s.heap.objs.size,a] [s.heap.objs.size] ns.length (λi v=>ord[i]?=J v) (λi h=>IsSI h s.heap.objs.size (.int (U i) 0) i a ns.length ep/\h.get? a=J o))->(∃Z,ZaZ ord Z/\Z.Perm ns) ->
    Q (.ref s.heap.objs.size) {s with heap:=s.heap.push {cls:=.type "set_iterator",data:=.fields (ZaE [.int 0 0,.int 0 0,.ref a,.int ns.length 0,.int ep 0])} }:=λU ord h0 w q=>
   X _ _ s.drawn _ ord _ #[w,#[#[_,Zs _ rfl,rfl,by rw[h0];rfl],Ze _ u],O,q] (λb o e=>Ze _ e) (Zq _)
  have ne:a≠s.heap.objs.size:=Z1 lt;rw[B];cases m:byT wd with
  |true=>
   have D:=Jte (wd.params.setOrder a ep) j;have M:((ZeK (wd.params.setOrder a ep) j).toList.map (·.2)).length=ns.length:=by rw[Zj,D.length_eq,Zal,B]
   refine go (λ_=>0) ((ZeK (wd.params.setOrder a ep) j).toList.map (·.2)) rfl (λA F=>Jt7 F ne hd k B (λ_=>0) M (λi I x g e V S q=>Jmw m g hd k ?_) λI g V S q=>Jmw m g hd k ?_) (Jhm R en D)
   .rw[Z4,ZbY]at e;obtain⟨y,H,rfl⟩:=Z3.mp e;rw[H];exact q
   .rw[ZcK<|by simp_all];exact q
  |false=>
   rw[m]at c G;have c:=c;have pz:t.place.size=j.size:=by unfold SetTable.fits at k;simp only[Zz,beq_iff_eq]at k;exact k.1
   have M:(j.toList.map (·.2)).length=ns.length:=by rw[Zj,Zal,B]
   refine go (YD t.place) (j.toList.map (·.2)) rfl (λA F=>Jt7 F ne hd k B (YD t.place) M (λi I x g e V S q=>Jpl m g hd k c G.l ?_) λI g V S q=>Jpl m g hd k c G.l ?_) (Jhm R en<|Zck _)
   .rw[Z4,ZbY]at e;obtain⟨y,H,rfl⟩:=Z3.mp e;have hi:i<j.size:=(Za1.mp H).1;rw[Jis G.r 05,H,Zb4<|show i<t.place.size by lia];have:YD t.place (i+1)=t.place[i]+1:=by simp[YD,Zd1,show i<t.place.size by lia]
    rw[this]at q;exact q
   .rw[Jis G.r 05,ZcK 05];exact q
end
theorem J01:ZeR (.type "set") "__len__"=pure (J<|.builtin "set.__len__"):=by rw[Zex,ZcN];kernel_rfl
section
variable{pr:Z7}{wd:ZU}{A:ZI}{E:QvT}{s:Zl}{a:Zm}
theorem Jvx(j:s.TypeIs (.ref a) "set")(h:Q Zi s):Zv (Zy pr wd) A (Builtin.List.listLengthHint<|.ref a) Q E s:=by refine Zb<|wpAny_specialOf j J01 ?_;dsimp only;refine Zb<|ZdU j PySem.sub_set_self ?_;simp;exact Zb<|Zfa j<|Zk h
theorem Jm9(hh:A.handled=Zc)(hS:SetI wd s.heap a ns)(F:ns.length<4096)(hQ:∀h' d' tk ord I,ZaZ ord I->I.Perm ns->(∀b o,s.heap.get? b=J o->h'.get? b=J o)->s.heap.objs.size<h'.objs.size->Q ord {s with heap:=h',drawn:=d',toks:=tk}):
  Zv (Zy pr wd) A (collect<|.ref a) Q E s:=by
 obtain⟨o,B⟩:∃o,s.heap.get? a=J o/\o.cls=.type "set":=by obtain⟨o,es,ep,t,ho,P,_⟩:=hS;exact#[o,ho,P.1]
 have la:=Zu B.1;unfold collect;refine Zb<|Zd0<|Zai Zdo ?_;rw[Za2 PySem.F.plain_proto_collect _];refine Zb<|ZbX ?_<|ZN _;refine Zk #[Za7 ZbP _,Zai ZdV ?_];rw[Za2 ZbP _];show Zv _ A.in1 (Zdp (.ref s.heap.objs.size) (.ref a)<|.ref s.heap.objs.size) _ _ _;unfold Zdp;have j:∀b o,s.heap.get? b=J o->(s.heap.push<|ZY "list" #[] 0).get? b=J o:=λb o e=>Ze _ e
 have gL:(s.heap.push<|ZY "list" #[] 0).get? s.heap.objs.size=J (ZY "list" #[] 0):=Zs _ rfl;have Y:ZdH {s with heap:=s.heap.push (ZY "list" #[] 0)} (.ref a) "set":=#[o,j _ _ B.1,B.2];refine Zb<|Zfa Y ?_;have h1:ZdI (.ref s.heap.objs.size) (.ref a)=Zi:=by simp[ZdI,ZaT la]
 rw[if_neg<|by rw[h1];decide];refine Zb<|Jvs (hS.moved λo e=>j _ _ e) λit L d2 fp ord St W m le=>?_
 have G:(s.heap.push<|ZY "list" #[] 0).objs.size=s.heap.objs.size+1:=Zc7 ..;have H:=m _ _ gL;have X:ZdH {s with heap:=L,drawn:=d2} (.ref a) "set":=#[o,m _ _<|j _ _ B.1,B.2];refine Zb<|ZO<|Jvx X ?_;rw[if_pos<|by decide +kernel];refine Zb<|Zc8 ?_;have nS:s.heap.objs.size∉fp:=λF=>by
  rcases W.fp _ F with e|e
  .exact absurd e<|ZaT la
  .rw[show({s with heap:=s.heap.push (ZY "list" #[] 0)}:Zl).heap.objs.size=s.heap.objs.size+1 from G]at e;exact absurd e<|Nat.not_le_of_gt<|Zau _
 have bg:10<=sizeLine:=01;unfold Builtin.List.listTouch;refine Zb (Zb (Zcv (f:=(·.push .none)) H rfl ?_ (ZN _) (show 1<=sizeLine+1 by omega)));obtain⟨c3,g3⟩:∃c3,(L.update s.heap.objs.size (Zag (·.push .none))).get? s.heap.objs.size=J (ZY "list" #[.none] c3):=#[_,Zbf H (·.push .none)];refine Zcv (f:=(·.pop)) g3 rfl ?_ (show 1<=sizeLine by omega) (ZN _);obtain⟨Z,g4⟩:∃Z,((L.update s.heap.objs.size (Zag (·.push .none))).update s.heap.objs.size (Zag (·.pop))).get? s.heap.objs.size=J (ZY "list" #[] Z):=#[_,Zbf g3 (·.pop)];have u:∀b o,b≠s.heap.objs.size->L.get? b=J o->((L.update s.heap.objs.size (Zag (·.push .none))).update s.heap.objs.size (Zag (·.pop))).get? b=J o:=λb o nb e=>(Zw _ _<|ZP nb).trans<|(Zw _ _<|ZP nb).trans e
 generalize (L.update s.heap.objs.size (Zag (·.push .none))).update s.heap.objs.size (Zag (·.pop))=h4 at g4 u;have R:=(W.w A.in1 hh).frame 0 L h4 W.st λb F o e=>u b o (λz=>nS<|z▸F) e
 refine Zk #[Za7 PySem.F.plain_extend_loop _,codeAny_extend_loopS (W.w A.in1 hh).toS (ZM (Zbn F) 01) _ nS _ ns.length 0 _ #[] Z rfl (ZN _) R g4 (ItemsOf.nil _) λs5 C c5 M g5 k=>?_];refine Zb<|wpAny_load g5 ?_;refine Zk ?_;obtain⟨I,hi,hp⟩:=W.zs;have eo:C.toList=ord:=by
  have lo:ord.length=ns.length:=by rw[hi.length,hp.length_eq]
  refine Zbs λi=>?_
  by_cases D:i<ns.length
  .have e1:C.toList[i]?=J (C[i]'(by rw[k.1];exact D)):=by simp[k.1,D]
   rw[e1];exact(k.2 i _<|by simp[k.1,D]).symm
  .rw[ZaC (by rw[Zal,k.1];omega),ZaC 00]
 rw[eo];obtain⟨h5,V,d5,S,O⟩:=s5;have eg:V=s.gens:=M.gens;have ed:d5=d2:=M.drawn;have U:O=s.os:=M.os;subst eg;subst ed;subst U;refine hQ h5 d5 S ord I hi hp (λb o e=>?_)<|Zu g5;have lb:=Zu e;have b1:b≠s.heap.objs.size:=Z1 lb;have le':s.heap.objs.size+1<=it:=by rw[<-G];exact le
 have b2:b≠it:=Z1<|ZF lb<|ZM (Zay _) le';exact M.heap b o (by simp_all)<|u b o b1<|m _ _<|j _ _ e
theorem Jqn{ns:Tq}{Q:QvT}(O:A.handled=Zc)(P:SetI wd s.heap a ns)(R:ns.length<64)
  (h:∀D h' d' tk k m c,ZaZ k m->m.Perm ns->m.Pairwise (· <= ·)->s.heap.objs.size<=D->(∀b o,s.heap.get? b=J o->h'.get? b=J o)->h'.get? D=J (ZY "list" (ZaE k) c)->Q (.ref D) {s with heap:=h',drawn:=d',toks:=tk}):
  Zv (Zy pr wd) A (call (.builtin "sorted") [.ref a]) Q E s:=by
 refine Calls.call_function_entry kind_sorted Zfb Zfc (args_sorted1 _) ?_;unfold Zbp.«sorted»;refine Zb<|Zk ?_;refine Zb<|Jm9 O P 00 λL d2 B j W H hp keep V=>?_
 have I:j.length=ns.length:=by rw[H.length,hp.length_eq]
 refine Zb (ZbX ?_<|by rw[I,Za8];omega);have C:(L.push<|ZY "list" j.toArray 0).get? L.objs.size=J (ZY "list" j.toArray 0):=Zs _ rfl;refine Zb<|ZO<|Zbw slot_list_sort #[_,C,rfl] entry_list_sort (list_sort_tree C H 00 λk m U M S=>#[_,rfl,?_])<|args_list_sort _;obtain⟨G,u⟩:∃G,((L.push<|ZY "list" j.toArray 0).update L.objs.size<|Zag λ_=>#[]).get? L.objs.size=J (ZY "list" #[] G):=#[_,Zbf C λ_=>#[]];have F:((((L.push<|ZY "list" j.toArray 0).update L.objs.size<|Zag λ_=>#[]).push<|ZY "tuple" j.toArray 0).push<|ZY "list" #[] 0).get? L.objs.size=J (ZY "list" #[] G):=Ze _<|Ze _ u;obtain⟨c,X⟩:∃c,(sortedHeap (L.push<|ZY "list" j.toArray 0) L.objs.size j k).get? L.objs.size=J (ZY "list" k c):=#[_,Zbf F λ_=>k];refine Zk #[_,rfl,h L.objs.size _ d2 B k.toList m c U (M.trans hp) S (Zbn V) (λb o e=>?_)<|by simp_all];have nb:=Z1<|Zu<|keep b o e;exact(Zw _ _<|ZP nb).trans<|Ze _<|Ze _<|(Zw _ _<|ZP nb).trans<|Ze _<|keep b o e
end
theorem Jsl{X:Cx}{V:PnT}{U:L2.St}{H:Hp}{s:Zl}{d:Drawn}(I:Inv X V U H s):Inv X V U H {s with drawn:=d}:=#[I.ok,I.os,I.bare,I.base,I.loc,I.cell,I.free,I.freeC,I.pin,I.hok,I.len]
section
variable{B:CeT}{X:Cx}
def Yx(aa:A1):E1:=λU h=>(aa U h).bind λxs h1=>match xs with|[.ref i]=>(match h1[i]? with|some (.lst ys)=>(match JL ys with|some zs=>if zs.length<64 then .ok (.ref h1.length) (h1++[.lst<|(Qk<|ddN (QO zs) zs.length).map .int])else .stuck|none=>.stuck)|_=>.stuck)|_=>.stuck
theorem Jsi{a:Expr}{aa:A1}{p pos p2 k:Pos}(hh:X.A.handled=Zc)(g1:Gl X "sorted")(m1:X.mg "sorted"=Zc)(g2:Gl X "set")(m2:X.mg "set"=Zc)(ha:PAi B X [a] aa)(hs:Z9 [a] X.env=[(Zi,ZaQ a X.env)]):
  PEi B X (.Call (.Name "sorted" p) [.Call (.Name "set" p2) [a] [] k] [] pos) (Yx aa):=λV s U H Y Z h Q E N K=>by
 refine ZT<|Qt N.inv g1 m1 rfl ?_;refine ZaI ?_ rfl rfl;refine Zcm ?_;refine ZT<|Qt N.inv g2 m2 rfl ?_;refine ZaD ?_ hs rfl;refine(ha k).run N K λxs h1 us s1 H1 U1 C n1 r1 j=>?_
 obtain⟨O,rv,qs⟩:=r1;match xs,j with
 |[.ref i],j=>
  obtain⟨w,rfl,ad,rfl,G⟩:=qs.one_of;obtain⟨u,rfl,ru⟩:=Qq rv;cases ru;dsimp only at j;cases I:h1[i]? with|none=>rw[I]at j;exact(j).elim|some ob=>
   rw[I]at j;cases ob with
   |lst ys=>
    dsimp only at j;cases M:JL ys with|none=>rw[M]at j;exact(j).elim|some zs=>
     rw[M]at j;dsimp only at j;split at j
     .rename_i room;obtain⟨ws,e1,r3⟩:=C.at I G;obtain⟨its,P,pl,_⟩:=C.inv.list<|SqL.of e1;have R:=Vm M r3 P;have dl:=Jrj (QO zs) zs.length;refine Jtt hh pl.isList R (show zs.length+1<4096 by omega) λL tk hS keep=>Zcn ?_
      obtain⟨ms,hm,S⟩:=hS;have lm:ms.length<=zs.length:=by rw[S.length_eq];exact dl
      refine Jqn hh hm 00 λD h3 d3 tk3 W ns' c a1 a2 a3 le m hc=>?_
      have en:=Jpa (a2.trans S) a3;subst en;have F:s1.heap.objs.size<=D:=by obtain⟨o,es,ep,t,ho,_⟩:=hm;exact ZM (Zbn<|Zu ho) le
      have hl:((Qk<|ddN (QO zs) zs.length).map hV.int).length<=sizeLine:=by have:=(a2.trans S).length_eq;rw[Zj,this,Za8];omega
      have I':=C.inv.laid (a:=D) (o:=.lst<|(Qk<|ddN (QO zs) zs.length).map hV.int) (h':=h3) (t':=tk3) (λb u q=>m _ _<|keep _ _ q) F #[hl,W,c,Xt a1,hc];exact finA C j D (C.inv.hok.fresh F) #[_,J2,Jgn _] _ _ (Jsl (d:=d3) I') rfl
     .exact(j).elim
   |_=>exact(j).elim
 |[],j=>exact(j).elim
 |[.non],j=>exact(j).elim
 |[.bl _],j=>exact(j).elim
 |[.int _],j=>exact(j).elim
 |[.str _],j=>exact(j).elim
 |[.tup _],j=>exact(j).elim
 |[.rol _],j=>exact(j).elim
 |x::_::_,j=>cases x<;>exact(j).elim
end
end L3
namespace L3
open PySem PySem.Spec PyProof.Rows L2 PySem.W
noncomputable def VO (x:IV)(h:IH):Option (Nat×Tx):=match x with|.ref i=>(match h[i]? with|some (.lst xs)=>J (i,xs)|_=>Zc)|_=>Zc
theorem Ji0(e:VO x h=J (i,xs)):x=.ref i/\h[i]?=J (.lst xs):=by
 unfold VO at e;split at e
 .lia
 .cases e
def XN(x:IV)(as:Tx)(h:IH):Res IV:=match VO x h,as with|some (i,xs),[]=>(match xs[xs.length-1]? with|some y=>.ok y<|h.set i<|.lst xs.dropLast|none=>.stuck)|_,_=>.stuck
def XO(x:IV)(as:Tx)(h:IH):Res IV:=match VO x h,as with|some (i,xs),[.int k]=>(match JL xs with|some ns=>(match ns.findIdx? (· ==k)with|some j=>.ok .non<|h.set i<|.lst<|xs.eraseIdx j|none=>.stuck)|none=>.stuck)|_,_=>.stuck
section
variable{B:CeT}{X:Cx}
theorem J3y:MtI B X "list" "list.pop" XN:=by
 intro V s U H Y Z h x xs v R Q E N k F K;unfold XN at K;split at K
 .rename_i i zs e;obtain⟨rfl,D⟩:=Ji0 e;split at K
  .rename_i y I;obtain⟨P,k,a,rfl,ha⟩:=k;obtain⟨O,G,M⟩:=F;cases (M);obtain⟨L,m,j⟩:=N.at D ha;obtain⟨z,C,u⟩:=j.get I;exact Jyh (J33) N.inv k G #[a,L,z,rfl,rfl,m,by rw[j.length];exact C,finW N K ha m (by rw[Ze3,Ze3,j.length];exact j.take _) u]
  .exact(K).elim
 .exact(K).elim
theorem Jv0:MtI B X "list" "list.remove" XO:=by
 intro V s U H Y Z h x xs v us Q E N G rs K;unfold XO at K;split at K
 .rename_i i zs k e;obtain⟨rfl,hi⟩:=Ji0 e;split at K
  .rename_i ns hb;split at K
   .rename_i j hj;obtain⟨xv,G,a,rfl,ha⟩:=G;obtain⟨O,rv,qs⟩:=rs;obtain⟨w,rfl,qw⟩:=qs.one_of;cases (qw);obtain⟨u,rfl,t,rfl⟩:=Qq rv;cases G;obtain⟨ws,S,W⟩:=N.at hi ha;obtain⟨z,C,n,r,hl,P⟩:=N.inv.lstM S;have D:=Vm hb W r;have ln:=Y1 D;obtain⟨R,hp,L⟩:=ZcE.mp hj;have at_:∀m (hm:m<C.toArray.size),∃t,C.toArray[m]=.int (ns.getD m 0) t:=λm hm=>ZeB D m _<|by simp at hm;simp[hm]
    refine Zeg F.slot_list_remove #[_,P,rfl] F.entry_list_remove (F.args_list_remove_2 _ _)
     (MeetsSeq.list_remove a C.toArray n (.int k t) (isK k) (λy hy=>?_) j (by simp;lia) ?_ (λm hm M=>?_)<|by rw[ZV];lia) #[P,?_]
    .obtain⟨m,hm,rfl⟩:=Array.mem_iff_getElem.mp hy;obtain⟨t',e⟩:=at_ m hm;rw[e];exact MeetsSeq.EqGives.int _ _ _ _
    .obtain⟨t',e⟩:=at_ j<|by simp;lia
     rw[e];simpa[isK,Zx,R]using hp
    .obtain⟨t',e⟩:=at_ m hm;rw[e];have:=L m M;have I:m<ns.length:=05;simpa[isK,Zx,I]using this
    .exact finW N K ha S (W.erase _) rfl _ _ (N.inv.lset S P (by simp_all) (r.eraseIdx j) (by have:=Jl0 ws j;lia)) rfl
   .exact(K).elim
  .exact(K).elim
 .exact(K).elim
end
section
variable{pr:Z7}{wd:ZU}{A:ZI}{E:QvT}{s:Zl}
theorem Jjw{Q:Tv->Zl->Prop}{n:Nat}(B:A.handled=Zc)(D:IsRange s.heap r a b c t u v)(hsmall:Builtin.Range.small a b c=Zg) (hn:ZdM a b c=n)(j:n<=2^24)(C:∀h' tk acc,(∀b o,s.heap.get? b=J o->h'.get? b=J o)->s.heap.objs.size<=h'.objs.size->ItemsOf (λi v=>∃t,v=.int (a+i*c) t) acc n->Q acc.toList {s with heap:=h',toks:=tk}):Zv (Zy pr wd) A (collect<|.ref r) Q E s:=by
 unfold collect;refine Zb<|Zd0<|Zai Zdo ?_;refine Zb<|ZbX ?_<|ZN _;refine Zk #[Za7 ZbP _,Zai ZdV ?_];rw[Za2 ZbP _];refine wpAny_extend_range (R:=λr m=>match r with|.ok (.ret v)=>Zv (Zy pr wd) A (match v with|.ref a=>(do match (<-load a).data with|.seq xs _=>pure xs.toList|_=>unsupported "internal:collect")|_=>unsupported "internal:collect") Q E m|.ok _=>False|.error e=>E e m) B (Ze _ D) hsmall hn j s.heap.objs.size _ 0 (Zs _ rfl) λh' tk acc F keep g k=>?_
 refine Zb<|wpAny_load g ?_;exact Zk<|C h' tk acc (λb o e=>keep b o (Z1<|Zu e)<|Ze _ e) (Zbn<|Zu g) k
end
section
variable{B:CeT}{X:Cx}
def Yw(q:Str)(j:Nat)(js:Tr)(aa:A1)(m:E1):E1:=λU h=>(aa U h).bind λxs h1=>match xs,h1[j]? with|[.int n],J (.tab q')=>if q'=q/\0<=n/\n<64 then(Q5 (λv h'=>m (J v::js.map λj=>(U[j]?).join) h') (rngI 0 n) [] h1).bind (Xs Zg<|rngI 0 n)else .stuck|_,_=>.stuck
theorem Jvj{k:Nat}{q x:Str}{L:Tl}{js:Tr}{j:Nat}{a F:Expr}{aa:A1}{m:E1}{params:ZbW}{scope:Zbm}{p p2 lp pos I kp kp2 cp:Pos}{ck:Nat}(hh:X.A.handled=Zc)(hg:Gl X "sorted")(hm:X.mg "sorted"=Zc)(g2:Gl X "range")(m2:X.mg "range"=Zc)(ha:PAi B X [a] aa)(hs:Z9 [a] X.env=[(Zi,ZaQ a X.env)])
  (hr:Room (k+3) X.A)(hcd:W.codeIn X.K X.env.code q=Zg)(hq:X.env.qual=q++".<locals>.")(cS:Q8 X.mg X.base)(hx:Q6 params=J x)(S:LamSc X.N X.env.scope.names x L js scope)
  (hb:∀f cd s' H',PEi B (cxL X X.A.in1.in1 (x::L) q scope f cd s' H') F m):
  PEi B X (.Call (.Name "sorted" p) [.Call (.Name "range" p2) [a] [] I] [#[J "key",.Lambda params F scope lp,kp],#[J "reverse",.Constant (.bool Zg) ck cp,kp2]] pos) (Yw q j js aa m):=λV s U H Y Z h Q E N K=>by
 have hcl:=Ja3 λy hm hk=>N.inv.ok.has y.1<|.inl<|S.free y hm hk
 refine ZT<|Qt N.inv hg hm rfl ?_;refine ZeC ?_ rfl rfl rfl rfl;refine Zcm ?_;refine ZT<|Qt N.inv g2 m2 boot_range ?_;refine ZaD ?_ hs rfl;refine(ha I).run N K λxs h1 us C H1 U1 N1 n1 r1 P=>?_
 obtain⟨O,rv,qs⟩:=r1;split at P
 .rename_i n q' ej;split at P
  .rename_i hc;obtain⟨rfl,n0,n64⟩:=hc;obtain⟨w,rfl,qw⟩:=qs.one_of;cases (qw);obtain⟨u,rfl,t,rfl⟩:=Qq rv;refine call_range_1<|Zcn ?_;have gr:(C.heap.push {cls:=.type "range",data:=.fields (ZaE [.int 0 C.toks,.int n t,.int 1<|C.toks+1])}).get? C.heap.objs.size=J {cls:=.type "range",data:=.fields (ZaE [.int 0 C.toks,.int n t,.int 1<|C.toks+1])}:=Zs _ rfl;have N1':=(N1.keptH (h':=C.heap.push {cls:=.type "range",data:=.fields (ZaE [.int 0 C.toks,.int n t,.int 1<|C.toks+1])}) (t':=C.toks+1+1) λb o e=>Ze _ e);have F1:FpOk X V H1 C.heap.objs.size:=N1.inv.fpOk (Zq _)<|N1.inv.hok.fresh<|Zq _;have N2:=N1'.pinO gr F1 λv z=>by cases z
   have K2:=Kont.more (pl:=[(C.heap.objs.size,({cls:=.type "range",data:=.fields (ZaE [.int 0 C.toks,.int n t,.int 1<|C.toks+1])}:Obj))]) P;refine Zbi<|Zb<|Jka N2 ej hcd hq (Jj9 hx) hcl cS λf c pm R s3 H3 N3 n3 LC=>Zb<|ZaS<|Zk ?_
   refine Zbi<|Zb<|Zk<|Zb<|ZaS<|Zk<|ZbH ?_;have K3:=Kont.more (pl:=[(f,lamO q' params F scope (clOf X.env.cells scope.names []) pm R c)])<|Kont.mono K2 n3;have pr:=N3.inv.pin (C.heap.objs.size,{cls:=.type "range",data:=.fields (ZaE [.int 0 C.toks,.int n t,.int 1<|C.toks+1])})<|Zp _<|Zax _<|Zp _<|Z2.mpr rfl;refine Zeq kind_sorted Zfb Zfc (ksk_s2 _ _ _) ?_;unfold Zbp.«sorted»;refine Zb<|Zk ?_;refine Zb<|Jjw (n:=n.toNat) hh pr.1 (small_one 01 01 05 05) ?_ 05 λh4 tk acc keep le M=>?_
   .rw[rangeSize_one];split<;>lia
   have are:ZaZ acc.toList ((ZR n.toNat).map λk=>((k:Nat):Int)):=by
    refine Jsj _ _ (by simp[M.1]) λi v hv=>?_
    obtain⟨t,rfl⟩:=M.2 i v<|by simpa using hv
    have hi:i<n.toNat:=by have:=(Zo.mp hv).1;simp only[Zal,M.1]at this;exact this
    exact#[t,by simp[Zx,hi]]
   refine Jt0 (G:=λH=>QK H q'<|.ref c) (ys:=rngI 0 n) (λa=>ksk_t2 f a Zg) (λa=>ksk_l2 a _ _) ?_ (λH H' e g=>g.mono e.frzs) N3 LC keep le (Xt are) (by rw[XQ];exact Jgn _) (by rw[XQ];simp;lia) (λD s' q=>#[_,rfl,q]) K3;intro pl s4 H4 U4 h4 v u Q4 N4 g4 ru4 K4;have pf:=N4.inv.pin (f,lamO q' params F scope (clOf X.env.cells scope.names []) pm R c)<|Zp _<|Zax _<|Zp _<|Z2.mpr rfl;exact Jnl (A:=X.A.in1.in1) N.inv.ok.frames hr.in1.in1 N4 pf.1 g4 hx S (hb f<|.ref c) ru4 K4
  .exact Zf P
 .exact Zf P
end
end L3
namespace L3
open PySem PySem.Spec PyProof.Rows L2
end L3
namespace L4
open PySem PySem.Spec PyProof.Rows L2 L3
noncomputable def stE:E1:=λ_ _=>.stuck
noncomputable def stT:T1:=λ_ _=>.stuck
noncomputable def stO:O1:=λ_ _=>.stuck
noncomputable def stI:I1:=λ_ _=>.stuck
noncomputable def stG:G1:=λ_ _ _=>.stuck
noncomputable def stS:S1:=λ_ _=>.stuck
structure Fn where
 np:Nat
 dvs:Tx
 run:Tx->IH->Res IV
abbrev _root_.Ti:=Option Fn
set_option genInjectivity false in
structure Pg where
 fn:Str->Ti
 cls:Str->Ti
 meth:Str->Str->Ti
 con:Str->Tg
 isa:Str->Option (Str->Bool)
 fld:Str->Bool
 free:Str->Bool
 tabs:Str->Ta
 rz:Str->Bool
 bas:Str->Bool
 xi:Str->Option (Str->Ww)
 wr:Str->Option (Tx->IH->Res IV)
 ne:Str->Bool
 xo:Str->Ti
 xf:Str->Str->Bool
 xb:Str->Bool
structure Sc where
 N:Tl
 names:Wh
 own:Bool
 q:Str
noncomputable def ixOf (x:Str):Tl->Ta|[]=>Zc|y::r=>if y==x then J 0 else(ixOf x r).map (· + 1)
noncomputable def Sc.vis (S:Sc)(x:Str):Ta:=match S.names.lookup x with|some .local=>if x=="__debug__"||x=="__classdict__" then Zc else ixOf x S.N|some .cell=>if x=="__debug__"||x=="__classdict__" then Zc else ixOf x S.N|some .free=>if x=="__debug__"||x=="__classdict__" then Zc else ixOf x S.N|_=>Zc
noncomputable def Sc.gl (S:Sc)(x:Str):Bool:=S.names.lookup x==J .globalImplicit&&!(x=="__debug__")&&!(x=="__name__")
noncomputable def Sc.sto (S:Sc)(x:Str):Ta:=match S.names.lookup x with|some .local=>ixOf x S.N|some .cell=>if S.own then ixOf x S.N else Zc|_=>Zc
def evC:Const->E1|.int i=>eC<|.int i|.bool b=>eC<|.bl b|.none=>eC .non|.str x=>eC<|.str x|_=>stE
def binI:Zcx->IV->IV->IH->Res IV|.Add=>Jm|.Sub=>Qo|.Mult=>Qe|.FloorDiv=>JG|.Mod=>Ju|.Pow=>JM|_=>λ_ _ _=>.stuck
def cmpI:CmpOp->IV->IV->IH->Res IV|.Lt=>cLt|.LtE=>cLe|.Gt=>cGt|.GtE=>cGe|.Eq=>cEq|.NotEq=>cNe|.Is=>cIs|.IsNot=>Yq|_=>λ_ _ _=>.stuck
def unI:UnaryOp->IV->IH->Res IV|.Not=>VS tru|.USub=>Jv6|_=>λ_ _=>.stuck
def Ju1:Tz->E1|[]=>stE|[a]=>a|a::b::r=>eAnd a (Ju1<|b::r) tru
def eOrs:Tz->E1|[]=>stE|[a]=>a|a::b::r=>eOr a (eOrs<|b::r) tru
def J1d:List T1->T1|[]=>stT|[a]=>a|a::b::r=>QT a<|J1d<|b::r
def tOrs:List T1->T1|[]=>stT|[a]=>a|a::b::r=>tOrI a<|tOrs<|b::r
def aAll:Tz->A1|[]=>Je|a::r=>Jb a<|aAll r
noncomputable def Jw:Expr->Bool|.Starred .. =>Zi|_=>Zg
def XL:Expr->Bool|.Set .. =>Zi|_=>Zg
def Xp:Expr->Bool|.Slice .. =>Zi|_=>Zg
def QW:Expr->Bool|.ListComp .. =>Zi|.SetComp .. =>Zi|.DictComp .. =>Zi|_=>Zg
def QP:Expr->Bool|.Call (.Name ..) [] [] _=>Zi|_=>Zg
noncomputable def Fn.fill (f:Fn)(n:Nat):Option (Tx):=if n<=f.np/\f.np<=n+f.dvs.length then J (f.dvs.drop<|f.dvs.length-(f.np-n))else Zc
def Xk(f:Fn)(n:Nat)(a:A1):E1:=match f.fill n with|some d=>Ji f.run d a|none=>stE
def Jop(c:Str)(f:Fn)(n:Nat)(a:A1):E1:=match f.fill (n+1)with|some d=>Q2 c f.run d a|none=>stE
def bltF(x:Str):Tx->IH->Res IV:=if x=="len" then on1 lenI else if x=="all" then on1 allI else if x=="sum" then on1 sumI else if x=="sorted" then on1 XU else if x=="min" then on1 VQ else if x=="max" then on1 XI else λ_ _=>.stuck
def bltT(x:Str):Tx->IH->Res IV:=if x=="list" then on1 QD else if x=="tuple" then on1 VZ else if x=="int" then on1 Jvk else λ_ _=>.stuck
noncomputable def Jsn (x:Str):Bool:=x=="len"||x=="all"||x=="sum"||x=="sorted"||x=="min"||x=="max"
noncomputable def Jso (x:Str):Bool:=x=="list"||x=="tuple"||x=="int"
def Jup(P:Pg)(x:Str):Option (Ty->Ww):=match P.isa x with
 |some g=>J λt=>match t with|.ins c=>J (g c)|.exc _=>Zc|_=>J Zi
 |none=>if P.free x then(if x=="int" then J Jq0 else if x=="bool" then J Ji7 else if x=="str" then J Jq1 else if x=="list" then J (if P.ne "Work" then Ji8 else Yo)else if x=="tuple" then J Jn8 else Zc)else Zc
def Jy7(o:Option<|Ty->Ww)(e:E1):E1:=match o with|some ans=>eIsi ans e|none=>stE
def bmOf(T:String)(m:Str)(n:Nat):Option (IV->Tx->IH->Res IV):=if T=="list"&&m=="append"&&n==1 then J Xh else if T=="list"&&m=="pop"&&n==0 then J XN else if T=="list"&&m=="remove"&&n==1 then J XO else if T=="str"&&m=="join"&&n==1 then J XF else if T=="dict"&&m=="setdefault"&&n==2 then J VW else Zc
def JI(P:Pg)(m:Str)(n:Nat):Str->Option ((Tx->IH->Res IV)×Tx):=λc=>match P.meth c m with|some f=>(match f.fill (n+1)with|some d=>J (f.run,d)|none=>Zc)|none=>Zc
def VN(v:IV)(h:IH):Bool:=match v with|.ref i=>(match h[i]? with|some (.ins ..)=>Zg|_=>Zi)|_=>Zi
def tyS(v:IV)(h:IH):String:=match v with|.str _=>"str"|.rol _=>"list"|.ref i=>(match h[i]? with|some (.lst _)=>"list"|some (.dct _)=>"dict"|_=>"")|_=>""
def Jq(P:Pg)(m:Str)(n:Nat)(o:E1)(a:A1):E1:=λU h=>match o U h with|.ok v h1=>if VN v h1 then Ju3 m (JI P m n) o a U h else(match bmOf (tyS v h1) m n with|some g=>eBm (tyS v h1) g o a U h|none=>.stuck)|_=>.stuck
def J2w(n:Nat)(a:A1):I1:=match n with|1=>iRg QC a|2=>stI|_=>stI
def gAll:List G1->Tx->ISt->IH->SRes|[]=>gN|g::r=>gC g<|gAll r
noncomputable def V4 (sc:Zbm):Tl:=sc.names.filterMap λx=>if x.2==.local&&!(x.1==(".0":Str))then J x.1 else Zc
noncomputable def QB (sc:Zbm):Tl:=sc.names.filterMap λx=>if x.2==.free then J x.1 else Zc
def jsOf(S:Sc)(sc:Zbm):Tr:=(QB sc).map λx=>(ixOf x S.N).getD 0
def Sc.comp(S:Sc)(sc:Zbm):Sc where
 N:=V4 sc++QB sc
 names:=sc.names.map λx=>if x.2==.free&&S.names.lookup x.1==J .cell then(x.1,.cell)else x
 own:=Zi
 q:=""
def Sc.lam(S:Sc)(x:Str)(sc:Zbm):Sc where
 N:=x::QB sc
 names:=sc.names
 own:=Zi
 q:=""
def Qs(S:Sc)(x:Str)(sc:Zbm):Bool:=sc.kind==.function&&!sc.isCoroutine&&!sc.isGenerator&&sc.names.all (λy=>!(y.2==.cell))&&sc.names.lookup x==J .local&&sc.names.all (λy=>!(y.2==.free)||S.names.lookup y.1==J .cell) && (QB sc).all (λy=>decide (S.N[(ixOf y S.N).getD 0]?=J y)&&sc.names.lookup y==J .free)&&decide (x::QB sc).Nodup
def Sc.fake(S:Sc):Zbm:={kind:=.function,names:=S.names,isGenerator:=Zi,isCoroutine:=Zi}
noncomputable def Jrn:Expr->Bool|.Name x _=>x=="last_come"||x=="tops"||x=="last"||x=="_law_last"||x=="_law_lows_here"|_=>Zi
def ixD(a:Expr):IV->IV->IH->Res IV:=if Jrn a then QQ else Jg
def txtB:Expr->Bool|.Name x _=>x=="_law_word_here"||x=="_law_name"|.Subscript .. =>Zg|_=>Zi
def slD(a:Expr):IV->Wz->Wz->IH->Res IV:=if txtB a then slT else slI
def cmpD(ne:Str->Bool)(o:CmpOp)(b:Expr):IV->IV->IH->Res IV:=match o with|.In=>if Jrn b then cInD else λ_ _ _=>.stuck|o=>cmpI o
def gSbF(a:Expr)(o i:E1):G1:=if Jrn a then gSbD o i else gSb o i
def Jo4:Expr->Wv|.Call (.Name y _) [e] [] _=>if y=="set"&&Jw e then J e else Zc|_=>Zc
def Jo1:Expr->Wv|.Call (.Name y _) [e] [] _=>if y=="range"&&Jw e then J e else Zc|_=>Zc
def dctB:Expr->Bool|.Call (.Name y _) _ _ _=>y=="ceilings"|_=>Zi
def Jm4(P:Pg)(S:Sc)(x:Str)(f:Expr->E1):Tf->E1|[a,b]=>if x=="max" then eCB (on2 maxI) (Jb (f a)<|Jb (f b) Je)else if x=="min" then eCB (on2 minI) (Jb (f a)<|Jb (f b) Je)else(match b with|.Name y _=>if x=="isinstance"&&S.gl y then Jy7 (Jup P y) (f a)else stE|_=>stE)|[a]=>(match (if x=="len"&&S.gl "set"&&P.free "set" then Jo4 a else Zc)with|some e=>Yv<|Jb (f e) Je|none=>match (if x=="list"&&S.gl "range"&&P.free "range" then Jo1 a else Zc)with|some _=>stE|none=>if x=="len"&&dctB a then eCB (on1 Xm) (Jb (f a) Je)else if Jsn x then eCB (bltF x) (Jb (f a) Je)else if Jso x then eCB (bltT x) (Jb (f a) Je)else stE)|_=>stE
def Jts:Tf->Wv|[a]=>Jo4 a|_=>Zc
def Jgb(P:Pg)(S:Sc)(x:Str)(f:Expr->E1)(args:Tf):E1:=match (if x=="sorted"&&S.gl "set"&&P.free "set" then Jts args else Zc)with|some e=>Yx<|Jb (f e) Je|none=>Jm4 P S x f args
def J49(P:Pg)(S:Sc)(f:Sc->Expr->E1)(x:Str)(a:Expr)(k:Str):Expr->E1|.Lambda ps body sc _=>(match Q6 ps,P.tabs S.q with|some y,J j=>if x=="sorted"&&k=="key"&&S.gl x&&P.free x&&Jw a&&S.own&&Qs S y sc then XC S.q j (jsOf S sc) (Jb (f S a) Je) (f (S.lam y sc) body)else stE|_,_=>stE)|_=>stE
def J3e:Expr->Bool|.Constant (.bool Zg) _ _=>Zg|_=>Zi
def Jtz(P:Pg)(S:Sc)(f:Sc->Expr->E1)(x:Str)(a:Expr)(k:Str)(ps:ZbW)(body:Expr)(sc:Zbm)(k2:Str)(d:Expr):E1:=match Jo1 a,Q6 ps,P.tabs S.q with|some e,J y,J j=>if x=="sorted"&&k=="key"&&k2=="reverse"&&J3e d&&S.gl x&&P.free x&&S.gl "range"&&P.free "range"&&S.own&&Qs S y sc then Yw S.q j (jsOf S sc) (Jb (f S e) Je) (f (S.lam y sc) body)else stE|_,_,_=>stE
def minK(P:Pg)(S:Sc)(f:Sc->Expr->E1)(x:Str)(a:Expr)(k:Str):Expr->E1|.Lambda ps body sc _=>(match Q6 ps,P.tabs S.q with|some y,J j=>if x=="min"&&k=="key"&&S.gl x&&P.free x&&Jw a&&S.own&&Qs S y sc then XB ltT S.q j (jsOf S sc) (Jb (f S a) Je) (f (S.lam y sc) body)else stE|_,_=>stE)|_=>stE
def Jsv(P:Pg)(S:Sc)(f:Sc->Expr->E1)(x:Str)(args:Tf)(kws:Tp):E1:=match args,kws with|[a],[⟨J k,d,_⟩]=>if x=="max"&&k=="default"&&S.gl x&&P.free x&&Jw a then X9 (Jb (f S a) Je) (f S d)else if x=="sorted" then J49 P S f x a k d else minK P S f x a k d|[a],[⟨J k,.Lambda ps body sc _,_⟩,⟨J k2,d,_⟩]=>Jtz P S f x a k ps body sc k2 d|_,_=>stE
def Joe(P:Pg)(S:Sc)(m:Str):Expr->Ti|.Name x _=>if m=="__init__"&&S.gl x&&P.bas x then P.cls x else Zc|_=>Zc
def Jyw(P:Pg)(S:Sc)(m:Str):Expr->Bool|.Name x _=>m=="__init__"&&S.gl x&&P.xb x|_=>Zi
def Ju2(P:Pg)(S:Sc)(m:Str)(n:Nat)(o:Expr)(a:A1)(e:E1):E1:=if Jyw P S m o&&decide (n≠0)then Yt (λc=>(P.xo c).isSome) a else e
def Jy6(P:Pg)(m:Str)(n:Nat)(b:Ti)(o:E1)(a:A1):E1:=match b with|some f=>if n=0 then stE else Xk f n a|none=>Jq P m n o a
def Jrh(ifs:Tf)(f:Expr->T1)(m:T1->E1):E1:=match ifs with|[]=>m JF|[c]=>m<|f c|_=>stE
section
mutual
def ev(P:Pg):Nat->Sc->Expr->E1|0,_,_=>stE|n+1,S,e=>match e with
  |.Constant c _ _=>evC c
  |.Name x _=>(match S.vis x with|some i=>Ja i|none=>if S.gl x then(match P.con x with|some v=>eC v|none=>stE)else stE)
  |.BinOp a op b _=>Jc (binI op) (ev P n S a)<|ev P n S b
  |.UnaryOp op a _=>eUn (unI op)<|ev P n S a
  |.BoolOp .And O _=>Ju1<|O.map<|ev P n S
  |.BoolOp .Or O _=>eOrs<|O.map<|ev P n S
  |.IfExp t a b _=>eIf (evT P n S t) (ev P n S a)<|ev P n S b
  |.Compare a [o] [b] _=>if Zcs o b then stE else Jc (cmpD P.ne o b) (ev P n S a) (ev P n S b)
  |.Compare a [o,o'] [b,c] _=>if ZdP [o,o'] [b,c]then stE else JJ (cmpI o) (cmpI o') (ev P n S a) (ev P n S b) (ev P n S c)
  |.JoinedStr (a::b::r) _=>eFst<|(a::b::r).map<|ev P n S
  |.FormattedValue a c Zc _=>if c=-1 then eUn fmtI (ev P n S a)else stE
  |.Tuple es _ _=>if es.all Jw then Jz (aAll<|es.map<|ev P n S)else stE
  |.Dict [] [] _=>X8
  |.List es _=>if es.all Jw then Jx (aAll<|es.map<|ev P n S)else stE
  |.Subscript a (.Slice lo hi Zc _) _=>eSl (slD a) (ev P n S a) (evO P n S lo)<|evO P n S hi
  |.Subscript a i _=>if Xp i then Jc (ixD a) (ev P n S a) (ev P n S i)else stE
  |.Attribute o f _=>if QP o&&P.fld f then Jp f (ev P n S o)else stE
  |.Call (.Name x _) args [] _=>if S.gl x&&args.all Jw then Jrz P n S x args else stE
  |.Call (.Name x _) args (kw::kws) _=>Jsv P S (λS e=>ev P n S e) x args<|kw::kws
  |.Call (.Attribute o m ap) args [] p=>if args.all Jw&&QP o&&(ap.endLine==p.line)&&decide (args.length<30)then Ju2 P S m args.length o (aAll<|args.map<|ev P n S) (Jy6 P m args.length (Joe P S m o) (ev P n S o)<|aAll<|args.map<|ev P n S)else stE
  |.ListComp elt [⟨tg,iter,ifs,as⟩] sc _=>
   if as=0/\XL iter=Zg/\QM S.N (V4 sc) (QB sc) (jsOf S sc) S.fake sc=Zg then Jrh ifs (evT P n<|S.comp sc) λmt=>J1 (evI P n S tg iter) (V4 sc).length (jsOf S sc) (tgt P n (S.comp sc) tg) mt<|ev P n (S.comp sc) elt
   else stE
  |_=>stE
def evT(P:Pg):Nat->Sc->Expr->T1|0,_,_=>stT|n+1,S,e=>match e with|.UnaryOp .Not a _=>JK<|evT P n S a|.BoolOp .And O _=>J1d<|O.map<|evT P n S|.BoolOp .Or O _=>tOrs<|O.map<|evT P n S|.IfExp .. =>stT|.Compare a [o] [b] _=>if Zcs o b then stT else Jj asB (Jc (cmpD P.ne o b) (ev P n S a)<|ev P n S b)|.Compare a [o,o'] [b,c] _=>if ZdP [o,o'] [b,c]then stT else Jj asB (JJ (cmpI o) (cmpI o') (ev P n S a) (ev P n S b)<|ev P n S c)|.Compare .. =>stT|e=>Jj tru<|ev P n S e
def evO(P:Pg):Nat->Sc->Wv->O1|0,_,_=>stO|_+1,_,Zc=>V5|n+1,S,J e=>Qu<|ev P n S e
def Jrz(P:Pg):Nat->Sc->Str->Tf->E1|0,_,_,_=>stE|n+1,S,x,args=>match P.fn x with|some f=>Xk f args.length<|aAll<|args.map<|ev P n S|none=>match P.cls x with|some f=>Jop x f args.length<|aAll<|args.map<|ev P n S|none=>if P.free x then Jgb P S x (ev P n S) args else stE
def evI(P:Pg):Nat->Sc->Expr->Expr->I1|0,_,_,_=>stI|n+1,S,tg,e=>match e with
  |.Call (.Name x _) args [] _=>
   if S.gl x&&P.free x&&args.all Jw&&(x=="range")then J2w args.length (aAll<|args.map<|ev P n S)
   else if S.gl x&&P.free x&&args.all Jw&&(x=="enumerate")then(match tg,args with|.Tuple ..,[a]=>iRg QV<|Jb (ev P n S a) Je|_,_=>stI)
   else Jv (ev P n S e)
  |e=>Jv<|ev P n S e
def tgt(P:Pg):Nat->Sc->Expr->G1|0,_,_=>stG|n+1,S,e=>match e with|.Name x _=>(match S.sto x with|some i=>gNm i|none=>stG)|.Tuple es _ _=>if es.all Jw then gTp es.length (gAll<|es.map<|tgt P n S)else stG|.Subscript o i _=>if Xp i then gSbF o (ev P n S o) (ev P n S i)else stG|_=>stG
end
end
noncomputable def Xb (t:T1)(b:S1):Nat->S1|0,_,_=>.stuck|n+1,U,h=>match t U h with|.ok c h1=>if c then(match b U h1 with|.next W2 L=>Xb t b n W2 L|.cont W2 L=>Xb t b n W2 L|.brk W2 L=>.next W2 L|.ret v L=>.ret v L|.exc m W2 L=>(match L[m]? with|some (.exc _ _)=>.exc m W2 L|_=>.stuck)|_=>.stuck)else .next U h1|_=>.stuck
@[irreducible] def YJ:Nat:=1000000
def Jnr(o:Bool)(t:T1)(b:S1):S1:=match o with|true=>Xb t b YJ|false=>stS
def YB(t:T1)(b:S1):S1:=Jnr Zg t b
theorem Jl7(t:T1)(b:S1):YB t b=Xb t b YJ:=rfl
noncomputable def ipI:Zcx->IV->IV->IH->Res IV|.Add,.int i,.int j,h=>.ok (.int<|i+j) h|_,_,_,_=>.stuck
def sAug(op:Zcx)(i:Nat)(e:E1):S1:=λU h=>rS U (Ja i U h) λx h1=>rS U (e U h1) λy L=>rS U (ipI op x y L) λz h3=>.next (U.set i<|J z) h3
def XR(op:Zcx)(f:Str)(o e:E1):S1:=λU h=>rS U (o U h) λov h1=>match ov with|.ref i=>(match h1[i]? with|some (.ins _ fs)=>(match fs.lookup f with|some x=>rS U (e U h1) λy L=>rS U (ipI op x y L) λz h3=>(match h3[i]? with|some (.ins c gs)=>if gs.length<1000 then .next U (h3.set i<|.ins c<|putI f z gs)else .stuck|_=>.stuck)|none=>.stuck)|_=>.stuck)|_=>.stuck
def ixL:IV->IV->IH->Res IV
 |.ref i,.int k,h=>match h[i]? with
  |some (.lst xs)=>(match atI xs k with
   |some v=>if 0<=k then .ok v h else .stuck
   |none=>.stuck)
  |_=>.stuck
 |_,_,_=>.stuck
def XS(op:Zcx)(o k e:E1):S1:=λU h=>rS U (o U h) λov h1=>rS U (k U h1) λkv L=>rS U (ixL ov kv L) λx h3=>rS U (e U h3) λy h4=>rS U (ipI op x y h4) λz h5=>setI ov kv z U h5
def sAll:List S1->S1|[]=>Jr|[a]=>a|a::b::r=>Jf a<|sAll<|b::r
def J0g:Expr->Bool|.Tuple .. =>Zi|_=>Zg
def Jvq:Expr->Bool|.Tuple .. =>Zg|_=>Zi
def isLC:Expr->Bool|.ListComp .. =>Zg|_=>Zi
def Jvp:Expr->Bool|.Subscript .. =>Zg|_=>Zi
abbrev Xi:=Str->Option (Str->Ww)
def V0(g:Str->Ww):Ty->Ww|.exc c=>g c|_=>Zc
section
def Jzk(S:Sc)(xi:Xi)(fr:Str->Bool)(f:Expr)(as:Tf)(ks:Tp)(p:Pos)(m:Expr->E1):E1:=match f,as,ks with|.Name x _,[a,.Name D _],[]=>if x=="isinstance"&&fr x&&S.gl x&&S.gl D&&Jw a then(match xi D with|some g=>eIsi (V0 g)<|m a|none=>stE)else stE|_,_,_=>stE
def hv(xi:Xi)(xf:Str->Str->Bool)(fr:Str->Bool):Nat->Bool->Sc->Expr->E1|0,_,_,_=>stE|n+1,w,S,e=>match e with|.Constant c _ _=>evC c|.Name x _=>(match S.vis x with|some i=>Ja i|none=>stE)|.UnaryOp op a _=>eUn (unI op)<|hv xi xf fr n w S a|.BoolOp .And O _=>Ju1<|O.map<|hv xi xf fr n w S|.BoolOp .Or O _=>eOrs<|O.map<|hv xi xf fr n w S|.Tuple es _ _=>if es.all Jw then Jz (aAll<|es.map<|hv xi xf fr n w S)else stE|.Call f as ks p=>Jzk S xi fr f as ks p<|hv xi xf fr n w S|.Attribute o f _=>if QP o then Yu (xf f) f (hv xi xf fr n w S o)else stE|_=>stE
def hx(xi:Xi)(xf:Str->Str->Bool)(fr:Str->Bool)(w:Bool)(S:Sc):Nat->Zcg->S1|0,_=>stS|n+1,st=>match st with|.Pass _=>J0u|.Return (J e) _=>Jk<|hv xi xf fr n w S e|.Assign [.Name x _] e _=>if QW e then(match S.sto x with|some i=>Jh i<|hv xi xf fr n w S e|none=>stS)else stS|_=>stS
def hSl(S:Sc):Wx->Option (Ta)|none=>J Zc|some x=>if S.names.lookup x==J .local then(ixOf x S.N).map J else Zc
def Jxr(P:Pg)(S:Sc)(n:Nat)(sl:Ta)(suite:To):S1:=sAll<|suite.map<|hx P.xi P.xf P.free Zi S n
def hHd(P:Pg)(S:Sc)(n:Nat):Zcu->Option HdI|.ExceptHandler (J (.Name D _)) nm (b::suite) _=>if S.gl D then(match P.xi D,hSl S nm with|some g,J sl=>J (g,sl,Jxr P S n sl<|b::suite)|_,_=>Zc)else Zc|_=>Zc
def hHds(P:Pg)(S:Sc)(n:Nat):Tt->Option (Ts)|[]=>J []|h::r=>match hHd P S n h,hHds P S n r with|some q,J l=>J<|q::l|_,_=>Zc
end
def XiOk(K:W.Frag)(mg:Str->Tc)(xi:Xi)(xf:Str->Str->Bool):Prop:=(∀D g,xi D=J g->∃v,(mg D=J v\/(mg D=Zc/\Zbu D=J v)) /\ ∀c C b,g c=J b->W.nsIn K Zn c=J (J<|.ref C)->ExI K C/\W.kitOne K (.ref C) v=J b/\W.exmOne K (.ref C) v=J b) /\ ∀f c C,xf f c=Zg->W.nsIn K Zn c=J (J<|.ref C)->StoX K C f/\ExI K C/\W.findIn K (.ref C) f=J Zc
section
def Jnj(P:Pg)(S:Sc)(m:Expr->E1)(x:Str)(e:Expr):S1:=match P.xo x with|some f=>if S.gl x&&Jw e&&decide (f.np<=8)then(match f.fill 2 with|some d=>YA (λc=>c==x)<|Joo x f.run d<|aAll<|[e].map m|none=>stS)else stS|none=>stS
def Jr8(P:Pg)(S:Sc)(m:Expr->E1)(exc cause:Wv):S1:=match exc,cause with|some (.Call (.Name x _) [e] [] _),Zc=>if S.gl x&&P.rz x&&Jw e then VU x (Jb (m e) Je)else Jnj P S m x e|_,_=>stS
def hTry(P:Pg)(S:Sc)(n:Nat)(m:Zcg->S1)(body:To)(hs:Tt)(o f:To):S1:=match hs,o,f with|h::r,[],[]=>if S.own then(match hHds P S n (h::r)with|some ms=>sTry (sAll<|body.map m) ms|none=>stS)else stS|_,_,_=>stS
end
def J0t(P:Pg)(f:Str)(o e:E1):S1:=if P.fld f then JT f o e else Jwh (P.xf f) f o e
section
def ex(P:Pg):Nat->Sc->Zcg->S1|0,_,_=>stS|n+1,S,st=>match st with|.Pass _=>J0u|.Break _=>Jx4|.Continue _=>J4t|.Expr e _=>if QW e then JA (ev P n S e)else stS|.Return Zc _=>J4u|.Return (J e) _=>Jk<|ev P n S e|.If c a b _=>sIf (evT P n S c) (sAll<|a.map<|ex P n S)<|sAll<|b.map<|ex P n S|.While c a [] _=>Jnr S.own (evT P n S c)<|sAll<|a.map<|ex P n S|.For tg it a [] _=>if XL it&&S.own then sFor (evI P n S tg it) (tgt P n S tg) (sAll<|a.map<|ex P n S)else stS|.Assign [.Name x _] e _=>if QW e||isLC e then(match S.sto x with|some i=>Jh i<|ev P n S e|none=>stS)else stS|.Assign [.Attribute o f _] e _=>if QW e||isLC e then J0t P f (ev P n S o) (ev P n S e)else stS|.Assign [tg] e _=>if QW e&&((Jvq tg&&J0g e)||Jvp tg)then sAsg (ev P n S e) (tgt P n S tg)else stS|.Raise exc cause _=>Jr8 P S (ev P n S) exc cause|.Try body hs o f _=>hTry P S n (ex P n S) body hs o f|.AugAssign (.Name x _) op e _=>(match S.sto x with|some i=>sAug op i<|ev P n S e|none=>stS)|.AugAssign (.Attribute o f _) op e _=>if P.fld f then XR op f (ev P n S o) (ev P n S e)else stS|.AugAssign (.Subscript o k _) op e _=>if Xp k then XS op (ev P n S o) (ev P n S k) (ev P n S e)else stS|_=>stS
end
structure FnD(B:CeT)(prog:Z7)(w:ZU)(K:W.Frag)(mg:Str->Tc)(base:Zam)(k:Nat)(f:Fn)(fa:Zm)(fd:ZaK)(ps:Tl):Prop where
 len:ps.length=f.np
 ok:FnOk prog w K mg base (CXI prog w) k fa fd ps<|spI B K ps f.run
 dv:∀j,j<=f.dvs.length->∃ds,Qc K fd ps ds/\ds.length=f.dvs.length-j/\∃O,Vals O ds/\∀Y H,RVs K Y H (f.dvs.drop j) O
structure PgOk(B:CeT)(k:Nat)(P:Pg)(prog:Z7)(w:ZU)(K:W.Frag)(mg:Str->Tc)(base:Zam):Prop where
 fn:∀x f,P.fn x=J f->∃fa fd ps,mg x=J (.ref fa)/\W.keepIn K (.ref fa)=Zg/\FnD B prog w K mg base k f fa fd ps
 cls:∀x f,P.cls x=J f->∃C fa fd ps,mg x=J (.ref C)/\B x=J C/\Mk K C fa/\FnD B prog w K mg base k f fa fd ps
 meth:∀c m f,P.meth c m=J f->∃C fa fd ps,B c=J C/\Cls K C/\Meth K C m fa/\FnD B prog w K mg base k f fa fd ps
 con:∀x v,P.con x=J v->∃u y,mg x=J u/\RelV y u/\∀Y H,RV K Y H v y
 isa:∀D g,P.isa D=J g->∃c,mg D=J c/\IsOk B K c λt=>match t with|.ins c=>J (g c)|.exc _=>Zc|_=>J Zi
 fld:∀f,P.fld f=Zg->Yn B K f
 free:∀x,P.free x=Zg->mg x=Zc
 blt:∀q j,P.tabs q=J j->Q8 mg base
 rz:∀x,P.rz x=Zg->∃C,mg x=J (.ref C)/\W.nsIn K Zn x=J (J<|.ref C)/\XCls K C
 xi:XiOk K mg P.xi P.xf
 bas:∀x,P.bas x=Zg->∃C,mg x=J (.ref C)/\BasK K C
 wr:∀x r,P.wr x=J r->True
 ne:∀c,P.ne c=Zg->∃C,B c=J C/\neIn K C=Zg/\ClsI K C/\W.kitOne K (.ref C) (.type "list")=J Zi
 xo:∀x f,P.xo x=J f->∃C fa fd ps,mg x=J (.ref C)/\W.nsIn K Zn x=J (J<|.ref C)/\Qi K C fa=Zg/\W.keepIn K (.ref C)=Zg/\(∀h:Zam,K.In h->ExC h C)/\FnD B prog w K mg base k f fa fd ps
 xb:∀x,P.xb x=Zg->∃C,mg x=J (.ref C)/\BasX K C
structure Good(B:CeT)(k:Nat)(P:Pg)(S:Sc)(X:Cx):Prop where
 n:X.N=S.N
 sc:X.env.scope.names=S.names
 nd:S.N.Nodup
 fk:X.env.scope.kind=.function
 calm:X.calm=Zg
 room:Room (k+1) X.A
 st:S.own=Zg->∀x,X.fn x=Zg
 pg:PgOk B k P X.prog X.w X.K X.mg X.base
 code:S.own=Zg->W.codeIn X.K X.env.code S.q=Zg/\X.env.qual=S.q++".<locals>."
 room3:S.own=Zg->Room (k+3) X.A
 top:S.own=Zg->X.stack=X.env::X.outer/\X.env.frame=J X.env.locals
section
variable{B:CeT}{k:Nat}{P:Pg}{S:Sc}{X:Cx}{α β:Type}{R:REL α β}
theorem Jl{t:Sem β}:PX B X R t (λ_ _=>.stuck):=λ_ _ _ _ _ _ _ _ _ _ K=>(K).elim
theorem J7i(k:∀Z h,∃j,m Z h=j Z h/\PX B X R t j):PX B X R t m:=by intro V s U H Y Z h Q E N K;obtain⟨j,e,p⟩:=k Z h;rw[e]at K;exact p V s U H Y Z h Q E N K
theorem Y8:PIi B X tg e stI:=λ_ _ _ _ _ _ _ _ _ _ K=>(K).elim
theorem Y7:PGi B X e stG:=λ_ _ _ _ _ _ _ _ _ _ _ _ _ K=>(K).elim
theorem J8:PSi B X t stS:=λ_ _ _ _ _ _ _ _ _ _ K=>(K).elim
theorem Y2:∀{l:Tl}{i:Nat},ixOf x l=J i->l[i]?=J x
 |[],_,h=>by cases h
 |y::r,i,h=>by
  unfold ixOf at h;split at h
  .rename_i e;cases h;simp[beq_iff_eq.mp e]
  .obtain⟨j,k,rfl⟩:=Z3.mp h;simpa using Y2 k
theorem Good.kind(G:Good B k P S X)(x:Str):X.env.kindOf x=S.names.lookup x:=by show X.env.scope.names.lookup x=_;rw[G.sc]
theorem Good.vis(G:Good B k P S X)(h:S.vis x=J i):X.N[i]?=J x/\Vis X.env.scope x/\(x==("__debug__":Str))=Zi/\(x==("__classdict__":Str))=Zi:=by
 unfold Sc.vis at h;have fin:∀{o:Zbj},(o=.local\/o=.cell\/o=.free)->S.names.lookup x=J o->(if (x==("__debug__":Str)||x==("__classdict__":Str))=Zg then Zc else ixOf x S.N)=J i ->X.N[i]?=J x/\Vis X.env.scope x/\(x==("__debug__":Str))=Zi/\(x==("__classdict__":Str))=Zi:=λm e h=>by
  split at h
  .cases h
  .rename_i hd;have j:=ZbC.mpr hd;rw[Bool.or_eq_false_iff]at j;refine#[by rw[G.n];exact Y2 h,?_,j.1,j.2];unfold Vis;rw[G.sc,e];rcases m with rfl|rfl|rfl
   .exact .inl rfl
   .exact .inr<|.inl rfl
   .exact .inr<|.inr rfl
 cases e:S.names.lookup x with|none=>rw[e]at h;cases h|some o=>rw[e]at h;cases o with| «local» =>exact fin (.inl rfl) e h|cell=>exact fin (.inr<|.inl rfl) e h|free=>exact fin (.inr<|.inr rfl) e h|_=>cases h
theorem Good.gl(G:Good B k P S X)(h:S.gl x=Zg):Gl X x/\(x==("__debug__":Str))=Zi/\x≠"__name__":=by
 unfold Sc.gl at h;simp only[Zz,beq_iff_eq,ZbD]at h;refine#[?_,h.1.2,λe=>?_]
 .show X.env.kindOf x=_;rw[G.kind];exact h.1.1
 .lia
theorem Good.sto(G:Good B k P S X)(h:S.sto x=J i):X.N[i]?=J x/\Loc X.env.scope x/\(X.fn x=Zg\/X.env.scope.names.lookup x=J .local):=by
 unfold Sc.sto at h;unfold L2.Loc;rw[G.sc];cases e:S.names.lookup x with|none=>rw[e]at h;cases h|some o=>
  rw[e]at h;cases o with
  | «local» =>exact#[by rw[G.n];exact Y2 h,.inl rfl,.inr rfl]
  |cell=>
   dsimp only at h;split at h
   .rename_i j;exact#[by rw[G.n];exact Y2 h,.inr rfl,.inl<|G.st j x]
   .cases h
  |_=>cases h
theorem Good.nodup(G:Good B k P S X):X.N.Nodup:=by rw[G.n];exact G.nd
theorem Jy(h:Jw a=Zg):Z9 (a::es) env=(Zi,ZaQ a env)::Z9 es env:=by cases a<;>first|rfl|cases h
theorem VX{pos:Pos}{env:Env}:∀{es:Tf},es.all Jw=Zg->(Zbh pos<|Z9 es env).any (·.1)=Zi|[],_=>rfl|a::es,h=>by simp only[Zap,Zz]at h;rw[Jy h.1];show(Zi||(Zbh pos (Z9 es env)).any (·.1))=Zi;rw[VX h.2]<;>rfl
theorem Jhs:∀{es:Tf},es.all Jw=Zg->(Zbh pos<|Z9 es env).all (λx=>!x.1)=Zg|[],_=>rfl|a::es,h=>by simp only[Zap,Zz]at h;rw[Jy h.1];show(Zg&&(Zbh pos<|Z9 es env).all (λx=>!x.1))=Zg;rw[Jhs h.2]<;>rfl
theorem Jzn{es:Tf}(ha:es.all Jw=Zg)(hn:es.length<30):((Zbh pos<|Z9 es env).all (λx=>!x.1)&&(Zdy pos<|Zci [] env).all (λx=>x.1.isSome) && decide (es.length+([]:Tp).length+(if ([]:Tp).isEmpty then 0 else 1)<30))=Zg:=by show((Zbh pos<|Z9 es env).all (λx=>!x.1)&&Zg&&decide (es.length+0+0<30))=Zg;rw[Jhs ha];simpa using hn
theorem X3:∀(l:Tz),ALen l.length (aAll l)|[]=>Juo|_::r=>Jqy<|X3 r
theorem QL:∀{es:Tf},es.all Jw=Zg->(∀e,PEi B X e<|f e)->PAi B X es (aAll<|es.map f)|[],_,_=>Q9|a::es,h,hf=>by simp only[Zap,Zz]at h;exact Qy (hf a) (QL h.2 hf)<|Jy h.1
theorem Jrr(j:∀e,PEi B X e<|f e):∀(O:Tf),PEi B X (.BoolOp .And O pos) (Ju1<|O.map f)|[]=>Jl|[a]=>J3a<|j a|a::b::r=>J6q YI (j a)<|Jrr j<|b::r
theorem Jy8(j:∀e,PEi B X e<|f e):∀(O:Tf),PEi B X (.BoolOp .Or O pos) (eOrs<|O.map f)|[]=>Jl|[a]=>J3a<|j a|a::b::r=>i_or YI (j a)<|Jy8 j<|b::r
theorem Jx9(j:∀e,PTi B X e<|f e):∀(O:Tf),PWi B X (.BoolOp .And O pos) (J1d<|O.map f)|[]=>λ_=>Jl|[a]=>J1i<|j a|a::b::r=>J5f (j a)<|Jx9 j<|b::r
theorem J5b(j:∀e,PTi B X e<|f e):∀(O:Tf),PWi B X (.BoolOp .Or O pos) (tOrs<|O.map f)|[]=>λ_=>Jl|[a]=>J5g<|j a|a::b::r=>J7w (j a)<|J5b j<|b::r
theorem Jxq:∀{es:Tf},es.all Jw=Zg->(∀e,PGi B X e<|f e)->PGsi B X es (gAll<|es.map f)|[],_,_=>J2t|a::es,h,hf=>by simp only[Zap,Zz]at h;refine Jzj (hf a) (Jxq h.2 hf) ?_;cases a<;>first|rfl|exact absurd h.1 Zt
theorem Jxg:∀{es:Tf},es.all Jw=Zg->(ZaL es env).length=es.length
 |[],_=>rfl
 |a::es,h=>by
  simp only[Zap,Zz]at h;have:ZaL (a::es) env=(Zi,Zei a env)::ZaL es env:=by cases a<;>first|rfl|exact absurd h.1 Zt
  rw[this,Zar,Zar,Jxg h.2]
theorem Jq4{env:Env}:∀{es:Tf},es.all Jw=Zg->(ZaL es env).findIdx? (·.1)=Zc
 |[],_=>rfl
 |a::es,h=>by
  simp only[Zap,Zz]at h;have:ZaL (a::es) env=(Zi,Zei a env)::ZaL es env:=by cases a<;>first|rfl|exact absurd h.1 Zt
  rw[this,List.findIdx?_cons,Jq4 h.2];rfl
theorem J64(j:Zcx):OpI B X (ZaW j) (binI j):=by
 cases j with
 |Add=>exact J63
 |Sub=>exact J69
 |Mult=>exact J37
 |FloorDiv=>exact J36
 |Mod=>exact J66
 |Pow=>exact J68
 |_=>exact λ_ _ _ _ _ _ _ _ _ _ _ _ _ _ _ _ K=>(K).elim
theorem Y6(k:X.A.units+64<cLine)(j:CmpOp):OpI B X (Za0 j) (cmpI j):=by cases j with|Lt=>exact o_lt|LtE=>exact o_le|Gt=>exact o_gt|GtE=>exact o_ge|Eq=>exact o_eq k|NotEq=>exact o_ne k|Is=>exact o_is|IsNot=>exact J0h|_=>exact λ_ _ _ _ _ _ _ _ _ _ _ _ _ _ _ _ K=>(K).elim
theorem Jx1(k:X.A.units+64<cLine)(hn:∀c,ne c=Zg->∃C,B c=J C/\neIn X.K C=Zg)(j:CmpOp)(b:Expr):OpI B X (Za0 j) (cmpD ne j b):=by
 unfold cmpD;split
 .split
  .exact J65
  .exact λ_ _ _ _ _ _ _ _ _ _ _ _ _ _ _ _ K=>(K).elim
 .exact Y6 k j
theorem J74(a:Expr):SlI B X (slD a):=by
 unfold slD;split
 .exact J75
 .exact x_sl
theorem J73(a:Expr):IxI B X (ixD a):=by
 unfold ixD;split
 .exact J72
 .exact x_ix
theorem o_un(j:UnaryOp):UnI B X (unaryOp j) (unI j):=by cases j with|Not=>exact J1j YI|USub=>exact J7x|_=>exact λ_ _ _ _ _ _ _ _ _ _ _ _ _ K=>(K).elim
theorem Yp(h:QP o=Zg):Zcq o m env w=w:=by
 cases o with
 |Call f k j p=>
  cases f with
  |Name x q=>
   cases k with
   |nil=>cases j with|nil=>cases h|cons _ _=>rfl
   |cons _ _=>rfl
  |_=>rfl
 |_=>rfl
theorem Yz(h:XL e=Zg)(x:Zh):Zcd e env x=pure x:=by cases e<;>first|rfl|cases h
theorem YH(h:QW e=Zg):ZcT e t l env=pure Zi:=by cases e<;>first|rfl|cases h
theorem Jvt(h:Xp i=Zg):Jqw i:=λ_ _=>by cases i<;>first|rfl|cases h
theorem Je3{o:Expr}{m:Str}{ap pos:Pos}{es:Tf}{env:Env}(B:QP o=Zg)(hs:es.all Jw=Zg)(u:(ap.endLine==pos.line)=Zg)(hn:es.length<30):ZaQ (.Call (.Attribute o m ap) es [] pos) env=(do
   let ov<-ZaQ o env
   Zeh ap.atName
   let (f,first)<-Zcb [ov] (Zdr ov m (do return(<-importBound o env).getD Zg))
   ZeZ pos f first (Zbh pos<|Z9 es env) (Zdy pos<|Zci [] env)):=by
 have j:methodCallForm (es.length+([]:Tp).length) (Zbh pos<|Z9 es env) (Zdy pos<|Zci [] env)=Zg:=by show((Zbh pos<|Z9 es env).all (λx=>!x.1)&&Zg&&decide (es.length+0+0<30))=Zg;rw[Jhs hs];simpa using hn
 have k:methodCallPos Zg o env ap pos=pure pos:=by unfold methodCallPos;simp[u]
 rw[arm_eval_Call,Yp B];unfold methodCall;rw[j,k];rfl
end
section
variable{B:CeT}{k:Nat}{P:Pg}{S:Sc}{X:Cx}
theorem Jlg(G:Good B k P S X)(j l c:Tl)(js:Tr)(sc:Zbm):QM j l c js X.env.scope sc=QM j l c js S.fake sc:=by unfold QM;rw[G.fk,G.sc];rfl
theorem Good.comp(G:Good B k P S X){sc:Zbm}(h:QM S.N (V4 sc) (QB sc) (jsOf S sc) S.fake sc=Zg)(C:Zm)(s:Zl)(H:Hp)(fp:Tw):Good B k P (S.comp sc) (cxC X (V4 sc++QB sc) sc C s H fp):=by
 simp only[QM,Zz,decide_eq_true_eq]at h;obtain⟨⟨⟨⟨⟨⟨⟨⟨⟨kF,kF0⟩,kNC⟩,kL⟩,kFr⟩,kFx⟩,kJ⟩,kLen⟩,kNd⟩,kLo⟩:=h;refine#[rfl,?_,kNd,kF,G.calm,G.room,λz=>absurd z Zt,G.pg,λz=>absurd z Zt,λz=>absurd z Zt,λz=>absurd z Zt];show(relabel sc X.env).names=_;unfold relabel Sc.comp;dsimp only;refine Zdl λx _=>?_
 obtain⟨n,j⟩:=x;dsimp only;rw[G.fk,G.kind];simp
end
structure Snd(B:CeT)(k:Nat)(P:Pg)(n:Nat):Prop where
 e:∀S X e,Good B k P S X->PEi B X e (ev P n S e)
 t:∀S X e,Good B k P S X->PTi B X e (evT P n S e)
 o:∀S X e,Good B k P S X->PPi B X e (evO P n S e)
 c:∀S X x args p pos,Good B k P S X->S.gl x=Zg->args.all Jw=Zg->PEi B X (.Call (.Name x p) args [] pos) (Jrz P n S x args)
 i:∀S X tg e,Good B k P S X->PIi B X tg e (evI P n S tg e)
 g:∀S X e,Good B k P S X->PGi B X e (tgt P n S e)
section
variable{B:CeT}{k:Nat}{P:Pg}{n:Nat}{S:Sc}{X:Cx}
theorem Jww:Snd B k P 0:=#[λ_ _ _ _=>Jl,λ_ _ _ _=>Jl,λ_ _ _ _=>Jl,λ_ _ _ _ _ _ _ _ _=>Jl,λ_ _ _ _ _=>Y8,λ_ _ _ _=>Y7]
theorem Ys{prog:Z7}{w:ZU}{K:W.Frag}{mg:Str->Tc}{base:Zam}{f:Fn}{fa:Zm}{fd:ZaK}{ps:Tl}{m:Nat}{d:Tx}(D:FnD B prog w K mg base k f fa fd ps)(h:f.fill m=J d):∃ds,Qc K fd ps ds/\m+ds.length=ps.length/\∃O,Vals O ds/\∀Y H,RVs K Y H d O:=by
 unfold Fn.fill at h;split at h
 .rename_i C;cases h;obtain⟨ds,u,j,q⟩:=D.dv (f.dvs.length-(f.np-m)) 05;exact#[ds,u,by rw[j,D.len];lia,q]
 .cases h
theorem Jwr(G:Good B k P S X)(hx:P.fn x=J f)(L:S.gl x=Zg){args:Tf}(ha:args.all Jw=Zg)(H:∀e,PEi B X e<|g e){p pos:Pos}:PEi B X (.Call (.Name x p) args [] pos) (Xk f args.length<|aAll<|args.map g):=by
 obtain⟨Q,O,ps,hm,C,D⟩:=G.pg.fn x f hx;obtain⟨gl,m,_⟩:=G.gl L;unfold Xk;cases hd:f.fill args.length with|none=>exact Jl|some d=>obtain⟨ds,F,u,q⟩:=Ys D hd;have E:=G.room.mono<|Zay k;cases args with|nil=>exact Jzs D.ok E gl hm C F q (by simpa using u) m|cons a M=>have j:=ha;simp only[Zap,Zz]at j;refine J2y D.ok E gl hm C F q (QL ha H) (λU h xs I e=>?_) m (Jy j.1)<|VX j.2;have:=X3 _ U h xs I e;rw[Zj]at this;rw[this];exact u
theorem Jws(G:Good B k P S X)(hx:P.cls x=J f)(L:S.gl x=Zg){args:Tf}(ha:args.all Jw=Zg)(H:∀e,PEi B X e<|g e){p pos:Pos}:PEi B X (.Call (.Name x p) args [] pos) (Jop x f args.length<|aAll<|args.map g):=by
 obtain⟨C,R,Q,ps,hm,u,M,D⟩:=G.pg.cls x f hx;obtain⟨gl,m,_⟩:=G.gl L;unfold Jop;cases hd:f.fill (args.length+1)with|none=>exact Jl|some d=>obtain⟨ds,E,F,q⟩:=Ys D hd;cases args with|nil=>exact Jzv M D.ok u G.room gl hm E q (by simp at F;lia) m|cons a O=>have j:=ha;simp only[Zap,Zz]at j;refine J25 M D.ok u G.room gl hm E q (QL ha H) (λU h xs I e=>?_) m (Jy j.1)<|VX j.2;have:=X3 _ U h xs I e;rw[Zj]at this;lia
theorem Jro(G:Good B k P S X)(m:Str)(n:Nat):Jqv B X m n (JI P m n):=by
 intro c f dvs h;unfold JI at h;cases hm:P.meth c m with|none=>rw[hm]at h;cases h|some fn=>rw[hm]at h;dsimp only at h;cases hd:fn.fill (n+1)with|none=>rw[hd]at h;cases h|some d=>rw[hd]at h;cases h;obtain⟨C,I,E,ps,F,j,u,D⟩:=G.pg.meth c m fn hm;obtain⟨ds,H,L,q⟩:=Ys D hd;exact#[C,I,E,k,ps,ds,F,j,u,D.ok,G.room.mono<|Zay k,H,q,05]
theorem J59(h:bmOf T m n=J g):∃id,PlainAttrs T/\Slot T m id/\Zej (.builtin id)=pure (.type "method_descriptor")/\MtI B X T id g:=by
 unfold bmOf at h;split at h
 .rename_i hm;simp at hm;obtain⟨⟨rfl,rfl⟩,_⟩:=hm;cases h;exact#[_,ZcD,PySem.F.slot_list_append,PySem.F.type_list_append,Jvz]
 .split at h
  .rename_i hm;simp at hm;obtain⟨⟨rfl,rfl⟩,_⟩:=hm;cases h;exact#[_,ZcD,PySem.F.slot_list_pop,PySem.F.type_list_pop,J3y]
  .split at h
   .rename_i hm;simp at hm;obtain⟨⟨rfl,rfl⟩,_⟩:=hm;cases h;exact#[_,ZcD,PySem.F.slot_list_remove,PySem.F.type_list_remove,Jv0]
   .split at h
    .rename_i hm;simp at hm;obtain⟨⟨rfl,rfl⟩,_⟩:=hm;cases h;exact#[_,PySem.F.plainAttrs_str,PySem.F.slot_str_join,PySem.F.type_str_join,J3x]
    .split at h
     .rename_i hm;simp at hm;obtain⟨⟨rfl,rfl⟩,_⟩:=hm;cases h;exact#[_,PySem.F.plainAttrs_dict,Zde,PySem.F.type_dict_setdefault,Jv1]
     .cases h
theorem J47{o:Expr}{m:Str}{mo:E1}{args:Tf}{f:Expr->E1}{ap pos:Pos}{T:String}{g:IV->Tx->IH->Res IV}{n:Nat}(H:bmOf T m n=J g)(E:PEi B X o mo)(G:∀e,PEi B X e<|f e)(ha:args.all Jw=Zg)(F:QP o=Zg)(k:(ap.endLine==pos.line)=Zg)(hn:args.length<30):PEi B X (.Call (.Attribute o m ap) args [] pos) (eBm T g mo<|aAll<|args.map f):=by obtain⟨id,C,D,ty,u⟩:=J59 H;cases args with|nil=>exact J6s C D ty u E (Yp F) k|cons a I=>have j:=ha;simp only[Zap,Zz]at j;exact i_bm C D ty u E (QL ha G) (Yp F) (Jzn ha hn) k (Jy j.1)<|VX j.2
theorem J05(G:Good B k P S X){o:Expr}{m:Str}{mo:E1}{args:Tf}{f:Expr->E1}{ap pos:Pos}(C:PEi B X o mo)(E:∀e,PEi B X e<|f e)(ha:args.all Jw=Zg)(D:QP o=Zg)(u:(ap.endLine==pos.line)=Zg)(hn:args.length<30):PEi B X (.Call (.Attribute o m ap) args [] pos) (Jq P m args.length mo<|aAll<|args.map f):=by
 refine J7i λZ h=>?_
 unfold Jq;cases e:mo Z h with|exc n F=>exact#[λ_ _=>.stuck,rfl,Jl]|stuck=>exact#[λ_ _=>.stuck,rfl,Jl]|ok v F=>
  dsimp only;split
  .refine#[_,rfl,?_];cases args with|nil=>exact Jzx C (Jro G m 0)<|Je3 D ha u hn|cons a H=>have j:=ha;simp only[Zap,Zz]at j;refine J27 C (Jro G m (a::H).length) (QL ha E) (λU h xs I e=>?_) (Jy j.1) (VX j.2)<|Je3 D ha u hn;have:=X3 _ U h xs I e;rwa [Zj]at this
  .cases L:bmOf (tyS v F) m args.length with|none=>exact#[λ_ _=>.stuck,rfl,Jl]|some g=>exact#[_,rfl,J47 L C E ha D u hn]
theorem Jwo(G:Good B k P S X){o:Expr}{m:Str}{mo:E1}{args:Tf}{f:Expr->E1}{ap pos:Pos}(ho:PEi B X o mo)(O:∀e,PEi B X e<|f e)(ha:args.all Jw=Zg)(Q:QP o=Zg)(R:(ap.endLine==pos.line)=Zg)(hn:args.length<30):PEi B X (.Call (.Attribute o m ap) args [] pos) (Jy6 P m args.length (Joe P S m o) mo<|aAll<|args.map f):=by
 cases F:Joe P S m o with|none=>exact J05 G ho O ha Q R hn|some g=>
  cases o with
  |Name x q=>
   have j:(if m=="__init__"&&S.gl x&&P.bas x then P.cls x else Zc)=J g:=F;clear F;split at j
   .rename_i V;simp at V;obtain⟨⟨rfl,hg⟩,hx⟩:=V;obtain⟨C,fa,fd,ps,hm,hC,M,D⟩:=G.pg.cls x g j;obtain⟨C',E,cS⟩:=G.pg.bas x hx;rw[hm]at E;cases E;obtain⟨gl,I,_⟩:=G.gl hg;show PEi B X _ (if args.length=0 then stE else Xk g args.length (aAll<|args.map f));split
    .exact Jl
    rename_i Y;unfold Xk;cases hd:g.fill args.length with|none=>exact Jl|some d=>obtain⟨ds,L,H,q⟩:=Ys D hd;have Z:Room k X.A:=G.room.mono<|Zay k;cases args with|nil=>exact absurd rfl Y|cons a es=>have u:=ha;simp only[Zap,Zz]at u;refine J2x D.ok Z gl hm cS M L q (QL ha O) (λU h xs W e=>?_) I (Jy u.1) (VX u.2)<|Je3 Q ha R hn;have:=X3 _ U h xs W e;rw[Zj]at this;rw[this];exact H
   .cases j
  |_=>cases F
theorem Jtw(G:Good B k P S X){o:Expr}{m:Str}{e:E1}{args:Tf}{f:Expr->E1}{ap pos:Pos}(V:PEi B X (.Call (.Attribute o m ap) args [] pos) e)(L:∀e,PEi B X e<|f e)(ha:args.all Jw=Zg)(W:QP o=Zg)(I:(ap.endLine==pos.line)=Zg)(hn:args.length<30):PEi B X (.Call (.Attribute o m ap) args [] pos) (Ju2 P S m args.length o (aAll<|args.map f) e):=by
 unfold Ju2;split
 .rename_i u;cases o with
  |Name x q=>simp only[Jyw,Zz,beq_iff_eq,decide_eq_true_eq]at u;obtain⟨⟨⟨rfl,E⟩,hx⟩,O⟩:=u;obtain⟨D,hm,M⟩:=G.pg.xb x hx;obtain⟨gl,F,_⟩:=G.gl E;cases args with|nil=>exact absurd rfl O|cons a es=>have j:=ha;simp only[Zap,Zz]at j;refine Jzr (λc C Q U=>?_) gl hm M (QL ha L) F (Jy j.1) (VX j.2)<|Je3 W ha I hn;obtain⟨g,E⟩:=ZaR.mp Q;obtain⟨Z,Y,fd,ps,_,H,R,_⟩:=G.pg.xo c g E;rw[U]at H;cases H;exact#[Y,R]
  |_=>simp[Jyw]at u
 .exact V
theorem J06(G:Good B k P S X){a:Expr}{ma:E1}{y:Str}{p p2 pos:Pos}(ha:PEi B X a ma)(hs:Jw a=Zg)(M:S.gl "isinstance"=Zg)(H:P.free "isinstance"=Zg)(U:S.gl y=Zg):
  PEi B X (.Call (.Name "isinstance" p) [a,.Name y p2] [] pos) (Jy7 (Jup P y) ma):=by
 unfold Jy7;cases e:Jup P y with|none=>exact Jl|some D=>
  obtain⟨m,j,u⟩:=G.gl U;have fin:∀{c:Zh},ClsE X (.Name y p2) c->IsOk B X.K c D->PEi B X (.Call (.Name "isinstance" p) [a,.Name y p2] [] pos) (eIsi D ma):=λQ E=>
   J24 Q E ha (G.gl M).1 (G.pg.free _ H) rfl (Jy hs) rfl rfl
  unfold Jup at e;cases F:P.isa y with|some g=>rw[F]at e;cases e;obtain⟨c,hm,E⟩:=G.pg.isa y g F;exact fin (Jm7 m hm j) E|none=>
   rw[F]at e;dsimp only at e;split at e
   .rename_i I;have hm:=G.pg.free y I;split at e
    .rename_i q;cases (beq_iff_eq.mp q);cases e;exact fin (Xj m hm rfl u j) Jvm
    .split at e
     .rename_i q;cases (beq_iff_eq.mp q);cases e;exact fin (Xj m hm rfl u j) Jsp
     .split at e
      .rename_i q;cases (beq_iff_eq.mp q);cases e;exact fin (Xj m hm rfl u j) Jvn
      .split at e
       .rename_i q;cases (beq_iff_eq.mp q);cases e;refine fin (Xj m hm rfl u j) ?_;split
        .rename_i q;refine Jp5 λC R=>?_
         obtain⟨V,O,_,L⟩:=G.pg.ne _ q;cases R.symm.trans O;exact L
        .exact Jlz
       .split at e
        .rename_i q;cases (beq_iff_eq.mp q);cases e;exact fin (Xj m hm rfl u j) Jvo
        .cases e
   .cases e
theorem Jwp(G:Good B k P S X){a:Expr}{ma:E1}{x:Str}{p pos:Pos}(ha:PEi B X a ma)(hs:Jw a=Zg)(F:S.gl x=Zg)(E:P.free x=Zg)(hx:Jsn x=Zg):
  PEi B X (.Call (.Name x p) [a] [] pos) (eCB (bltF x)<|Jb ma Je):=by
 obtain⟨m,j,u⟩:=G.gl F;have hm:=G.pg.free x E;have D:=G.room.hd;have C:=Qy ha Q9<|Jy hs;unfold Jsn at hx;simp at hx;rcases hx with((((rfl|rfl)|rfl)|rfl)|rfl)|rfl
 .exact V2 J6b m hm rfl C u j (Jy hs) rfl
 .exact V2 (J6a D) m hm rfl C u j (Jy hs) rfl
 .exact V2 (J6e D) m hm rfl C u j (Jy hs) rfl
 .exact V2 Juu m hm rfl C u j (Jy hs) rfl
 .exact V2 (J2g D) m hm rfl C u j (Jy hs) rfl
 .exact V2 (J2f D) m hm rfl C u j (Jy hs) rfl
theorem Jwq(G:Good B k P S X){a:Expr}{ma:E1}{x:Str}{p pos:Pos}(ha:PEi B X a ma)(hs:Jw a=Zg)(E:S.gl x=Zg)(D:P.free x=Zg)(hx:Jso x=Zg):PEi B X (.Call (.Name x p) [a] [] pos) (eCB (bltT x)<|Jb ma Je):=by
 obtain⟨m,j,u⟩:=G.gl E;have hm:=G.pg.free x D;have C:=Qy ha Q9<|Jy hs;unfold Jso at hx;simp at hx;rcases hx with(rfl|rfl)|rfl
 .exact Jnk J2e m hm rfl C u j (Jy hs) rfl
 .exact Jnk Jyz m hm rfl C u j (Jy hs) rfl
 .exact Jnk J2c m hm rfl C u j (Jy hs) rfl
theorem Jtx(G:Good B k P S X)(C:∀e,PEi B X e<|f e){args:Tf}{p pos:Pos}(E:S.gl x=Zg)(ha:args.all Jw=Zg)(m:P.free x=Zg):
  PEi B X (.Call (.Name x p) args [] pos) (Jm4 P S x f args):=by
 unfold Jm4;split
 .rename_i a b;simp only[Zap,Zz]at ha;obtain⟨L,F,O⟩:=G.gl E;have hm:=G.pg.free x m;have Q:=Qy (C a) (Qy (C b) Q9<|Jy ha.2.1)<|Jy ha.1;have M:∀pos,(Zbh pos<|Z9 [b] X.env).any (·.1)=Zi:=λpos=>VX<|by simp[ha.2.1]
  split
  .rename_i D;cases (beq_iff_eq.mp D);exact V2 (J6c G.calm) L hm rfl Q O F (Jy ha.1) (M _)
  .split
   .rename_i D;cases (beq_iff_eq.mp D);exact V2 (J6d G.calm) L hm rfl Q O F (Jy ha.1) (M _)
   .split
    .rename_i y V _;split
     .rename_i D;simp only[Zz,beq_iff_eq]at D;obtain⟨rfl,U⟩:=D;exact J06 G (C a) ha.1 E m U
     .exact Jl
    .exact Jl
 .rename_i a;simp only[Zap,Zz]at ha;split
  .rename_i e j;split at j
   .rename_i H;simp only[Zz,beq_iff_eq]at H;obtain⟨⟨rfl,g2⟩,R⟩:=H;unfold Jo4 at j;split at j
    .split at j
     .rename_i u;simp only[Zz,beq_iff_eq]at u;obtain⟨rfl,ns⟩:=u;cases j;exact Jvh G.room.hd (G.gl E).1 (G.pg.free _ m) (G.gl g2).1 (G.pg.free _ R) (Qy (C e) Q9<|Jy ns) (Jy ns)
     .cases j
    .cases j
   .cases j
  .split
   .rename_i e j;split at j
    .rename_i H;simp only[Zz,beq_iff_eq]at H;obtain⟨⟨rfl,g2⟩,R⟩:=H;unfold Jo1 at j;split at j
     .split at j
      .rename_i u;simp only[Zz,beq_iff_eq]at u;obtain⟨rfl,ns⟩:=u;cases j;exact Jl
      .cases j
     .cases j
    .cases j
   .split
    .rename_i u;simp only[Zz,beq_iff_eq]at u;obtain⟨rfl,_⟩:=u;exact V2 J2d (G.gl E).1 (G.pg.free _ m) rfl (Qy (C a) Q9<|Jy ha.1) 01 rfl (Jy ha.1) rfl
    split
    .rename_i I;exact Jwp G (C a) ha.1 E m I
    .split
     .rename_i I;exact Jwq G (C a) ha.1 E m I
     .exact Jl
 .exact Jl
theorem Jql(G:Good B k P S X)(C:∀e,PEi B X e<|f e){args:Tf}{p pos:Pos}(E:S.gl x=Zg)(ha:args.all Jw=Zg)(m:P.free x=Zg):PEi B X (.Call (.Name x p) args [] pos) (Jgb P S x f args):=by
 unfold Jgb;split
 .rename_i e j;split at j
  .rename_i u;simp at u;obtain⟨⟨rfl,g2⟩,F⟩:=u;unfold Jts at j;split at j
   .unfold Jo4 at j;split at j
    .split at j
     .rename_i D;simp at D;obtain⟨rfl,ns⟩:=D;cases j;exact Jsi G.room.hd (G.gl E).1 (G.pg.free _ m) (G.gl g2).1 (G.pg.free _ F) (Qy (C e) Q9<|Jy ns) (Jy ns)
     .cases j
    .cases j
   .cases j
  .cases j
 .exact Jtx G C E ha m
theorem Qs.of(G:Good B k P S X)(h:Qs S y sc=Zg):LamSc X.N X.env.scope.names y (QB sc) (jsOf S sc) sc:=by rw[G.n,G.sc];simp only[Qs,Zz,beq_iff_eq,ZbD,decide_eq_true_eq,ZaY,Zb8,beq_eq_false_iff_ne]at h;obtain⟨⟨⟨⟨⟨⟨⟨h1,L⟩,h3⟩,h4⟩,h5⟩,h6⟩,h7⟩,h8⟩:=h;refine#[h1,L,h3,h4,h5,λz C e=>(h6 z C).resolve_left λq=>q e,λz e=>Zak e,λi j z m u=>?_,by simp[jsOf],h8];unfold jsOf at m;rw[Z4,u]at m;cases m;exact h7 z<|Zb9 u
theorem Good.lam(G:Good B k P S X)(m:S.own=Zg){y:Str}{sc:Zbm}(h:Qs S y sc=Zg)(f:Zm)(cd:Zh)(s:Zl)(H:Hp):Good B k P (S.lam y sc) (cxL X X.A.in1 (y::QB sc) S.q sc f cd s H):=by have j:=Qs.of G h;exact#[rfl,rfl,j.nd,j.kind,rfl,(G.room3 m).in1.deeper _,λz=>absurd z Zt,G.pg,λz=>absurd z Zt,λz=>absurd z Zt,λz=>absurd z Zt]
theorem Good.lam2(G:Good B k P S X)(m:S.own=Zg){y:Str}{sc:Zbm}(h:Qs S y sc=Zg)(f:Zm)(cd:Zh)(s:Zl)(H:Hp):Good B k P (S.lam y sc) (cxL X X.A.in1.in1 (y::QB sc) S.q sc f cd s H):=by
 have j:=Qs.of G h;have R:=G.room3 m;refine#[rfl,rfl,j.nd,j.kind,rfl,#[R.hd,?_,?_],λz=>absurd z Zt,G.pg,λz=>absurd z Zt,λz=>absurd z Zt,λz=>absurd z Zt]
 .have:=R.dp;show X.A.depth+1+3*(k+1)+5<_;lia
 .have:=R.un;show X.A.units+1+1+3+16*(k+1)+200<_;lia
theorem Jty(G:Good B k P S X)(u:∀S X e,Good B k P S X->PEi B X e (f S e)):PEi B X (.Call (.Name x p) [a] [#[J y,d,kp]] pos) (J49 P S f x a y d):=by
 cases d with
 |Lambda ps m sc I=>
  show PEi B X _ (match Q6 ps,P.tabs S.q with|some z,J j=>if x=="sorted"&&y=="key"&&S.gl x&&P.free x&&Jw a&&S.own&&Qs S z sc then XC S.q j (jsOf S sc) (Jb (f S a) Je) (f (S.lam z sc) m)else stE|_,_=>stE);cases F:Q6 ps with|none=>exact Jl|some z=>
   cases E:P.tabs S.q with|none=>exact Jl|some j=>
    dsimp only;split
    .rename_i C;simp at C;obtain⟨⟨⟨⟨⟨⟨rfl,rfl⟩,g1⟩,f1⟩,ns⟩,ho⟩,ok⟩:=C;exact Jzz (G.gl g1).1 (G.pg.free _ f1) (Qy (u _ _ _ G) Q9<|Jy ns) (Jy ns) (G.room3 ho) (G.code ho).1 (G.code ho).2 (G.pg.blt _ _ E) F (Qs.of G ok) λf cd D H=>u _ _ _<|G.lam2 ho ok f cd D H
    .exact Jl
 |_=>exact Jl
theorem Jqm(G:Good B k P S X)(C:∀S X e,Good B k P S X->PEi B X e (f S e)):PEi B X (.Call (.Name x p) [a] [#[J y,.Lambda ps body sc lp,kp],#[J y2,d,kp2]] pos) (Jtz P S f x a y ps body sc y2 d):=by
 unfold Jtz;split
 .rename_i e z j m H F;split
  .rename_i D;simp at D;obtain⟨⟨⟨⟨⟨⟨⟨⟨⟨rfl,rfl⟩,rfl⟩,ht⟩,g1⟩,f1⟩,g2⟩,f2⟩,ho⟩,ok⟩:=D;unfold Jo1 at m;unfold J3e at ht;split at m
   .split at m
    .rename_i u;simp at u;obtain⟨rfl,ns⟩:=u;cases m;split at ht
     .exact Jvj G.room.hd (G.gl g1).1 (G.pg.free _ f1) (G.gl g2).1 (G.pg.free _ f2) (Qy (C _ _ _ G) Q9<|Jy ns) (Jy ns) (G.room3 ho) (G.code ho).1 (G.code ho).2 (G.pg.blt _ _ F) H (Qs.of G ok) λf cd E I=>C _ _ _<|G.lam2 ho ok f cd E I
     .cases ht
    .cases m
   .cases m
  .exact Jl
 .exact Jl
theorem Jwt(G:Good B k P S X)(u:∀S X e,Good B k P S X->PEi B X e (f S e)):PEi B X (.Call (.Name x p) [a] [#[J y,d,kp]] pos) (minK P S f x a y d):=by
 cases d with
 |Lambda ps m sc I=>
  show PEi B X _ (match Q6 ps,P.tabs S.q with|some z,J j=>if x=="min"&&y=="key"&&S.gl x&&P.free x&&Jw a&&S.own&&Qs S z sc then XB ltT S.q j (jsOf S sc) (Jb (f S a) Je) (f (S.lam z sc) m)else stE|_,_=>stE);cases F:Q6 ps with|none=>exact Jl|some z=>
   cases E:P.tabs S.q with|none=>exact Jl|some j=>
    dsimp only;split
    .rename_i C;simp at C;obtain⟨⟨⟨⟨⟨⟨rfl,rfl⟩,g1⟩,f1⟩,ns⟩,ho⟩,ok⟩:=C;exact J28 (G.gl g1).1 (G.pg.free _ f1) (Qy (u _ _ _ G) Q9<|Jy ns) (λA h=>Jy0 05) (Jy ns) (G.room3 ho) (G.code ho).1 (G.code ho).2 (G.pg.blt _ _ E) F (Qs.of G ok) λf cd D H=>u _ _ _<|G.lam ho ok f cd D H
    .exact Jl
 |_=>exact Jl
theorem J48(G:Good B k P S X)(j:∀S X e,Good B k P S X->PEi B X e (f S e)):PEi B X (.Call (.Name x p) args kws pos) (Jsv P S f x args kws):=by
 unfold Jsv;split
 .split
  .rename_i m;simp at m;obtain⟨⟨⟨⟨rfl,rfl⟩,g1⟩,f1⟩,ns⟩:=m;exact J26 G.room.hd (G.gl g1).1 (G.pg.free _ f1) (Qy (j _ _ _ G) Q9<|Jy ns) (j _ _ _ G) (Jy ns)
  .split
   .exact Jty G j
   .exact Jwt G j
 .exact Jqm G j
 .exact Jl
theorem Jwv(I:Snd B k P n):Snd B k P (n+1):=by
 refine#[λS X e G=>?_,λS X e G=>?_,λS X e G=>?_,λS X x E p pos G Q ha=>?_,λS X U e G=>?_,λS X e G=>?_]
 .have D:=λe=>I.e S X e G
  have hu:=G.room.units;cases e with
  |Constant c j p=>cases c with|int i=>exact J23|bool b=>exact i_bl|none=>exact J29|str x=>exact J3b|_=>exact Jl
  |Name x p=>
   show PEi B X (.Name x p) (match S.vis x with|some i=>Ja i|none=>if S.gl x then(match P.con x with|some v=>eC v|none=>stE)else stE);cases hv:S.vis x with|some i=>obtain⟨h1,L,h3,h4⟩:=G.vis hv;exact J3d i h1 L h3 h4|none=>
    dsimp only;split
    .rename_i Q;obtain⟨gx,xdb,_⟩:=G.gl Q;cases hc:P.con x with|none=>exact Jl|some v=>obtain⟨u,y,hm,r,q⟩:=G.pg.con x v hc;exact J22 gx hm r q xdb
    .exact Jl
  |BinOp a R b p=>exact J6r (J64 R) (D a)<|D b
  |UnaryOp R a p=>exact i_un (o_un R)<|D a
  |BoolOp R O p=>cases R with|And=>exact Jrr D O|Or=>exact Jy8 D O
  |IfExp t a b p=>exact Jzu (I.t S X t G) (D a)<|D b
  |Compare a ops cs p=>
   match ops,cs with
   |[o],[b]=>
    show PEi B X _ (if Zcs o b then stE else Jc (cmpD P.ne o b) (ev P n S a) (ev P n S b));split
    .exact Jl
    .rename_i Y;exact J6t (Jx1 hu (λc z=>let ⟨C,p,q,_⟩:=G.pg.ne c z;#[C,p,q]) o b) (D a) (D b)<|ZbC.mpr Y
   |[o,o'],[b,c]=>
    show PEi B X _ (if ZdP [o,o'] [b,c]then stE else JJ (cmpI o) (cmpI o') (ev P n S a) (ev P n S b) (ev P n S c));split
    .exact Jl
    .rename_i Y;exact Jzt (Y6 hu o) (Y6 hu o') (D a) (D b) (D c)<|ZbC.mpr Y
   |[],_=>exact Jl
   |[_],[]=>exact Jl
   |[_],_::_::_=>exact Jl
   |[_,_],[]=>exact Jl
   |[_,_],[_]=>exact Jl
   |[_,_],_::_::_::_=>exact Jl
   |_::_::_::_,_=>exact Jl
  |JoinedStr M p=>match M with|a::b::r=>exact J6w D|[]=>exact Jl|[_]=>exact Jl
  |FormattedValue a c sp p=>
   cases sp with
   |none=>
    show PEi B X _ (if c=-1 then eUn fmtI (ev P n S a)else stE);split
    .rename_i hc;subst hc;exact J6v<|D a
    .exact Jl
   |some _=>exact Jl
  |Tuple M j p=>
   show PEi B X _ (if M.all Jw then Jz (aAll<|M.map<|ev P n S)else stE);split
   .rename_i F;exact J3c<|QL F D
   .exact Jl
  |List M p=>
   show PEi B X _ (if M.all Jw then Jx (aAll<|M.map<|ev P n S)else stE);split
   .rename_i F;exact J6x<|QL F D
   .exact Jl
  |Dict ks O p=>match ks,O with|[J k],[v]=>exact Jl|[],[]=>exact J2z|[],_::_=>exact Jl|[Zc],_=>exact Jl|[J _],[]=>exact Jl|[J _],_::_::_=>exact Jl|some _::_::_,_=>exact Jl|none::_::_,_=>exact Jl
  |Subscript a i p=>
   cases i with
   |Slice lo hi st q=>cases st with|none=>exact Jzy (J74 a) (D a) (I.o S X lo G)<|I.o S X hi G|some st=>exact Jl
   |_=>exact i_ix (J73 a) (D a) (D _)<|Jvt rfl
  |Attribute o f p=>
   show PEi B X _ (if QP o&&P.fld f then Jp f (ev P n S o)else stE);split
   .rename_i F;simp only[Zz]at F;exact J6u (D o) (G.pg.fld f F.2)<|Yp F.1
   .exact Jl
  |Call f E V p=>
   cases V with
   |cons kw V=>cases f with|Name x q=>exact J48 G λS X e G=>I.e S X e G|_=>exact Jl
   |nil=>
    cases f with
    |Name x q=>
     show PEi B X _ (if S.gl x&&E.all Jw then Jrz P n S x E else stE);split
     .rename_i F;simp only[Zz]at F;exact I.c S X x E q p G F.1 F.2
     .exact Jl
    |Attribute o m ap=>
     show PEi B X _ (if E.all Jw&&QP o&&(ap.endLine==p.line)&&decide (E.length<30)then Ju2 P S m E.length o (aAll<|E.map<|ev P n S) (Jy6 P m E.length (Joe P S m o) (ev P n S o)<|aAll<|E.map<|ev P n S)else stE);split
     .rename_i F;simp only[Zz,decide_eq_true_eq]at F;exact Jtw G (Jwo G (D o) D F.1.1.1 F.1.1.2 F.1.2 F.2) D F.1.1.1 F.1.1.2 F.1.2 F.2
     .exact Jl
    |_=>exact Jl
  |ListComp W gens sc p=>
   match gens with
   |[⟨U,iter,ifs,as⟩]=>
    show PEi B X _ (if as=0/\XL iter=Zg/\QM S.N (V4 sc) (QB sc) (jsOf S sc) S.fake sc=Zg then
     Jrh ifs (evT P n<|S.comp sc) (λmt=>J1 (evI P n S U iter) (V4 sc).length (jsOf S sc) (tgt P n (S.comp sc) U) mt<|ev P n (S.comp sc) W)else stE)
    split
    .rename_i F;obtain⟨rfl,hi,ok⟩:=F;have Gc:=G.comp ok;have Z:=ok;rw[<-Jlg G]at Z;match ifs with|[]=>exact Jxs G.calm (I.i S X U iter G) (λC s H fp=>I.g _ _ U<|Gc C s H fp) (λC s H fp=>Jyc) (λC s H fp=>I.e _ _ W<|Gc C s H fp) Z G.n rfl (Yz hi)|[c]=>exact Jxs G.calm (I.i S X U iter G) (λC s H fp=>I.g _ _ U<|Gc C s H fp) (λC s H fp=>Jyd<|I.t _ _ c<|Gc C s H fp) (λC s H fp=>I.e _ _ W<|Gc C s H fp) Z G.n rfl (Yz hi)|_::_::_=>exact Jl
    .exact Jl
   |[]=>exact Jl
   |⟨_,_,_,_⟩::_::_=>exact Jl
  |_=>exact Jl
 .have D:=λe=>I.e S X e G
  have hu:=G.room.units;cases e with
  |UnaryOp R a p=>cases R with|Not=>exact J7t<|I.t S X a G|_=>exact J5c YI<|D _
  |BoolOp R O p=>cases R with|And=>exact(Jx9 (λe=>I.t S X e G) O).t|Or=>exact(J5b (λe=>I.t S X e G) O).t
  |IfExp t a b p=>exact Jl
  |Compare a ops cs p=>
   match ops,cs with
   |[o],[b]=>
    show PTi B X _ (if Zcs o b then stT else Jj asB (Jc (cmpD P.ne o b) (ev P n S a)<|ev P n S b));split
    .exact Jl
    .rename_i Y;exact J7s (Jx1 hu (λc z=>let ⟨C,p,q,_⟩:=G.pg.ne c z;#[C,p,q]) o b) (D a) (D b)<|ZbC.mpr Y
   |[o,o'],[b,c]=>
    show PTi B X _ (if ZdP [o,o'] [b,c]then stT else Jj asB (JJ (cmpI o) (cmpI o') (ev P n S a) (ev P n S b)<|ev P n S c));split
    .exact Jl
    .rename_i Y;exact J1e (Y6 hu o) (Y6 hu o') (D a) (D b) (D c)<|ZbC.mpr Y
   |[],_=>exact Jl
   |[_],[]=>exact Jl
   |[_],_::_::_=>exact Jl
   |[_,_],[]=>exact Jl
   |[_,_],[_]=>exact Jl
   |[_,_],_::_::_::_=>exact Jl
   |_::_::_::_,_=>exact Jl
  |_=>exact J5c YI<|D _
 .cases e with|none=>exact J4f|some e=>exact J4g<|I.e S X e G
 .have D:=λe=>I.e S X e G
  show PEi B X _ (match P.fn x with|some f=>Xk f E.length<|aAll<|E.map<|ev P n S|none=>match P.cls x with|some f=>Jop x f E.length<|aAll<|E.map<|ev P n S|none=>if P.free x then Jgb P S x (ev P n S) E else stE);cases hx:P.fn x with|some f=>exact Jwr G hx Q ha D|none=>
   dsimp only;cases hc:P.cls x with|some f=>exact Jws G hc Q ha D|none=>
    dsimp only;split
    .rename_i hfr;exact Jql G D Q ha hfr
    .exact Jl
 .have D:=λe=>I.e S X e G
  cases e with
  |Call f E V p=>
   cases V with|cons _ _=>cases f<;>exact Jvg<|D _|nil=>
    cases f with
    |Name x q=>
     show PIi B X U _ (if S.gl x&&P.free x&&E.all Jw&&(x=="range")then J2w E.length (aAll<|E.map<|ev P n S)
      else if S.gl x&&P.free x&&E.all Jw&&(x=="enumerate")then(match U,E with|.Tuple ..,[a]=>iRg QV<|Jb (ev P n S a) Je|_,_=>stI)
      else Jv (ev P n S<|.Call (.Name x q) E [] p))
     split
     .rename_i F;simp only[Zz,beq_iff_eq]at F;obtain⟨⟨⟨Q,hf⟩,ha⟩,rfl⟩:=F;obtain⟨gx,_,_⟩:=G.gl Q;have hm:=G.pg.free _ hf;have pa:=QL ha D;match E,ha,pa with|[],_,_=>exact Y8|[a],ha,pa=>simp only[Zap,Zz]at ha;exact Jvi gx hm pa<|Jy ha.1|[a,b],ha,pa=>simp only[Zap,Zz]at ha;exact Y8|_::_::_::_,_,_=>exact Y8
     .split
      .rename_i F;simp only[Zz,beq_iff_eq]at F;obtain⟨⟨⟨Q,hf⟩,ha⟩,rfl⟩:=F;obtain⟨gx,_,_⟩:=G.gl Q;have hm:=G.pg.free _ hf;split
       .simp only[Zap,Zz]at ha;exact J20 gx hm (Qy (D _) Q9<|Jy ha.1)<|Jy ha.1
       .exact Y8
      .exact Jvg<|D _
    |_=>exact Jvg<|D _
  |_=>exact Jvg<|D _
 .cases e with
  |Name x p=>show PGi B X _ (match S.sto x with|some i=>gNm i|none=>stG);cases hv:S.sto x with|none=>exact Y7|some i=>obtain⟨h1,L,h3⟩:=G.sto hv;exact g_nm G.nodup h1 L h3
  |Tuple M j p=>
   show PGi B X _ (if M.all Jw then gTp M.length (gAll<|M.map<|tgt P n S)else stG);split
   .rename_i F;exact J6m G.calm (Jxq F λe=>I.g S X e G) (Jxg F)<|Jq4 F
   .exact Y7
  |Subscript o i p=>
   show PGi B X _ (if Xp i then gSbF o (ev P n S o) (ev P n S i)else stG);split
   .rename_i F;unfold gSbF;split
    .refine J2q (I.e S X o G) (I.e S X i G) λv=>?_
     cases i<;>first|rfl|cases F
    .refine J6l (I.e S X o G) (I.e S X i G) λv=>?_
     cases i<;>first|rfl|cases F
   .exact Y7
  |_=>exact Y7
theorem Jkr(B:CeT)(k:Nat)(P:Pg):∀n,Snd B k P n|0=>Jww|n+1=>Jwv<|Jkr B k P n
end
section
variable{B:CeT}{X:Cx}{pos:Pos}
theorem J0y{c:Expr}{I:To}{mt:T1}{mb:S1}(hst:X.stack=X.env::X.outer)(hf:X.env.frame=J X.env.locals)(hc:PTi B X c mt)(hb:PS2 B X I mb):PS1 B X (.While c I [] pos) (YB mt mb):=by
 intro V s U H Y Z h Q E N K;rw[Jl7]at K;generalize YJ=m0 at K;refine wpAny_While<|codeAny_whileLoop (λn s'=>∃Pk Uk hk U' H',Now B X V Pk Uk hk U' H' s'/\Nxt Y H Pk H'/\JE B X V Pk H' (Xb mt mb n Uk hk) Q E) ?_ m0 #[Y,Z,h,U,H,N,.refl,K];rintro n s1 ⟨U1,F,h1,W1,H1,N1,n1,j⟩;cases n with|zero=>exact(j).elim|succ n=>
  unfold Xb at j;refine nof<|hc V s1 W1 H1 U1 F h1 _ (λ_ _=>False) N1 ?_;cases et:mt F h1 with|exc m L=>rw[et]at j;exact(j).elim|stuck=>rw[et]at j;exact(j).elim|ok b L=>
   rw[et]at j;intro b' s2 H2 U2 N2 n2 r2;have r':b'=b:=r2;subst r';dsimp only at j;cases b' with|false=>exact Zc1<|j s2 W1 H2 U2 N2 n2|true=>
    rw[if_pos rfl];rw[if_pos rfl]at j;refine hb V s2 W1 H2 U2 F L _ _ N2 ?_;cases S:mb F L with
    |next W3 P=>rw[S]at j;exact λW k M O R D=>#[n,Zau n,O,W3,P,k,M,R,(n1.trans n2).trans D,JE.mono j<|n2.trans D]
    |cont W3 P=>rw[S]at j;exact λW k M O R D=>#[n,Zau n,O,W3,P,k,M,R,(n1.trans n2).trans D,JE.mono j<|n2.trans D]
    |brk W3 P=>rw[S]at j;exact λW k M O R D=>j W k M O R<|n2.trans D
    |ret v P=>rw[S]at j;exact λu W U3i k M O R D r=>j u W U3i k M O R (n2.trans D) r
    |exc m W3 P=>
     rw[S]at j;dsimp only at j;cases hj:P[m]? with|none=>rw[hj]at j;exact(j).elim|some ob=>
      cases ob with
      |exc c fs=>
       rw[hj]at j;intro pl a s7 U7 H7 W7 N7 n7 q s8 fl;obtain⟨C,tv,d,fe,hC,ha,ht⟩:=N7.rel.get hj q;have G:∀h8,Noted X.env.locals (frs X.stack) a s7.heap h8->cameBackBy (Zy X.prog X.w) X.A X.env E (.ref a) {s7 with heap:=h8}:=λh8 n8=>
        Ji1 hf n8 λh9 n9=>j pl a s7 U7 H7 W7 N7 (n2.trans n7) q _<|.inr #[h9,rfl,n9]
       rcases fl with rfl|⟨h8,rfl,n8⟩
       .exact Jkf N7.inv hst hf ha ht G
       .exact Jd5 hf n8<|G h8 n8
      |_=>rw[hj]at j;exact(j).elim
    |stuck=>rw[S]at j;exact(j).elim
theorem Jvl(no:¬ ∃i j,op=.Add/\x=.int i/\y=.int j):ipI op x y h=.stuck:=by
 unfold ipI;split
 .simp_all
 .rfl
theorem o_ip(C:Zcx):OpI B X (inplaceOp C) (ipI C):=by
 intro V s U H Y Z h x y v u Q E N k m K;by_cases c:∃i j,C=.Add/\x=.int i/\y=.int j
 .obtain⟨i,j,rfl,rfl,rfl⟩:=c;obtain⟨I,k,D⟩:=k;obtain⟨G,m,F⟩:=m;cases (D);cases (F);obtain⟨t,rfl⟩:=k;obtain⟨L,rfl⟩:=m;exact iadd_int<|K _ _ H Y #[N.inv.tok _,N.rel,N.st] .refl #[.int<|i+j,#[_,rfl],rfl]
 .rw[Jvl c]at K;exact(K).elim
theorem J7n{i:Nat}{x:Str}{e:Expr}{me:E1}{D:Zcx}{pos':Pos}(hN:X.N.Nodup)(he:PEi B X e me)(hi:X.N[i]?=J x)(hx:Loc X.env.scope x)(R:X.fn x=Zg\/X.env.scope.names.lookup x=J .local):PS1 B X (.AugAssign (.Name x pos') D e pos) (sAug D i me):=by
 intro V s U H Y Z h Q E N K;refine wpAny_AugAssign_Name ?_;unfold sAug at K;cases ev:Ja i Z h with|exc n M=>exfalso;unfold Ja at ev;split at ev<;>cases ev|stuck=>rw[ev]at K;exact(K).elim|ok v M=>
  rw[ev]at K;obtain⟨e1,rfl⟩:Z[i]?=J (J v)/\M=h:=by
   unfold Ja at ev;split at ev
   .rename_i q;cases ev;exact#[q,rfl]
   .cases ev
  obtain⟨w,hw,qw⟩:=N.st.at_ i v e1;obtain⟨m,hn,hl⟩:=N.inv.loc;have vis:Vis X.env.scope x:=by rcases hx with k|k;exact .inl k;exact .inr (.inl k)
  obtain⟨u,r,l⟩:=hl i x w hi hw vis;have go:Zv (Zy X.prog X.w) X.A (ZaQ e X.env) (λw s₂=>Zv (Zy X.prog X.w) X.A (inplaceOp D u w) (λr s₃=>Zv (Zy X.prog X.w) X.A (storeName X.env x r) (λ_=>Q .next) E s₃) E s₂) E s:=by
   refine krun he N K λy L uy s2 H2 U2 S n2 r2 C=>?_
   refine o_ip D V s2 U H2 U2 Z L v y u uy _ E S #[w,r,RV.mono n2 _ _ qw] r2 ?_;cases F:ipI D v y L with|exc n h3=>rw[F]at C;exact λpl a I H' Y' N' P q=>C pl a I U H' Y' N' P q I<|.inl rfl|stuck=>rw[F]at C;exact C|ok z h3=>rw[F]at C;intro uz s3 O U3 G n3 r3;obtain⟨zv,rz,W⟩:=r3;exact YF G.inv hN hi hx rz (λs4 I4=>C s4 _ O U3 #[I4,G.rel,G.st.set i W] n3) R
  rcases l with⟨j,hm⟩|⟨j,c,hc,hcell⟩
  .exact wpAny_loadName_local N.inv.ok.kind j hn hm go
  .rcases j with j|j
   .exact wpAny_loadName_cell N.inv.ok.kind j hc hcell go
   .rcases hx with k|k
    .have:X.env.scope.names.lookup x=J .free:=j;rw[k]at this;cases this
    .have:X.env.scope.names.lookup x=J .free:=j;rw[k]at this;cases this
theorem J4v{fl:Str}{o e:Expr}{mo me:E1}{S:Zcx}{G:Pos}(ho:PEi B X o mo)(he:PEi B X e me)(hf:Yn B X.K fl):PS1 B X (.AugAssign (.Attribute o fl G) S e pos) (XR S fl mo me):=by
 intro V s U H Y Z h Q E N K;refine wpAny_AugAssign_AttributeAny<|krun ho N K λov h1 w s1 H1 U1 P n1 r1 k=>?_
 cases ov with
 |ref i=>
  obtain⟨w,rw',a,e1,hi⟩:=r1;subst e1;cases rw';dsimp only at k;cases M:h1[i]? with|none=>rw[M]at k;exact(k).elim|some ob=>
   cases ob with
   |ins c fs=>
    rw[M]at k;dsimp only at k;cases hl:fs.lookup fl with|none=>rw[hl]at k;exact(k).elim|some x=>
     rw[hl]at k;obtain⟨C,dx,O,hC,hH,rp⟩:=P.at M hi;obtain⟨cl,na⟩:=hf c C hC;obtain⟨y,hy,q⟩:=(RPs.lookup rp).1 x hl;refine Jiu P.inv hH cl na hy λu' s2 I2 ru=>?_
     refine krun he (#[I2,P.rel,P.st]:Now B X V U1 Z h1 U H1 s2) k λz h3 uz s3 H3 U3 N3 n3 r3 j=>?_
     refine o_ip S V s3 U H3 U3 Z h3 x z u' uz _ E N3 #[y,ru,RV.mono n3 _ _ q] r3 ?_;cases ez:ipI S x z h3 with|exc n h4=>rw[ez]at j;exact λpl a s' H' Y' N' n' q=>j pl a s' U H' Y' N' n' q s'<|.inl rfl|stuck=>rw[ez]at j;exact j|ok v h4=>
      rw[ez]at j;intro uv s4 H4 U4 W n4 r4;dsimp only[rS]at j;have L:=n4.at<|n3.at hi;cases u:h4[i]? with|none=>rw[u]at j;exact(j).elim|some ob=>
       cases ob with
       |ins c' gs=>
        rw[u]at j;dsimp only at j;split at j
        .rename_i hz;obtain⟨C',D,vs',F,m,I⟩:=W.at u L;obtain⟨cl',na'⟩:=hf c' C' F;obtain⟨yv,ryv,qv⟩:=r4;refine Ji4 W.inv m cl' na' (by rw[I.length];exact hz) ryv λs5 I5=>?_
         have R:Nxt U4 H4 U4 (upd H4 a<|.ins C' D<|putF fl yv vs'):=#[#[[],03],Ext.upd_mut m<|by rw[m];exact Zaq];obtain⟨R5,_⟩:=W.rel.write (io:=.ins c'<|putI fl v gs) L m (by rw[m];exact Zaq) #[C',D,_,F,J2,RPs.put (RV.mono R _ _ qv)<|RPs.mono R _ _ I];exact j s5 U _ U4 #[I5,R5,W.st.mono R]<|n4.trans R
        .exact(j).elim
       |_=>rw[u]at j;exact(j).elim
   |_=>rw[M]at k;exact(k).elim
 |_=>exact(k).elim
theorem J2r:OpI B X Zef ixL:=by
 intro V s U H Y Z h x y v u Q E N m D K;obtain⟨xv,m,qx⟩:=m;obtain⟨yv,D,M⟩:=D;cases x with
 |ref i=>
  cases y with
  |int k=>
   obtain⟨a,rfl,ha⟩:=qx;cases (M);cases m;obtain⟨t,rfl⟩:=D;dsimp only[ixL]at K;cases C:h[i]? with|none=>rw[C]at K;exact(K).elim|some L=>
    rw[C]at K;cases L with
    |lst xs=>
     dsimp only at K;cases G:atI xs k with|none=>rw[G]at K;exact(K).elim|some z=>
      rw[G]at K;dsimp only at K;split at K
      .rename_i I;obtain⟨O,e1,P⟩:=N.at C ha;obtain⟨w,S,R⟩:=Jjd P G;obtain⟨W,r,pl,hz⟩:=N.inv.list<|SqL.of e1;obtain⟨j,g1,g2,g3,g4,g5⟩:=Jjb S;obtain⟨w',ew,F⟩:=r.get g2;have hn:=Xn;have hj:k.toNat=j:=by rw[Ze7 I g5]at g1;exact Zas g1
       exact wpAny_getItem_list pl.isList I 05 (by simp_all)<|K _ _ H Y N .refl #[w,F,R]
      .exact(K).elim
    |_=>exact(K).elim
  |_=>exact(K).elim
 |_=>cases y<;>exact(K).elim
theorem J3q(p:OpI B X f g)(N:Now B X V Y Z h U H s)(M:RU X.K Y H x v)(O:RU X.K Y H y u) {k:IV->IH->SRes}{Q:Flow->Zl->Prop}{E F:QvT}(K:JE B X V Y H (rS Z (g x y h) k) Q E) (step:∀z h1 w s1 H1 C,Now B X V C Z h1 U H1 s1->Nxt Y H C H1->RU X.K C H1 z w->JE B X V C H1 (k z h1) Q E->F w s1):Zv (Zy X.prog X.w) X.A (f v u) F E s:=by refine p V s U H Y Z h x y v u F E N M O ?_;cases e:g x y h with|ok z L=>rw[e]at K;exact λw m I D G j r=>step z L w m I D G j r<|JE.mono K j|exc n L=>rw[e]at K;exact λpl a m I D G j q=>K pl a m U I D G j q m<|.inl rfl|stuck=>rw[e]at K;exact K
theorem J45{V:PnT}{s:Zl}{U:L2.St}{H:Hp}{Y:Tw}{Z:ISt}{h:IH}{o i v:IV}{G S u:Zh}{Q:Flow->Zl->Prop}{E:QvT}(N:Now B X V Y Z h U H s)(O:RU X.K Y H o G)(F:RU X.K Y H i S)(rv:RU X.K Y H v u) (K:JE B X V Y H (setI o i v Z h) Q E):Zv (Zy X.prog X.w) X.A (setItem G S u) (λ_=>Q .next) E s:=by
 obtain⟨ox,O,qo⟩:=O;obtain⟨ix,F,qi⟩:=F;obtain⟨L,R,qv⟩:=rv;cases o with
 |ref i=>
  rename_i iv;cases iv with
  |int k=>
   obtain⟨a,rfl,m⟩:=qo;cases (qi);dsimp only[setI]at K;cases M:h[i]? with|none=>rw[M]at K;exact(K).elim|some ob=>
    rw[M]at K;cases ob with
    |lst xs=>
     dsimp only at K;cases I:ixN xs.length k with|none=>rw[I]at K;exact(K).elim|some j=>
      rw[I]at K;obtain⟨P,D,C⟩:=N.at M m;refine Zaf (Jo5 (X:=X.wish E) V s U H (.ref a) (.int k) L G S u (λW=>W=upd H a (.lst<|P.set j L)) (N.inv.wish E) O F R #[a,P,k,j,rfl,rfl,D,by rw[C.length];exact I,rfl]) (λ_ s3 hq=>?_) λ_ _ z=>z
      obtain⟨W,I',rfl⟩:=hq;have n:Nxt Y H Y (upd H a<|.lst<|P.set j L):=#[#[[],03],Ext.upd_mut D<|by rw[D];exact Zaq];obtain⟨R3,_⟩:=N.rel.write (io:=.lst<|xs.set j v) m D (by rw[D];exact Zaq) #[_,J2,(RVs.mono n _ _ C).set (RV.mono n _ _ qv) j];exact K s3 U _ Y #[I'.unwish,R3,N.st.mono n] n
    |_=>exact(K).elim
  |_=>exact(K).elim
 |_=>cases i<;>exact(K).elim
theorem J4w{o i e:Expr}{mo u me:E1}{k:Zcx}{j:Pos}(ho:PEi B X o mo)(hi:PEi B X i u)(he:PEi B X e me)(hs:Xp i=Zg):PS1 B X (.AugAssign (.Subscript o i j) k e pos) (XS k mo u me):=by
 intro V s U H Y Z h Q E N K;refine wpAny_AugAssign_SubscriptAny (krun ho N K λov h1 ou s1 H1 U1 M n1 D K1=>krun hi M K1 λkv L ku s2 H2 U2 I n2 F K2=>?_) (λ_ _ _=>by cases i<;>first|rfl|cases hs);refine J3q J2r I (D.mono n2) F K2 λx h3 xu s3 H3 U3 S C W K3=>?_
 refine krun he S K3 λy h4 yu s4 H4 U4 N4 m r4 K4=>?_
 refine J3q (o_ip k) N4 (W.mono m) r4 K4 λz h5 zu s5 H5 U5 R G O P=>?_
 exact J45 R ((((D.mono n2).mono C).mono m).mono G) (((F.mono C).mono m).mono G) O P
end
section
variable{B:CeT}{k:Nat}{P:Pg}{n:Nat}{S:Sc}{X:Cx}
theorem VT(j:∀s,PS1 B X s<|f s):∀(l:To),PS2 B X l (sAll<|l.map f)|[]=>J4r|[a]=>J4s<|j a|a::b::r=>J0s (j a)<|VT j<|b::r
end
section
variable{B:CeT}{k:Nat}{P:Pg}{S:Sc}{X:Cx}{xi:Xi}{xf:Str->Str->Bool}{fr:Str->Bool}
theorem Jvd(G:Good B k P S X)(kD:XiOk X.K X.mg xi xf)(hi:∀x,fr x=Zg->X.mg x=Zc)(a:Zm)(hm:∀e,PEi B (JD X a) e<|m e):PEi B (JD X a) (.Call f as ks p) (Jzk S xi fr f as ks p m):=by
 unfold Jzk;split
 .rename_i x q b D F;split
  .rename_i h;simp at h;obtain⟨⟨⟨⟨rfl,h0⟩,h1⟩,L⟩,h3⟩:=h;cases hx:xi D with|none=>exact Jl|some g=>
    obtain⟨v,hv,H⟩:=kD.1 D g hx;obtain⟨j,u,O⟩:=G.gl L;have I:ClsE (JD X a) (.Name D F) v:=by
     rcases hv with z|⟨z,w⟩
     .exact Jm7 j z u
     .exact Xj j z w O u
    refine J24 I #[nofun,nofun,nofun,nofun,nofun,nofun,nofun,nofun,λc C b e M=>?_] (hm b) (G.gl h1).1 (hi _ h0) rfl (Jy h3) rfl rfl;obtain⟨Q,E,_⟩:=H c C b e M;exact#[Q,E]
  .exact Jl
 .exact Jl
theorem J2u(a:Zm):∀(n:Nat)(w:Bool)(S:Sc)(X:Cx),Good B k P S X->XiOk X.K X.mg xi xf->(∀x,fr x=Zg->X.mg x=Zc)->(w=Zg->Warm (JD X a).A X.H₀)->∀e,PEi B (JD X a) e (hv xi xf fr n w S e)
 |0,_,_,_,_,_,_,_,_=>Jl
 |n+1,w,S,X,G,kD,hi,hw,e=>by
  have m:=J2u a n w S X G kD hi hw;have V:=G.room.units;cases e with
  |Constant c j p=>
   cases c with
   |int i=>exact J23
   |bool b=>exact i_bl
   |none=>exact J29
   |str x=>exact J3b
   |_=>exact Jl
  |Name x p=>
   show PEi B (JD X a) (.Name x p) (match S.vis x with|some i=>Ja i|none=>stE);cases hv:S.vis x with
   |some i=>obtain⟨H,L,Q,E⟩:=G.vis hv;exact J3d i H L Q E
   |none=>exact Jl
  |UnaryOp u b p=>exact i_un (o_un u)<|m b
  |BoolOp u O p=>
   cases u with
   |And=>exact Jrr m O
   |Or=>exact Jy8 m O
  |Tuple D j p=>
   show PEi B (JD X a) _ (if D.all Jw then Jz (aAll<|D.map<|hv xi xf fr n w S)else stE);split
   .rename_i F;exact J3c<|QL F m
   .exact Jl
  |Call f R U p=>exact Jvd G kD hi a m
  |Attribute o f p=>
   show PEi B (JD X a) _ (if QP o then Yu (xf f) f (hv xi xf fr n w S o)else stE);split
   .rename_i h;exact J21 (m o) (λc C I M=>(kD.2 f c C I M).2)<|Yp h
   .exact Jl
  |_=>exact Jl
theorem J2v(G:Good B k P S X)(kD:XiOk X.K X.mg xi xf)(hi:∀x,fr x=Zg->X.mg x=Zc)(a:Zm)(u:w=Zg->Warm (JD X a).A X.H₀):∀n st,PS1 B (JD X a) st (hx xi xf fr w S n st)
 |0,_=>J8
 |n+1,st=>by
  have E:=J2v G kD hi a u n;have j:=J2u a n w S X G kD hi u;cases st with
  |Pass p=>exact Jx6
  |Return v p=>
   cases v with
   |none=>exact J8
   |some e=>exact J40<|j e
  |Assign m e p=>
   match m with
   |[]=>exact J8
   |b::_::_=>cases b<;>exact J8
   |[tg]=>
    cases tg with
    |Name x q=>
     show PS1 B (JD X a) _ (if QW e then(match S.sto x with|some i=>Jh i (hv xi xf fr n w S e)|none=>stS)else stS);split
     .rename_i h;cases hv:S.sto x with
      |none=>exact J8
      |some i=>obtain⟨C,L,D⟩:=G.sto hv;exact J0x G.nodup (j e) C L (YH h) D
     .exact J8
    |_=>exact J8
  |_=>exact J8
theorem Jsa(G:Good B k P S X)(j:S.own=Zg)(n:Nat)(a:Zm)(sl:Ta)(suite:To):PSH B X a sl suite (Jxr P S n sl suite):=by exact(VT (J2v G G.pg.xi G.pg.free a (λz=>by cases z) n) _).h
theorem J6p(G:Good B k P S X)(kD:XiOk X.K X.mg xi xf){q:Pos}(hx:xi D=J g)(L:S.gl D=Zg)(a:Zm)(c:Str)(C:Zm)(b:Bool)(V:PnT)(U:L2.St)(H:Hp)(s:Zl)(Q:Bool->Zl->Prop)(E:QvT)(hb:g c=J b) (hC:W.nsIn X.K Zn c=J (J<|.ref C))(I:Inv (JD X a) V U H s)(ho:∃j,s.heap.get? a=J j/\j.cls=.ref C)(M:Q b s):Zv (Zy X.prog X.w) (JD X a).A (ZaQ (.Name D q) X.env) (λv s₁=>Zv (Zy X.prog X.w) (JD X a).A (excMatches (.ref a) v) Q E s₁) E s:=by
 obtain⟨v,hv,Y⟩:=kD.1 D g hx;obtain⟨u,F,nn⟩:=G.gl L;have hc:ClsE (JD X a) (.Name D q) v:=by
  rcases hv with z|⟨z,w⟩
  .exact Jm7 u z F
  .exact Xj u z w nn F
 refine hc V U H s _ E I ?_;obtain⟨_,_,O⟩:=Y c C b hb hC;obtain⟨j,Z,L⟩:=ho;obtain⟨m,gg,d,tk,os⟩:=s;have R:W.Looks (Zy X.prog X.w) m (Zej<|.ref a) (.ref C):=L▸(W.Looks.ld Z).andThen .now;exact(W.exm_one (I.kIn:X.K.In m) R O).at M
theorem Jr7(G:Good B k P S X)(L:S.own=Zg):∀{l:Tt}{F:Ts},hHds P S n l=J F->HdsOk B X l F
 |[],F,e=>by cases e;exact .nil
 |h::r,F,e=>by
  unfold hHds at e;cases j:hHd P S n h with
  |none=>rw[j]at e;cases e
  |some q=>
   cases M:hHds P S n r with
   |none=>rw[j,M]at e;cases e
   |some l=>
    rw[j,M]at e;cases e;unfold hHd at j;split at j
    .rename_i D q2 nm b R Y;split at j
     .rename_i W;cases u:P.xi D with
      |none=>rw[u]at j;cases j
      |some g=>
       cases m:hSl S nm with
       |none=>rw[u,m]at j;cases j
       |some sl=>
        rw[u,m]at j;cases j;refine .cons #[λa c C b V U H s Q E hb Z I L hq=>J6p G G.pg.xi u W a c C b V U H s Q E hb Z I L hq,?_,λa=>Jsa G L n a sl _]<|Jr7 G L M;unfold hSl at m;cases nm with
        |none=>cases m;exact .inl #[rfl,rfl]
        |some x=>
         dsimp only at m;split at m
         .rename_i hl;obtain⟨i,O,rfl⟩:=Z3.mp m;refine .inr #[x,i,rfl,rfl,by rw[G.n];exact Y2 O,?_];rw[G.kind];exact beq_iff_eq.mp hl
         .cases m
     .cases j
    .cases j
end
section
variable{B:CeT}{k:Nat}{P:Pg}{n:Nat}{S:Sc}{X:Cx}
theorem Jp2(G:Good B k P S X)(hm:∀e,PEi B X e<|m e):PS1 B X (.Raise (J<|.Call (.Name x q) [e] [] q2) Zc p) (Jnj P S m x e):=by
 unfold Jnj;split
 .rename_i f u;split
  .rename_i h;simp at h;obtain⟨⟨M,L⟩,h3⟩:=h;split
   .rename_i d hd;obtain⟨C,fa,fd,ps,E,j,W,Q,c5,D⟩:=G.pg.xo x f u;obtain⟨V,O,_⟩:=G.gl M;obtain⟨ds,R,hl,F⟩:=Ys D hd;have I:ps.length<=sizeLine:=by have:=D.len;rw[Za8];lia
    refine Jwi G.calm (Jzw W Q D.ok j G.room V E R F (QL (by simp[L]) hm) (λU h xs H z=>?_) I O (Jy L) rfl) λc C' Z Y h hK=>?_
    .have:=X3 _ U h xs H z;simp at this;lia
    .simp_all
   .exact J8
  .exact J8
 .exact J8
theorem Jr9(G:Good B k P S X)(hm:∀e,PEi B X e<|m e):PS1 B X (.Raise exc cause p) (Jr8 P S m exc cause):=by
 unfold Jr8;split
 .rename_i x q e M;split
  .rename_i h;simp at h;obtain⟨⟨D,L⟩,j⟩:=h;obtain⟨C,H,E,I⟩:=G.pg.rz x L;obtain⟨u,F,_⟩:=G.gl D;exact J0w G.calm u H E I (Qy (hm e) Q9<|Jy j) F (Jy j) rfl
  .exact Jp2 G hm
 .exact J8
theorem Jzl(G:Good B k P S X)(hm:∀s,PS1 B X s<|m s):PS1 B X (.Try body hs o f p) (hTry P S n m body hs o f):=by
 unfold hTry;split
 .split
  .rename_i h;obtain⟨u,j⟩:=G.top h;split
   .rename_i C e;exact J7q G.nodup u j (VT hm body)<|Jr7 G h e
   .exact J8
  .exact J8
 .exact J8
theorem Jys{tg:Expr}{env:Env}(h:Jw tg=Zg):(ZaL [tg] env).map (·.2)=[Zei tg env]:=by cases tg<;>first|rfl|cases h
theorem Jwu(G:Good B k P S X)(i:Nat){p q:Pos}(h:isLC e=Zg)(h1:X.N[i]?=J x)(L:L2.Loc X.env.scope x)(h3:X.fn x=Zg\/X.env.scope.names.lookup x=J .local):PS1 B X (.Assign [.Name x q] e p) (Jh i<|ev P n S e):=by
 cases e with
 |ListComp D F sc R=>
  cases hb:(X.env.blockKind==.function&&X.env.kindOf x==J .local&&q.line==R.line&&!(sc.names.any λ(n,k)=>n==x&&(k==.local||k==.cell)))with|false=>refine J0x G.nodup ((Jkr B k P n).e S X _ G) h1 L ?_ h3;show(pure (X.env.blockKind==.function&&X.env.kindOf x==J .local&&q.line==R.line&&!(sc.names.any λ(n,k)=>n==x&&(k==.local||k==.cell))):Sem Bool)=pure Zi;rw[hb]|true=>
   have u:ZcT (.ListComp D F sc R) (J<|.Name x q) p.line X.env=pure Zg:=by show(pure (X.env.blockKind==.function&&X.env.kindOf x==J .local&&q.line==R.line&&!(sc.names.any λ(n,k)=>n==x&&(k==.local||k==.cell))):Sem Bool)=pure Zg;rw[hb]
   have j:∀m:E1,(∀U h,m U h=.stuck)->PS1 B X (.Assign [.Name x q] (.ListComp D F sc R) p) (Jh i m):=λm hm=>by intro V s U H Y Z h Q E N K;unfold Jh at K;rw[hm]at K;exact Zf K
   cases n with|zero=>exact j _ λ_ _=>rfl|succ n=>
    have I:=Jkr B k P n;match F,u with
    |[⟨tg,iter,ifs,as⟩],u=>
     show PS1 B X _ (Jh i (if as=0/\XL iter=Zg/\QM S.N (V4 sc) (QB sc) (jsOf S sc) S.fake sc=Zg then Jrh ifs (evT P n<|S.comp sc) (λmt=>J1 (evI P n S tg iter) (V4 sc).length (jsOf S sc) (tgt P n (S.comp sc) tg) mt<|ev P n (S.comp sc) D)else stE));split
     .rename_i hs;obtain⟨rfl,W,ok⟩:=hs;have O:=G.comp ok;have M:=ok;rw[<-Jlg G]at M;match ifs,u with|[],u=>exact Jx5 G.calm (I.i S X tg iter G) (λC s H fp=>I.g _ _ tg<|O C s H fp) (λC s H fp=>Jyc) (λC s H fp=>I.e _ _ D<|O C s H fp) M G.n rfl (Yz W) G.nodup h1 L h3 u|[c],u=>exact Jx5 G.calm (I.i S X tg iter G) (λC s H fp=>I.g _ _ tg<|O C s H fp) (λC s H fp=>Jyd<|I.t _ _ c<|O C s H fp) (λC s H fp=>I.e _ _ D<|O C s H fp) M G.n rfl (Yz W) G.nodup h1 L h3 u|_::_::_,_=>exact j _ λ_ _=>rfl
     .exact j _ λ_ _=>rfl
    |[],_=>exact j _ λ_ _=>rfl
    |⟨_,_,_,_⟩::_::_,_=>exact j _ λ_ _=>rfl
 |_=>cases h
theorem Jo9(B:CeT)(k:Nat)(P:Pg):∀(n:Nat)(S:Sc)(X:Cx)(st:Zcg),Good B k P S X->PS1 B X st (ex P n S st)
 |0,_,_,_,_=>J8
 |n+1,S,X,st,G=>by
  have F:=λst=>Jo9 B k P n S X st G
  have E:=Jkr B k P n;have m:=λe=>E.e S X e G
  cases st with
  |Pass p=>exact Jx6
  |Break p=>exact J0v
  |Continue p=>exact J4x
  |Expr e p=>
   show PS1 B X _ (if QW e then JA (ev P n S e)else stS);split
   .rename_i h;exact J4y (m e)<|YH h
   .exact J8
  |Return v p=>
   cases v with
   |none=>exact J41
   |some e=>exact J40<|m e
  |If c a b p=>exact s_if (E.t S X c G) (VT F a)<|VT F b
  |Raise exc R p=>exact Jr9 G m
  |Try V hs o f p=>exact Jzl G F
  |While c a o p=>
   cases o with
   |nil=>
    show PS1 B X _<|Jnr S.own (evT P n S c)<|sAll<|a.map<|ex P n S;cases h:S.own with
    |true=>obtain⟨U,D⟩:=G.top h;exact J0y U D (E.t S X c G)<|VT F a
    |false=>exact J8
   |cons _ _=>exact J8
  |For u it a o p=>
   cases o with
   |nil=>
    show PS1 B X _ (if XL it&&S.own then sFor (evI P n S u it) (tgt P n S u) (sAll<|a.map<|ex P n S)else stS);split
    .rename_i h;rw[Zz]at h;obtain⟨U,D⟩:=G.top h.2;exact J7p G.calm U D (E.i S X u it G) (E.g S X u G) (VT F a)<|Yz h.1
    .exact J8
   |cons _ _=>exact J8
  |AugAssign u Q e p=>
   cases u with
   |Name x q=>
    show PS1 B X _ (match S.sto x with|some i=>sAug Q i (ev P n S e)|none=>stS);cases hv:S.sto x with
    |none=>exact J8
    |some i=>obtain⟨H,L,I⟩:=G.sto hv;exact J7n G.nodup (m e) H L I
   |Attribute o f q=>
    show PS1 B X _ (if P.fld f then XR Q f (ev P n S o) (ev P n S e)else stS);split
    .rename_i h;exact J4v (m o) (m e)<|G.pg.fld f h
    .exact J8
   |Subscript o i q=>
    show PS1 B X _ (if Xp i then XS Q (ev P n S o) (ev P n S i) (ev P n S e)else stS);split
    .rename_i h;exact J4w (m o) (m i) (m e) h
    .exact J8
   |_=>exact J8
  |Assign O e p=>
   match O with
   |[]=>exact J8
   |a::_::_=>cases a<;>exact J8
   |[u]=>
    have gen:PS1 B X (.Assign [u] e p) (if QW e&&((Jvq u&&J0g e)||Jvp u)then sAsg (ev P n S e) (tgt P n S u)else stS):=by
     split
     .rename_i h;simp at h;have M:Jw u=Zg:=by
       rcases h.2 with q|q
       .cases u<;>first|rfl|(simp[Jvq]at q)
       .cases u<;>first|rfl|(simp[Jvp]at q)
      refine J7m (m e) (E.g S X u G) (YH h.1) ?_<|Jys M;rcases h.2 with q|q
      .cases u with
       |Tuple es j pp=>have Y:=q.2;cases e<;>first|rfl|(simp[J0g]at Y)
       |_=>simp[Jvq]at q
      .cases u with
       |Subscript=>cases e<;>rfl
       |_=>simp[Jvp]at q
     .exact J8
    cases u with
    |Name x q=>
     show PS1 B X _ (if QW e||isLC e then(match S.sto x with|some i=>Jh i (ev P n S e)|none=>stS)else stS);split
     .rename_i h;cases hv:S.sto x with
      |none=>exact J8
      |some i=>
       obtain⟨H,L,I⟩:=G.sto hv;rcases Zb8 _ _▸h with h|h
       .exact J0x G.nodup (m e) H L (YH h) I
       .exact Jwu G i h H L I
     .exact J8
    |Attribute o f q=>
     show PS1 B X _ (if QW e||isLC e then J0t P f (ev P n S o) (ev P n S e)else stS);split
     .rename_i h;have W:ZcT e (J<|.Attribute o f q) p.line X.env=pure Zi:=by
       rcases Zb8 _ _▸h with h|h
       .exact YH h
       .cases e<;>first|rfl|cases h
      unfold J0t;split
      .rename_i D;exact J7o (m o) (m e) (G.pg.fld f D) W
      .exact J4z (m o) (m e) (λc C Z hC=>(G.pg.xi.2 f c C Z hC).1) W
     .exact J8
    |_=>exact gen
  |_=>exact J8
end
structure D4 where
 st:Zcg
 qual:Str
 ps:Tl
 N:Tl
 dvs:Tx
abbrev _root_.Wq:=List<|Str×D4
def D4.sc(d:D4):Sc:=#[d.N,(JS d.st).names,Zg,d.qual]
set_option genInjectivity false in
structure Tab where
 fns:Wq
 clss:Wq
 meths:List<|Str×Wq
 cons:Wm
 isas:List<|Str×Tl
 flds:Tl
 frees:Tl
 tabs:Tl:=[]
 razs:Tl:=[]
 xis:List (Str×List (Str×Bool)):=[]
 bass:Tl:=[]
 wrs:Wq:=[]
 nes:Tl:=[]
 xms:Wq:=[]
 xfs:List (Str×Tl):=[]
 xbs:Tl:=[]
noncomputable def memS (x:Str):Tl->Bool|[]=>Zi|y::r=>y==x||memS x r
noncomputable def JO {α:Type}(x:Str):List (Str×α)->Option α|[]=>Zc|(y,a)::r=>if y==x then J a else JO x r
def xfOf(T:Tab)(f c:Str):Bool:=match JO f T.xfs with|some l=>memS c l|none=>Zi
def mkPg(T:Tab)(r:D4->Tx->IH->Res IV):Pg where
 fn:=λx=>(JO x T.fns).map λd=>#[d.ps.length,d.dvs,r d]
 cls:=λx=>(JO x T.clss).map λd=>#[d.ps.length,d.dvs,r d]
 meth:=λc m=>((JO c T.meths).bind<|JO m).map λd=>#[d.ps.length,d.dvs,r d]
 con:=λx=>JO x T.cons
 isa:=λx=>(JO x T.isas).map λl c=>memS c l
 fld:=λx=>memS x T.flds
 free:=λx=>memS x T.frees
 tabs:=λq=>ixOf q T.tabs
 rz:=λx=>memS x T.razs
 xi:=λD=>(JO D T.xis).map λl c=>JO c l
 bas:=λx=>memS x T.bass
 wr:=λ_=>Zc
 ne:=λx=>memS x T.nes
 xo:=λx=>(JO x T.xms).map λd=>#[d.ps.length,d.dvs,r d]
 xf:=xfOf T
 xb:=λx=>memS x T.xbs
def run(T:Tab):Nat->D4->Tx->IH->Res IV|0,_=>λ_ _=>.stuck|k+1,d=>fnI d.N.length<|sAll<|(Q0 d.st).map<|ex (mkPg T<|run T k) 40 d.sc
theorem Qn:∀{l:List (Str×α)},JO x l=J a->(x,a)∈l
 |[],h=>by cases h
 |(y,b)::r,h=>by
  unfold JO at h;split at h
  .simp_all
  .exact Zr _<|Qn h
theorem VP:∀{l:Tl},memS x l=Zg->x∈l
 |[],h=>by cases h
 |y::r,h=>by
  rcases Zb8 _ _▸h with e|e
  .simp_all
  .exact Zr _<|VP e
structure DefOk(K:W.Frag)(x:Str)(d:D4)(fa:Zm)(fd:ZaK):Prop where
 fun_:∃dV,FunD K x d.qual d.st fa fd dV
 sc:FnScope d.N d.ps<|JS d.st
 dv:∀j,j<=d.dvs.length->∃ds,Qc K fd d.ps ds/\ds.length=d.dvs.length-j/\∃O,Vals O ds/\∀Y H,RVs K Y H (d.dvs.drop j) O
structure TabOk(B:CeT)(T:Tab)(K:W.Frag)(mg:Str->Tc):Prop where
 fn:∀x d,(x,d)∈T.fns->∃fa fd,mg x=J (.ref fa)/\DefOk K x d fa fd
 cls:∀x d,(x,d)∈T.clss->∃C fa fd,mg x=J (.ref C)/\B x=J C/\Mk K C fa/\DefOk K "__init__" d fa fd
 meth:∀c l m d,(c,l)∈T.meths->(m,d)∈l->∃C fa fd,B c=J C/\Cls K C/\Meth K C m fa/\DefOk K m d fa fd
 con:∀x v,(x,v)∈T.cons->∃u y,mg x=J u/\RelV y u/\∀Y H,RV K Y H v y
 isa:∀D l,(D,l)∈T.isas->∃c,mg D=J c/\IsOk B K c λt=>match t with|.ins c=>J (memS c l)|.exc _=>Zc|_=>J Zi
 fld:∀f,f∈T.flds->Yn B K f
 free:∀x,x∈T.frees->mg x=Zc
 rz:∀x,x∈T.razs->∃C,mg x=J (.ref C)/\W.nsIn K Zn x=J (J<|.ref C)/\XCls K C
 xi:∀D l,(D,l)∈T.xis->∃v,(mg D=J v\/(mg D=Zc/\Zbu D=J v))/\∀c b,(c,b)∈l->∃C,W.nsIn K Zn c=J (J<|.ref C)/\ExI K C/\W.kitOne K (.ref C) v=J b/\W.exmOne K (.ref C) v=J b
 bas:∀x,x∈T.bass->∃C,mg x=J (.ref C)/\BasK K C
 wr:∀x d,(x,d)∈T.wrs->∃fa fd p,mg x=J (.ref fa)/\DefOk K x d fa fd/\d.ps=[p]/\d.dvs=[]
 ne:∀c,c∈T.nes->∃C,B c=J C/\neIn K C=Zg/\ClsI K C/\W.kitOne K (.ref C) (.type "list")=J Zi
 xo:∀x d,(x,d)∈T.xms->∃C fa fd,mg x=J (.ref C)/\W.nsIn K Zn x=J (J<|.ref C)/\Qi K C fa=Zg/\W.keepIn K (.ref C)=Zg/\(∀h:Zam,K.In h->ExC h C)/\DefOk K "__init__" d fa fd
 xf:∀f l c,(f,l)∈T.xfs->c∈l->∃C,W.nsIn K Zn c=J (J<|.ref C)/\StoX K C f/\ExI K C/\W.findIn K (.ref C) f=J Zc
 xb:∀x,x∈T.xbs->∃C,mg x=J (.ref C)/\BasX K C
section
variable{B:CeT}{T:Tab}{prog:Z7}{w:ZU}{K:W.Frag}{mg:Str->Tc}{base:Zam}
theorem Jpw{k:Nat}{fa:Zm}{fd:ZaK}{ps:Tl}:FnOk prog w K mg base (CXI prog w) k fa fd ps (spI B K ps λ_ _=>.stuck):=#[λ_ _ _ _ h=>h.1,λ_ _ _ _ _ _ _ _ _ _ _ _ _ h=>by obtain⟨_,_,_,_,_,_,z⟩:=h;exact z.elim]
theorem J8b(kD:TabOk B T K mg):XiOk K mg (λD=>(JO D T.xis).map λl c=>JO c l) (xfOf T):=by
 refine#[λD g h=>?_,λf c C h m=>?_]
 rotate_left
 .have k:(match JO f T.xfs with|some l=>memS c l|none=>Zi)=Zg:=h;cases j:JO f T.xfs with|none=>rw[j]at k;cases k|some l=>rw[j]at k;obtain⟨E,q,r⟩:=kD.xf f l c (Qn j)<|VP k;rw[m]at q;cases q;exact r
 obtain⟨l,j,rfl⟩:=Z3.mp h;obtain⟨v,hv,F⟩:=kD.xi D l<|Qn j;refine#[v,hv,λc C b e m=>?_];obtain⟨E,u,L⟩:=F c b<|Qn e;rw[m]at u;cases u;exact L
theorem J7h(kD:TabOk B T K mg)(cS:T.tabs≠[]->Q8 mg base)(k:Nat)(u:∀x d fa fd,DefOk K x d fa fd->FnD B prog w K mg base (4*k) #[d.ps.length,d.dvs,run T k d] fa fd d.ps):PgOk B (4*k) (mkPg T<|run T k) prog w K mg base:=by
 refine#[λx f h=>?_,λx f h=>?_,λc m f h=>?_,λx v h=>?_,λD g h=>?_,λf h=>?_,λx h=>?_,λq j h=>cS λe=>?_,λx h=>kD.rz x<|VP h,J8b kD,λx h=>kD.bas x<|VP h,λx r h=>trivial,λc h=>kD.ne c<|VP h,λx f h=>?_,λx h=>kD.xb x<|VP h]
 .obtain⟨d,hd,rfl⟩:=Z3.mp h;obtain⟨fa,fd,hm,ok⟩:=kD.fn x d<|Qn hd;obtain⟨S,F⟩:=ok.fun_;exact#[fa,fd,d.ps,hm,F.kp,u x d fa fd ok]
 .obtain⟨d,hd,rfl⟩:=Z3.mp h;obtain⟨C,fa,fd,hm,E,M,ok⟩:=kD.cls x d<|Qn hd;exact#[C,fa,fd,d.ps,hm,E,M,u _ d fa fd ok]
 .obtain⟨d,hd,rfl⟩:=Z3.mp h;obtain⟨l,G,hd⟩:=ZdS.mp hd;obtain⟨C,fa,fd,E,cl,Q,ok⟩:=kD.meth c l m d (Qn G)<|Qn hd;exact#[C,fa,fd,d.ps,E,cl,Q,u m d fa fd ok]
 .exact kD.con x v<|Qn h
 .obtain⟨l,G,rfl⟩:=Z3.mp h;exact kD.isa D l<|Qn G
 .exact kD.fld f<|VP h
 .exact kD.free x<|VP h
 .have H:ixOf q T.tabs=J j:=h;rw[e]at H;cases H
 .obtain⟨d,hd,rfl⟩:=Z3.mp h;obtain⟨C,fa,fd,I,L,R,O,P,ok⟩:=kD.xo x d<|Qn hd;exact#[C,fa,fd,d.ps,I,L,R,O,P,u _ d fa fd ok]
theorem Jxn(kD:TabOk B T K mg)(cS:T.tabs≠[]->Q8 mg base):∀k x d fa fd,DefOk K x d fa fd->FnD B prog w K mg base (4*k) #[d.ps.length,d.dvs,run T k d] fa fd d.ps
 |0,x,d,fa,fd,ok=>#[rfl,Jpw,ok.dv]
 |k+1,x,d,fa,fd,ok=>by
  refine#[rfl,?_,ok.dv];obtain⟨C,F⟩:=ok.fun_;refine F.fn ok.sc λu A outer s H E j m=>?_
  refine VT (λst=>Jo9 B (4*k) (mkPg T<|run T k) 40 d.sc _ st ?_) _;exact#[rfl,rfl,ok.sc.nd,ok.sc.kind,rfl,m.mono 05,λ_ _=>rfl,J7h kD cS k<|Jxn kD cS k,λ_=>#[j,rfl],λ_=>m,λ_=>#[rfl,rfl]]
end
inductive All{α:Type}(p:α->Prop):List α->Prop|nil:All p []|cons {a:α}{l:List α}:p a->All p l->All p (a::l)
theorem All.mem:∀{l:List α}{a:α},All p l->a∈l->p a
 |_,_,.nil,h=>by cases h
 |_,_,.cons h r,m=>by
  rcases ZA.mp m with rfl|m
  .exact h
  .exact r.mem m
def Jxf(l:Tl):Ty->Ww:=λt=>match t with|.ins c=>J (memS c l)|.exc _=>Zc|_=>J Zi
section
variable{T:Tab}{K:W.Frag}{mg:Str->Tc}
def ceOf(ces:Wo):CeT:=λc=>JO c ces
def kits(K:W.Frag)(v:Zh)(l:List<|Zm×Bool):Bool:=l.all λp=>W.kitOne K (.ref p.1) v==J p.2&&W.exmOne K (.ref p.1) v==J p.2
theorem Yc{v:Zh}:∀{cs:Wo}{bs:List Bool},All (λp:Str×Zm=>W.nsIn K Zn p.1=J (J<|.ref p.2)/\ExI K p.2) cs->cs.length=bs.length->kits K v ((cs.map (·.2)).zip bs)=Zg ->All (λp:Str×Bool=>∃C,W.nsIn K Zn p.1=J (J<|.ref C)/\ExI K C/\W.kitOne K (.ref C) v=J p.2/\W.exmOne K (.ref C) v=J p.2) ((cs.map (·.1)).zip bs)|[],[],_,_,_=>.nil|(_,C)::_,_::_,.cons h r,e,q=>by simp only[kits,ZL,List.zip_cons_cons,Zap,Zz,beq_iff_eq]at q;exact .cons #[C,h.1,h.2,q.1.1,q.1.2] (Yc r (by simpa using e)<|by simpa only[kits]using q.2)|[],_::_,_,e,_=>by cases e|_::_,[],_,e,_=>by cases e
theorem J5d(j:Wo)(fn:All (λp:Str×D4=>∃fa fd,mg p.1=J (.ref fa)/\DefOk K p.1 p.2 fa fd) T.fns) (cls:All (λp:Str×D4=>∃C fa fd,mg p.1=J (.ref C)/\ceOf j p.1=J C/\Mk K C fa/\DefOk K "__init__" p.2 fa fd) T.clss) (meth:All (λq:Str×Wq=>∃C,ceOf j q.1=J C/\All (λp:Str×D4=>∃fa fd,Meth K C p.1 fa/\DefOk K p.1 p.2 fa fd) q.2) T.meths) (con:All (λp:Str×IV=>∃u y,mg p.1=J u/\RelV y u/\∀Y H,RV K Y H p.2 y) T.cons) (cl:All (λp:Str×Zm=>ClsI K p.2/\All (λf=>Qx K p.2 f) T.flds) j) (isa:All (λq:Str×Tl=>∃D,mg q.1=J (.ref D)/\W.kitOne K (.type "NoneType") (.ref D)=J Zi/\W.kitOne K (.type "bool") (.ref D)=J Zi/\W.kitOne K (.type "int") (.ref D)=J Zi/\W.kitOne K (.type "str") (.ref D)=J Zi /\ W.kitOne K (.type "list") (.ref D)=J Zi/\W.kitOne K (.type "tuple") (.ref D)=J Zi/\W.kitOne K (.type "dict") (.ref D)=J Zi/\All (λp:Str×Zm=>W.kitOne K (.ref p.2) (.ref D)=J (memS p.1 q.2)) j) T.isas) (free:All (λx=>mg x=Zc) T.frees) (F:All (λx=>∃C,mg x=J (.ref C)/\W.nsIn K Zn x=J (J<|.ref C)/\XCls K C) T.razs:=by exact .nil) (xis:All (λq:Str×List (Str×Bool)=>∃v,(mg q.1=J v\/(mg q.1=Zc/\Zbu q.1=J v))/\All (λp:Str×Bool=>∃C,W.nsIn K Zn p.1=J (J<|.ref C)/\ExI K C/\W.kitOne K (.ref C) v=J p.2/\W.exmOne K (.ref C) v=J p.2) q.2) T.xis:=by exact .nil) (bas:All (λx=>∃C,mg x=J (.ref C)/\BasK K C) T.bass:=by exact .nil) (wr:All (λq:Str×D4=>(∃fa fd,mg q.1=J (.ref fa)/\DefOk K q.1 q.2 fa fd)/\∃p,q.2.ps=[p]/\q.2.dvs=[]) T.wrs:=by exact .nil) (nes:All (λc=>∃C,ceOf j c=J C/\neIn K C=Zg/\W.kitOne K (.ref C) (.type "list")=J Zi) T.nes:=by exact .nil) (xms:All (λp:Str×D4=>∃C fa fd,mg p.1=J (.ref C)/\W.nsIn K Zn p.1=J (J<|.ref C)/\Qi K C fa=Zg/\W.keepIn K (.ref C)=Zg/\(∀h:Zam,K.In h->ExC h C)/\DefOk K "__init__" p.2 fa fd) T.xms:=by exact .nil) (xfs:All (λq:Str×Tl=>All (λc=>∃C,W.nsIn K Zn c=J (J<|.ref C)/\StoX K C q.1/\ExI K C/\W.findIn K (.ref C) q.1=J Zc) q.2) T.xfs:=by exact .nil) (xbs:All (λx=>∃C,mg x=J (.ref C)/\BasX K C) T.xbs:=by exact .nil):TabOk (ceOf j) T K mg:=by
 refine#[λx d h=>fn.mem h,λx d h=>cls.mem h,λc l m d B hm=>?_,λx v h=>con.mem h,λD l h=>?_,λf P=>?_,λx h=>free.mem h,λx h=>F.mem h,λD l h=>?_,λx h=>bas.mem h,λx d h=>let ⟨⟨fa,fd,a,b⟩,p,c,e⟩:=wr.mem h;#[fa,fd,p,a,b,c,e],λc h=>let ⟨C,p,q,r⟩:=nes.mem h;#[C,p,q,(cl.mem<|Qn p).1,r],λx d h=>xms.mem h,λf l c h B=>(xfs.mem h).mem B,λx h=>xbs.mem h]
 .obtain⟨C,E,I⟩:=meth.mem B;obtain⟨fa,fd,X,ok⟩:=I.mem hm;exact#[C,fa,fd,E,(cl.mem<|Qn E).1.cl,X,ok]
 .obtain⟨C,E,G,L,Z,U,V,O,Q,R⟩:=isa.mem h;refine#[_,E,#[λb e=>?_,λb e=>?_,λb e=>?_,λb e=>?_,λb e=>?_,λb e=>?_,λb e=>?_,λk S b e M=>?_,(λk S b e=>by cases e)]]
  .cases e;exact G
  .cases e;exact L
  .cases e;exact Z
  .cases e;exact U
  .cases e;exact V
  .cases e;exact O
  .cases e;exact Q
  .cases e;exact#[(cl.mem<|Qn M).1,R.mem<|Qn M]
 .intro c C e;obtain⟨G,L⟩:=cl.mem<|Qn e;exact#[G.cl,L.mem P]
 .obtain⟨v,hv,I⟩:=xis.mem h;exact#[v,hv,λc b B=>I.mem B]
theorem len1{α:Type}{P:List α->Prop}(j:∀a,P [a]):∀us:List α,us.length=1->P us|[a],_=>j a
theorem len2{α:Type}{P:List α->Prop}(j:∀a b,P [a,b]):∀us:List α,us.length=2->P us|[a,b],_=>j a b
theorem len3{α:Type}{P:List α->Prop}(j:∀a b c,P [a,b,c]):∀us:List α,us.length=3->P us|[a,b,c],_=>j a b c
theorem len4{α:Type}{P:List α->Prop}(j:∀a b c d,P [a,b,c,d]):∀us:List α,us.length=4->P us|[a,b,c,d],_=>j a b c d
theorem len5{α:Type}{P:List α->Prop}(j:∀a b c d e,P [a,b,c,d,e]):∀us:List α,us.length=5->P us|[a,b,c,d,e],_=>j a b c d e
theorem len6{α:Type}{P:List α->Prop}(j:∀a b c d e f,P [a,b,c,d,e,f]):∀us:List α,us.length=6->P us|[a,b,c,d,e,f],_=>j a b c d e f
theorem len7{α:Type}{P:List α->Prop}(j:∀a b c d e f g,P [a,b,c,d,e,f,g]):∀us:List α,us.length=7->P us|[a,b,c,d,e,f,g],_=>j a b c d e f g
theorem J7y:∀j:Nat,j<=3->j=0\/j=1\/j=2\/j=3:=05
theorem Jxm{x:Str}{d:D4}{fa:Zm}{oc kV m pm k ct:Zh}{od an:Te}{u:Wb}(C:K.lookup fa=J #[oc,od,.func<|W.fnOf x d.qual (QN d.st) (Q0 d.st) (JS d.st) .none kV m pm an k ct,u]) (B:W.codeIn K k d.qual=Zg)(D:W.keepIn K (.ref fa)=Zg)(sc:FnScope d.N d.ps<|JS d.st)(hd:d.dvs=[]) (E:∀us:Tv,us.length=d.ps.length->Ze5 (W.fnOf x d.qual (QN d.st) (Q0 d.st) (JS d.st) .none kV m pm an k ct) #[us,[]]=pure (d.ps.zip us)):DefOk K x d fa (W.fnOf x d.qual (QN d.st) (Q0 d.st) (JS d.st) .none kV m pm an k ct):=#[#[_,#[oc,od,kV,m,pm,an,k,ct,u,rfl,C,B],D],sc,λj F=>#[[],.all E,by rw[hd];simp,[],.nil,by rw[hd];intro _ _;cases j<;>exact rfl]]
noncomputable def scOk (N P:Tl)(sc:Zbm):Bool:=sc.kind==.function&&!sc.isCoroutine&&!sc.isGenerator&&decide N.Nodup&&decide (N.take P.length=P)&&P.all (λx=>sc.names.lookup x==J .local||sc.names.lookup x==J .cell)&&sc.names.all (λy=>!(y.2==.free))
theorem scOk.of(h:scOk N P sc=Zg):FnScope N P sc:=by simp only[scOk,Zz,beq_iff_eq,ZbD,decide_eq_true_eq,ZaY,Zb8,beq_eq_false_iff_ne]at h;obtain⟨⟨⟨⟨⟨⟨h1,L⟩,h3⟩,h4⟩,h5⟩,h6⟩,h7⟩:=h;exact#[h1,L,h3,h4,h5,h6,h7]
def FnB(x q:Str)(d:D4):Prop:=FnScope d.N d.ps (JS d.st)/\d.dvs=[]/\d.qual=q/\∀(kV doc pm:Zh)(an:Te)(cdv ct:Zh)(us:Tv),us.length=d.ps.length->Ze5 (W.fnOf x d.qual (QN d.st) (Q0 d.st) (JS d.st) .none kV doc pm an cdv ct) #[us,[]]=pure (d.ps.zip us)
section
variable{x q:Str}{d:D4}{h:Zam}{a C:Zm}{oc kV dc pm cd ct:Zh}{od an:Te}{sl:Wb}
theorem Jow(cS:FnB x q d)(j:K.lookup a=J #[oc,od,.func<|W.fnOf x q (QN d.st) (Q0 d.st) (JS d.st) .none kV dc pm an cd ct,sl])(m:W.codeIn K cd q=Zg)(k:W.keepIn K (.ref a)=Zg):∃fd,DefOk K x d a fd:=by obtain⟨s,v,rfl,b⟩:=cS;exact#[_,Jxm j m k s v<|b _ _ _ _ _ _]
theorem J4(X:K.In h)(G:h.Ns Zn mg)(cS:FnB x q d)(ha:W.nsIn K Zn x=J (J<|.ref a):=by k_is)(j:K.lookup a=J #[oc,od,.func<|W.fnOf x q (QN d.st) (Q0 d.st) (JS d.st) .none kV dc pm an cd ct,sl]:=by k_is)(m:W.codeIn K cd q=Zg:=by k_is)(k:W.keepIn K (.ref a)=Zg:=by k_is):∃fa fd,mg x=J (.ref fa)/\DefOk K x d fa fd:=
 let ⟨fd,D⟩:=Jow cS j m k
 #[a,fd,W.mg_of X G ha,D]
theorem JQ(cS:FnB x q d)(ha:W.findIn K (.ref C) x=J (J<|.ref a):=by k_is)(hi:W.isFn K (.ref a)=Zg:=by k_is)(k:K.lookup a=J #[oc,od,.func<|W.fnOf x q (QN d.st) (Q0 d.st) (JS d.st) .none kV dc pm an cd ct,sl]:=by k_is)(m:W.codeIn K cd q=Zg:=by k_is)(j:W.keepIn K (.ref a)=Zg:=by k_is):∃fa fd,Meth K C x fa/\DefOk K x d fa fd:=
 let ⟨fd,D⟩:=Jow cS k m j
 #[a,fd,#[ha,hi,j],D]
theorem XJ(cS:FnB "__init__" q d)(ha:W.findIn K (.ref C) "__init__"=J (J<|.ref a):=by k_is)(hi:W.isFn K (.ref a)=Zg:=by k_is)(j:K.lookup a=J #[oc,od,.func<|W.fnOf "__init__" q (QN d.st) (Q0 d.st) (JS d.st) .none kV dc pm an cd ct,sl]:=by k_is)(k:W.codeIn K cd q=Zg:=by k_is)(m:W.keepIn K (.ref a)=Zg:=by k_is)(hm:W.makesIn K C=Zg:=by k_is)(u:W.keepIn K (.ref C)=Zg:=by k_is):∃fa fd,Mk K C fa/\DefOk K "__init__" d fa fd:=
 let ⟨fd,D⟩:=Jow cS j k m
 #[a,fd,#[hm,ha,hi,u],D]
end
theorem J2n(x:Qi K C f=Zg)(h:Zam)(I:K.In h):ExC h C:=by obtain⟨u,N,nm,q,bs,j,D,sub,L,k,m,G,F,H,B,M,O,P,E,_,_,T,_⟩:=Qi.obj x I;exact#[nm,q,N,bs,u,j,D,sub,L,k,m,G,F,H,B,M,_,E,T.hasType 01]
theorem J32{q:Str}{d:D4}{a C:Zm}{oc kV dc pm cd ct:Zh}{od an:Te}{sl:Wb}(cS:FnB "__init__" q d)(_:W.findIn K (.ref C) "__init__"=J (J<|.ref a))(j:K.lookup a=J #[oc,od,.func<|W.fnOf "__init__" q (QN d.st) (Q0 d.st) (JS d.st) .none kV dc pm an cd ct,sl])(k:W.codeIn K cd q=Zg)(m:W.keepIn K (.ref a)=Zg)(hx:Qi K C a=Zg)(u:W.keepIn K (.ref C)=Zg):∃fa fd,Qi K C fa=Zg/\W.keepIn K (.ref C)=Zg/\DefOk K "__init__" d fa fd:=
 let ⟨fd,D⟩:=Jow cS j k m
 #[a,fd,hx,u,D]
theorem Jz7{prog:Z7}{w:ZU}(kD:TabOk B T K mg)(cS:T.tabs≠[]->Q8 mg base)(k:Nat){d:D4}(hp:d.ps=[x])(ok:DefOk K "law" d fa fd):FnOk prog w K mg base (CXI prog w) (4*k) fa fd [x] (XW K x<|run T k d):=by have:=(Jxn (prog:=prog) (w:=w) kD cS k "law" d fa fd ok).ok;rw[hp]at this;exact Ju8 this
end
def WR{α:Type}(r:Res α)(Q:α->IH->Prop):Prop:=match r with|.ok a h=>Q a h|_=>False
def WS(r:SRes)(N:ISt->IH->Prop)(R:IV->IH->Prop):Prop:=match r with|.next U h=>N U h|.ret v h=>R v h|_=>False
section
variable{α β:Type}{U:ISt}{h:IH}{Q:α->IH->Prop}{N:ISt->IH->Prop}{R:IV->IH->Prop}
theorem WR.mono(x:WR r P)(f:∀a h,P a h->Q a h):WR r Q:=by cases r with|ok a h=>exact f a h x|exc n h=>exact x|stuck=>exact x
theorem Jd(e:r=.ok a h)(q:Q a h):WR r Q:=by rw[e];exact q
theorem WR.eq(x:WR r Q):∃a h,r=.ok a h/\Q a h:=by cases r with|ok a h=>exact#[a,h,rfl,x]|exc n h=>exact x.elim|stuck=>exact x.elim
theorem WS.mono(x:WS r N R)(f:∀U h,N U h->N' U h)(g:∀v h,R v h->R' v h):WS r N' R':=by cases r with|next U h=>exact f U h x|ret v h=>exact g v h x|_=>exact x
theorem YN(a:α):WR (.ok a h) Q=Q a h:=rfl
theorem J7(r:Res α)(f:α->IH->Res β)(Q:β->IH->Prop):WR (r.bind f) Q=WR r λa h=>WR (f a h) Q:=by cases r<;>rfl
theorem Vx(c:Prop)[Decidable c](x y:Res α):WR (if c then x else y) Q=((c->WR x Q)/\(¬c->WR y Q)):=by by_cases j:c<;>simp[j]
theorem Qw(r:Res α)(k:α->IH->SRes):WS (rS U r k) N R=WR r λa h=>WS (k a h) N R:=by cases r<;>rfl
theorem J5m(r:SRes)(Q:IV->IH->Prop):WR r.fin Q=WS r (λ_ h=>Q .non h) Q:=by cases r with|exc n U h=>show WR (match h[n]? with|some (.exc _ _)=>Res.exc n h|_=>Res.stuck) Q=False;split<;>rfl|_=>rfl
theorem J50(a b:S1):WS (Jf a b U h) N R=WS (a U h) (λj h1=>WS (b j h1) N R) R:=by unfold Jf;cases a U h<;>rfl
theorem J51(i:Nat)(e:E1):WS (Jh i e U h) N R=WR (e U h) λv h1=>N (U.set i<|J v) h1:=by unfold Jh;rw[Qw];rfl
theorem J71(t:T1)(a b:S1):WS (sIf t a b U h) N R=WR (t U h) λc h1=>(c=Zg->WS (a U h1) N R)/\(c=Zi->WS (b U h1) N R):=by unfold sIf;rw[Qw];congr 1;funext c h1;cases c<;>simp
theorem J17(e:E1):WS (Jk e U h) N R=WR (e U h) R:=by unfold Jk;rw[Qw];rfl
theorem J15(e:E1):WS (JA e U h) N R=WR (e U h) λ_ h1=>N U h1:=by unfold JA;rw[Qw];rfl
theorem Ya(e:E1)(g:G1):WS (sAsg e g U h) N R=WR (e U h) λv h1=>WS (g v U h1) N R:=by unfold sAsg;rw[Qw]
theorem YQ(f:Str)(o e:E1):WS (JT f o e U h) N R=WR (e U h) λv h1=>WR (o U h1) λB L=>∃i c fs,B=.ref i/\L[i]?=J (.ins c fs)/\fs.length<1000/\N U (L.set i<|.ins c<|putI f v fs):=by
 unfold JT;rw[Qw];congr 1;funext v h1;rw[Qw];congr 1;funext B L;cases B with
 |ref i=>
  cases e:L[i]? with|none=>simp[WS,e]|some o=>
   cases o with
   |ins c fs=>
    by_cases k:fs.length<1000
    .simp only[e,k];refine propext #[λq=>#[i,c,fs,rfl,e,k,q],λ⟨E,D,m,C,j,_,q⟩=>?_];cases C;rw[e]at j;cases j;exact q
    .simp only[e,k];refine propext #[λq=>q.elim,λ⟨E,D,m,C,j,u,_⟩=>?_];cases C;rw[e]at j;cases j;exact k u
   |_=>simp[WS,e]
 |_=>simp[WS]
theorem Jyn(it:I1)(g:G1)(b:S1):WS (sFor it g b U h) N R=WR (it U h) λcK h1=>WS (Qj cK.chk g b cK.xs U h1) N R:=by unfold sFor;rw[Qw]
theorem VB(v:IV)(Q:IV->IH->Prop):WR (eC v U h) Q=Q v h:=rfl
theorem YL(f:IV->IV->IH->Res IV)(a b:E1)(Q:IV->IH->Prop):WR (Jc f a b U h) Q=WR (a U h) λx h1=>WR (b U h1) λy L=>WR (f x y L) Q:=by unfold Jc;rw[J7];congr 1;funext x h1;rw[J7]
theorem J70(t:T1)(a b:E1)(Q:IV->IH->Prop):WR (eIf t a b U h) Q=WR (t U h) λc h1=>(c=Zg->WR (a U h1) Q)/\(c=Zi->WR (b U h1) Q):=by unfold eIf;rw[J7];congr 1;funext c h1;cases c<;>simp
theorem J13(a b:T1)(Q:Bool->IH->Prop):WR (QT a b U h) Q=WR (a U h) λc h1=>(c=Zg->WR (b U h1) Q)/\(c=Zi->Q Zi h1):=by unfold QT;rw[J7];congr 1;funext c h1;cases c<;>simp[WR]
theorem Jw5(f g:IV->IV->IH->Res IV)(a b c:E1)(Q:IV->IH->Prop):WR (JJ f g a b c U h) Q=WR (a U h) λx h1=>WR (b U h1) λy L=>WR (f x y L) λk h3=>∃t,k=.bl t/\(t=Zg->WR (c U h3) λz j=>WR (g y z j) Q)/\(t=Zi->Q (.bl Zi) h3):=by
 unfold JJ;rw[J7];congr 1;funext x h1;rw[J7];congr 1;funext y L;rw[J7];congr 1;funext k h3;cases k with
 |bl t=>cases t with|true=>rw[J7];simp|false=>simp[WR]
 |_=>simp[WR]
theorem J5w(a:A1)(Q:IV->IH->Prop):WR (Jz a U h) Q=WR (a U h) λxs h1=>xs.length<=sizeLine/\Q (.tup xs) h1:=by unfold Jz;rw[J7];congr 1;funext xs h1;rw[Vx];by_cases j:xs.length<=sizeLine<;>simp[j,WR]
theorem J5t(a:A1)(Q:IV->IH->Prop):WR (Jx a U h) Q=WR (a U h) λxs h1=>xs.length<=sizeLine/\Q (.ref h1.length) (h1++[.lst xs]):=by unfold Jx;rw[J7];congr 1;funext xs h1;rw[Vx];by_cases j:xs.length<=sizeLine<;>simp[j,WR]
theorem J1p(f:Tx->IH->Res IV)(d:Tx)(a:A1)(Q:IV->IH->Prop):WR (Ji f d a U h) Q=WR (a U h) λO h1=>WR (f (O++d) h1) Q:=by unfold Ji;rw[J7]
theorem XZ(c:Str)(f:Tx->IH->Res IV)(d:Tx)(a:A1)(Q:IV->IH->Prop):WR (Q2 c f d a U h) Q=WR (a U h) λO h1=>WR (f (.ref h1.length::(O++d))<|h1++[.ins c []]) λr L=>r=.non/\Q (.ref h1.length) L:=by unfold Q2;rw[J7];congr 1;funext O h1;rw[J7];congr 1;funext r L;cases r<;>simp[WR]
theorem J5l(f:Tx->IH->Res IV)(a:A1)(Q:IV->IH->Prop):WR (eCB f a U h) Q=WR (a U h) λO h1=>WR (f O h1) Q:=by unfold eCB;rw[J7]
theorem Jym(f:IV->IH->Res IV)(x:IV)(Q:IV->IH->Prop):WR (on1 f [x] h) Q=WR (f x h) Q:=rfl
theorem J5o(j:Ty->Ww)(e:E1)(Q:IV->IH->Prop):WR (eIsi j e U h) Q=WR (e U h) λv h1=>∃b,(tyI v h1).bind j=J b/\Q (.bl b) h1:=by unfold eIsi;rw[J7];congr 1;funext v h1;cases (tyI v h1).bind j<;>simp[WR]
theorem YO(f:IV->Wz->Wz->IH->Res IV)(e:E1)(lo hi:O1)(Q:IV->IH->Prop):WR (eSl f e lo hi U h) Q=WR (e U h) λx h1=>WR (lo U h1) λl L=>WR (hi U L) λu h3=>WR (f x l u h3) Q:=by unfold eSl;rw[J7];congr 1;funext x h1;rw[J7];congr 1;funext l L;rw[J7]
noncomputable def VM (f:Str)(v:IV)(h:IH):Tg:=match v with|.ref i=>(match h[i]? with|some (.ins _ fs)=>fs.lookup f|_=>Zc)|_=>Zc
theorem J5n(f:Str)(o:E1)(Q:IV->IH->Prop):WR (Jp f o U h) Q=WR (o U h) λv h1=>∃x,VM f v h1=J x/\Q x h1:=by
 unfold Jp;rw[J7];congr 1;funext v h1;cases v with
 |ref i=>
  unfold VM;cases e:h1[i]? with|none=>simp[WR,e]|some k=>cases k with|ins c fs=>cases j:fs.lookup f<;>simp[WR,e,j]|_=>simp[WR,e]
 |_=>simp[WR,VM]
variable{i j:Int}{x y:Str}{P:IV->IH->Prop}
theorem J5v(i j:Int):WR (Qe (.int i) (.int j) h) P=(Vc i j/\P (.int<|i*j) h):=by show WR (VR (.int i) (.int j) h) P=_;unfold VR;rw[Vx];by_cases hm:Vc i j<;>simp[hm,WR]
theorem J1t(i j:Int):WR (JG (.int i) (.int j) h) P=((0<j/\j.natAbs.log2<9000)/\P (.int<|i/j) h):=by unfold JG;rw[Vx];by_cases hm:0<j/\j.natAbs.log2<9000<;>simp[hm,WR]
theorem J5u(i j:Int):WR (Ju (.int i) (.int j) h) P=(0<j/\P (.int<|i%j) h):=by unfold Ju;rw[Vx];by_cases hm:0<j<;>simp[hm,WR]
theorem Jpn(i j:Int):WR (JM (.int i) (.int j) h) P=((0<=j/\j<=1000000/\i.natAbs<2^64)/\P (.int<|i^j.toNat) h):=by unfold JM;rw[Vx];by_cases hm:0<=j/\j<=1000000/\i.natAbs<2^64<;>simp[hm,WR]
theorem J1n(x y:Str):WR (Jm (.str x) (.str y) h) P=(x.length+y.length<=sizeLine/\P (.str<|x++y) h):=by unfold Jm;rw[Vx];by_cases hm:x.length+y.length<=sizeLine<;>simp[hm,WR]
theorem J5s(x y:Str):WR (cLe (.str x) (.str y) h) P=P (.bl (!decide (y.cps.toList<x.cps.toList))) h:=rfl
theorem Vb{chk:IH->Prop}{g:G1}{b:S1}(I:Nat->ISt->IH->Prop){xs:Tx}(H:∀i U h,I i U h->chk h) (D:∀i (hi:i<xs.length) U h,I i U h->WS (g xs[i] U h) (λF h1=>WS (b F h1) (I<|i+1) R) λ_ _=>False)(done:∀U h,I xs.length U h->N U h)(start:I 0 U h):WS (Qj chk g b xs U h) N R:=by
 have G:∀(n i:Nat)(U:ISt)(h:IH),xs.length-i=n->i<=xs.length->I i U h->WS (Qj chk g b (xs.drop i) U h) N R:=by
  intro n;induction n with|zero=>intro i U h hn hi E;have:i=xs.length:=05;subst this;rw[List.drop_length];unfold Qj;rw[if_pos<|H _ _ _ E];exact done _ _ E|succ n M=>
   intro i U h hn hi E;have u:i<xs.length:=05;rw[Za4 u];unfold Qj;rw[if_pos<|H _ _ _ E];have t:=D i u U h E;cases B:g xs[i] U h with
   |next F h1=>rw[B]at t;have j:WS (b F h1) (I<|i+1) R:=t;dsimp only;cases C:b F h1 with|next k L=>rw[C]at j;exact M (i+1) k L 05 u j|ret v L=>rw[C]at j;exact j|brk k L=>rw[C]at j;exact j.elim|cont k L=>rw[C]at j;exact j.elim|exc m k L=>rw[C]at j;exact j.elim|stuck=>rw[C]at j;exact j.elim
   |ret v h1=>rw[B]at t;exact t.elim
   |brk k L=>rw[B]at t;exact t.elim
   |cont k L=>rw[B]at t;exact t.elim
   |exc m k L=>rw[B]at t;exact t.elim
   |stuck=>rw[B]at t;exact t.elim
 have:=G xs.length 0 U h 05 (ZN _) start;simpa using this
end
section
variable{α:Type}{h h1:IH}{a:α}{r:Res α}{P:IV->IH->Prop}
theorem Js(x:WR r λv h'=>v=a/\h'=h1):r=.ok a h1:=by obtain⟨_,_,e,rfl,rfl⟩:=x.eq;exact e
theorem J5r(xs:Tx)(n:Int):WR (Jg (.tup xs) (.int n) h) P=∃x,atI xs n=J x/\P x h:=by unfold Jg;cases e:atI xs n<;>simp[WR,e]
theorem J5q(xs:Tx)(n:Int):WR (Jg (.rol xs) (.int n) h) P=∃x,atI xs n=J x/\P x h:=by unfold Jg;cases e:atI xs n<;>simp[WR,e]
theorem J5p(i:Nat)(n:Int):WR (Jg (.ref i) (.int n) h) P=∃xs,h[i]?=J (.lst xs)/\∃x,atI xs n=J x/\P x h:=by
 unfold Jg;cases e:h[i]? with|none=>simp[WR,e]|some o=>cases o with|lst xs=>cases j:atI xs n<;>simp[WR,e,j]|_=>simp[WR,e]
theorem J1w(i:Nat):WR (lenI (.ref i) h) P=∃xs,h[i]?=J (.lst xs)/\P (.int xs.length) h:=by unfold lenI;cases e:h[i]? with|none=>simp[WR,e]|some o=>cases o<;>simp[WR,e]
theorem J1x(x:Str):WR (lenI (.str x) h) P=(x.length<=sizeLine/\P (.int x.length) h):=by unfold lenI;rw[Vx];by_cases hm:x.length<=sizeLine<;>simp[hm,WR]
theorem JH{xs:List α}{n:Nat}(e:xs[n]?=J x):atI xs (n:Int)=J x:=by have hn:=(Zo.mp e).1;have:(n:Int)<xs.length:=05;simp[atI,ixN,this,e]
theorem JV:atI (x::xs) 0=J x:=by simp[atI,ixN]
theorem JN{x y:α}{xs:List α}:atI (x::y::xs) 1=J y:=JH rfl
theorem Qd{x y z:α}{xs:List α}:atI (x::y::z::xs) 2=J z:=JH rfl
theorem Ve{x y z u:α}{xs:List α}:atI (x::y::z::u::xs) 3=J u:=JH rfl
theorem X4{x y z u v:α}{xs:List α}:atI (x::y::z::u::v::xs) 4=J v:=JH rfl
theorem Jjc{xs:List α}{n:Int}(h0:0<=n)(e:xs[n.toNat]?=J x):atI xs n=J x:=by have:=JH e;rwa [Int.toNat_of_nonneg h0]at this
theorem Jyg(e:h[i]?=J (.lst xs)):tyI (.ref i) h=J .lst:=by simp[tyI,e]
theorem grow{i:Nat}(e:h[i]?=J o):(h++g)[i]?=J o:=by rw[Z8 (Zo.mp e).1];exact e
theorem grown:(h++[o])[h.length]?=J o:=03
theorem JC(e:h[i]?=J o):i<h.length:=(Zo.mp e).1
theorem Jk9(f:IV->Bool):∀xs:Tx,X6 (xs.map λx=>.bl<|f x)=J (xs.map f)|[]=>rfl|x::xs=>by simp[X6,Jk9 f xs]
theorem all_map{xs:Tx}(e:h[i]?=J (.lst<|xs.map λx=>.bl<|f x)):allI (.ref i) h=.ok (.bl<|xs.all f) h:=by simp[allI,e,Jk9]
end
def Ex(h h':IH):Prop:=∃g,h'=h++g
theorem Ex.refl(h:IH):Ex h h:=#[[],03]
theorem Ex.trans(a:Ex h h1)(b:Ex h1 L):Ex h L:=by obtain⟨g,rfl⟩:=a;obtain⟨j,rfl⟩:=b;exact#[g++j,03]
theorem Ex.get(a:Ex h h'){i:Nat}(e:h[i]?=J o):h'[i]?=J o:=by obtain⟨g,rfl⟩:=a;exact grow e
theorem Ex.one(h:IH)(o:IX):Ex h (h++[o]):=#[[o],rfl]
theorem Ex.len(a:Ex h h'):h.length<=h'.length:=by obtain⟨g,rfl⟩:=a;simp
section
variable{α:Type}{h:IH}
theorem Jy3{chk:IH->Prop}{t:T1}{e:E1}{u:ISt}{p:IV->Bool}{f:IV->IV}(m:Nat):∀{xs acc:Tx}{o:Tg}{h1:IH},h1[m]?=J (.lst acc)->(∀L,(∀j k,j≠m->h1[j]?=J k->L[j]?=J k)->chk L)->acc.length+xs.length<sizeLine ->(∀x∈xs,∀L,(∀j k,j≠m->h1[j]?=J k->L[j]?=J k)->WR (t (J x::u) L) λb h3=>b=p x/\Ex L h3) ->(∀x∈xs,p x=Zg->∀L,(∀j k,j≠m->h1[j]?=J k->L[j]?=J k)->WR (e (J x::u) L) λv h3=>v=f x/\Ex L h3) ->WR (JW chk (gNm 0) t e m xs (o::u) h1) λv h3=>v=.ref m/\∃g,h3=h1.set m (.lst<|acc++(xs.filter p).map f)++g
 |[],acc,o,h1,hi,hc,_,_,_=>by
  unfold JW;rw[if_pos<|hc h1 λ_ _ _ q=>q];refine#[rfl,[],?_];simp;refine(Zbs λj=>?_);by_cases M:j=m
  .subst M;rw[hi,ZE<|JC hi]
  .rw[ZC<|ZP M]
 |x::xs,acc,o,h1,hi,hc,hl,ht,he=>by
  unfold JW;rw[if_pos<|hc h1 λ_ _ _ q=>q];dsimp only[gNm,Zd5];have O:acc.length+xs.length+1<sizeLine:=by simpa[ZeO]using hl
  obtain⟨b,L,S,rfl,C⟩:=(ht x ZB h1 λ_ _ _ q=>q).eq;rw[S];have B:∀j k,j≠m->h1[j]?=J k->L[j]?=J k:=λj k _ q=>C.get q
  cases hp:p x with
  |false=>
   dsimp only;refine WR.mono (Jy3 m (C.get hi) (λh3 q=>hc h3 λj k n r=>q j k n<|B j k n r) 05 (λy E h3 q=>ht y (Zr _ E) h3 λj k n r=>q j k n<|B j k n r) λy E D h3 q=>he y (Zr _ E) D h3 λj k n r=>q j k n<|B j k n r) λv h3 ⟨ev,g,I⟩=>#[ev,?_]
   obtain⟨g2,rfl⟩:=C;refine#[g2++g,?_];rw[I,Za3 (h:=JC hi)];simp[hp]
  |true=>
   dsimp only;obtain⟨v,h3,P,rfl,H⟩:=(he x ZB hp L B).eq;rw[P];dsimp only;rw[H.get<|C.get hi];dsimp only;rw[if_pos 05];have F:∀j k,j≠m->h1[j]?=J k->(h3.set m<|.lst<|acc++[f x])[j]?=J k:=λj k n q=>by rw[ZC<|ZP n];exact H.get<|C.get q
   refine WR.mono (Jy3 m (acc:=acc++[f x]) (by rw[ZE<|JC<|H.get<|C.get hi]) (λG q=>hc G λj k n r=>q j k n<|F j k n r) (by simp;lia) (λy E G q=>ht y (Zr _ E) G λj k n r=>q j k n<|F j k n r) λy E D G q=>he y (Zr _ E) D G λj k n r=>q j k n<|F j k n r) λv G ⟨ev,g,I⟩=>#[ev,?_]
   obtain⟨Q,R⟩:=C.trans H;refine#[Q++g,?_];rw[I,R,Za3 (h:=JC hi),Za3 (h:=by rw[Zbg];exact JC hi),Zet];simp[hp]
theorem YM{t:T1}{e:E1}{js:Tr}{p:IV->Bool}{f:IV->IV}(hit:WR (it U h0) λcK h1=>cK.xs=xs/\cK.chk=chk/\h1=h)(u:xs.length<sizeLine) (E:∀L:IH,(∀(j:Nat)(k:IX),h[j]?=J k->L[j]?=J k)->chk L) (B:∀x∈xs,∀L:IH,(∀(j:Nat)(k:IX),h[j]?=J k->L[j]?=J k)->WR (t (J x::js.map λj=>(U[j]?).join) L) λb h3=>b=p x/\Ex L h3) (F:∀x∈xs,p x=Zg->∀L:IH,(∀(j:Nat)(k:IX),h[j]?=J k->L[j]?=J k)->WR (e (J x::js.map λj=>(U[j]?).join) L) λv h3=>v=f x/\Ex L h3):WR (J1 it 1 js (gNm 0) t e U h0) λv h3=>v=.ref h.length/\∃g,h3=h++.lst ((xs.filter p).map f)::g:=by
 obtain⟨cK,h1,H,G,C,rfl⟩:=hit.eq;unfold J1;rw[H];show WR (JW cK.chk (gNm 0) t e h1.length cK.xs (Zc::js.map λj=>(U[j]?).join)<|h1++[.lst []]) _;rw[G,C];have m:∀{L:IH},(∀j k,j≠h1.length->(h1++[IX.lst []])[j]?=J k->L[j]?=J k)->∀j k,h1[j]?=J k->L[j]?=J k:=λq j k r=>q j k (Z1<|JC r)<|grow r
 refine WR.mono (Jy3 h1.length grown (λL q=>E L<|m q) (by simpa using u) (λx hx L q=>B x hx L<|m q) λx hx hp L q=>F x hx hp L<|m q) λv h3 ⟨ev,g,D⟩=>#[ev,g,?_]
 rw[D];simp
theorem filt{α:Type}(xs:List α):xs.filter (λ_=>Zg)=xs:=List.filter_eq_self.mpr 03
theorem Qh{e:E1}{js:Tr}{f:IV->IV}(hit:WR (it U h0) λcK h1=>cK.xs=xs/\cK.chk=chk/\h1=h)(m:xs.length<sizeLine) (u:∀L:IH,(∀(j:Nat)(k:IX),h[j]?=J k->L[j]?=J k)->chk L) (B:∀x∈xs,∀L:IH,(∀(j:Nat)(k:IX),h[j]?=J k->L[j]?=J k)->WR (e (J x::js.map λj=>(U[j]?).join) L) λv h3=>v=f x/\Ex L h3):WR (J1 it 1 js (gNm 0) JF e U h0) λv h3=>v=.ref h.length/\∃g,h3=h++.lst (xs.map f)::g:=by
 have:=YM (t:=JF) hit m u (λ_ _ L _=>#[rfl,.refl _]) λx hx _ L q=>B x hx L q
 rwa [filt]at this
theorem J6{g:IH}:(h++o::g)[h.length]?=J o:=03
theorem Ex.cons(h:IH)(o:IX)(g:IH):Ex h (h++o::g):=#[_,rfl]
end
section
variable{U:ISt}{h h1:IH}{Q:IV->IH->Prop}{cK:ItI->IH->Prop}
theorem JZ(e:E1):WR (Jv e U h) cK=WR (e U h) λv h1=>WR (Jz2 v h1) cK:=by unfold Jv;rw[J7]
theorem Xu(f:Tx->IH->Res ItI)(a:A1):WR (iRg f a U h) cK=WR (a U h) λO h1=>WR (f O h1) cK:=by unfold iRg;rw[J7]
theorem Qa(i:Nat):WR (Jz2 (.ref i) h) cK=∃xs,h[i]?=J (.lst xs)/\cK #[xs,λh'=>h'[i]?=J (.lst xs)] h:=by show WR (itOf (.ref i) h) cK=_;unfold itOf;cases e:h[i]? with|none=>simp[WR,e]|some o=>cases o<;>simp[WR,e]
theorem Jn5(i:Nat):WR (QV [.ref i] h) cK=∃xs,h[i]?=J (.lst xs)/\cK #[Q3 0 xs,λh'=>h'[i]?=J (.lst xs)] h:=by unfold QV;cases e:h[i]? with|none=>simp[WR,e]|some o=>cases o<;>simp[WR,e]
theorem Jkw(j:Int):WR (QC [.int j] h) cK=((-(2^62)<=j/\j<2^62)/\cK #[rngI 0 j,λ_=>True] h):=by unfold QC;rw[Vx];exact propext #[λ⟨a,b⟩=>(Classical.em _).elim (λq=>#[q,a q]) λq=>(b q).elim,λ⟨a,b⟩=>#[λ_=>b,λq=>absurd a q]]
theorem Qp(i j:Int):(rngI i j).length=(j-i).toNat:=by simp[rngI]
theorem V6(i j:Int)(n:Nat)(hn:n<(rngI i j).length):(rngI i j)[n]=.int (i+n):=by simp[rngI]
theorem Jrx(xs:Tx)(n:Nat)(hn:n<(Q3 0 xs).length):(Q3 0 xs)[n]=.tup [.int n,xs[n]'(by rwa [VL]at hn)]:=by have:=Jez xs 0 n;rw[Zd hn,Zd<|by rwa [VL]at hn]at this;simpa using this
theorem Jpo(i:Nat)(lo hi:Wz):WR (slI (.ref i) lo hi h) Q=∃xs,h[i]?=J (.lst xs)/\Q (.ref h.length) (h++[.lst<|cutI xs lo hi]):=by unfold slI;cases e:h[i]? with|none=>simp[WR,e]|some o=>cases o<;>simp[WR,e]
theorem Jo6(n d:Nat):HT.sIx n d Zc=d:=HT.sIx_none n d
theorem Jok(xs:List α)(n:Nat):cutI xs Zc (J (n:Int))=xs.take n:=by unfold cutI;rw[Jo6,HT.sIx_nat];simp
theorem Joj(xs:List α)(n:Nat):cutI xs (J (n:Int)) Zc=xs.drop n:=by
 unfold cutI;rw[Jo6,HT.sIx_nat];by_cases hn:n<=xs.length
 .rw[Nat.min_eq_left hn];exact Zba 03
 .rw[Nat.min_eq_right 05,List.drop_length,ZcI 05];simp
theorem Jy5(xs:List α)(n m:Nat):cutI xs (J (n:Int)) (J (m:Int))=(xs.take m).drop n:=by
 unfold cutI;rw[HT.sIx_nat,HT.sIx_nat];refine Zbs λi=>?_
 simp only[List.getElem?_take,List.getElem?_drop];by_cases k:n+i<xs.length
 .rw[Nat.min_eq_left<|show n<=xs.length by lia];by_cases j:n+i<m
  .lia
  .lia
 .rw[show xs[n+i]?=Zc from ZaC 05,show xs[min n xs.length+i]?=Zc from ZaC 05];simp
variable{P:Pg}{m:Str}{n i:Nat}{o:E1}{a:A1}{xs:Tx}{c:Str}{fs:Wm}
theorem J1r(e:o U h=.ok (.ref i) h1)(j:h1[i]?=J (.lst xs))(u:bmOf "list" m n=J g):WR (Jq P m n o a U h) Q=WR (a U h1) λO L=>WR (g (.ref i) O L) Q:=by
 unfold Jq;rw[e];have k:VN (.ref i) h1=Zi:=by simp[VN,j]
 have B:tyS (.ref i) h1="list":=by simp[tyS,j]
 dsimp only;rw[k,B,u];rw[if_neg Zt];unfold eBm;rw[e,J7,YN];have:tyOk "list" (.ref i) h1=Zg:=by simp[tyOk,j]
 rw[if_pos this,J7]
theorem Jue(e:o U h=.ok (.ref i) h1)(hi:h1[i]?=J (.ins c fs))(k:fs.lookup m=Zc)(hd:JI P m n c=J (f,d)):WR (Jq P m n o a U h) Q=WR (a U h1) λO L=>WR (f (.ref i::(O++d)) L) Q:=by
 unfold Jq;rw[e];have j:VN (.ref i) h1=Zg:=by simp[VN,hi]
 dsimp only;rw[j,if_pos rfl];unfold Ju3;rw[e,J7,YN];dsimp only;rw[hi];dsimp only;rw[hd,k];rw[J7]
theorem Jud(y:IV):WR (Xh (.ref i) [y] h) Q=∃xs,h[i]?=J (.lst xs)/\xs.length<sizeLine/\Q .non (h.set i<|.lst<|xs++[y]):=by
 unfold Xh;cases e:h[i]? with|none=>simp[WR,e]|some j=>cases j with|lst xs=>by_cases k:xs.length<sizeLine<;>simp[WR,e,k]|_=>simp[WR,e]
theorem X5:bmOf "list" "append" 1=J Xh:=02
theorem V1(e:h[i]?=J (.ins c fs)):VM f (.ref i) h=fs.lookup f:=by simp[VM,e]
theorem Jw8:WR (QD (.ref i) h) Q=∃xs,h[i]?=J (.lst xs)/\Q (.ref h.length) (h++[.lst xs]):=by unfold QD;cases e:h[i]? with|none=>simp[WR,e]|some j=>cases j<;>simp[WR,e]
theorem Jul:WR (VZ (.ref i) h) Q=∃xs,h[i]?=J (.lst xs)/\Q (.tup xs) h:=by unfold VZ;cases e:h[i]? with|none=>simp[WR,e]|some j=>cases j<;>simp[WR,e]
end
section
variable{U:ISt}{h:IH}{Q:IV->IH->Prop}
theorem YK(i j:Nat):WR (Jm (.ref i) (.ref j) h) Q=∃xs,h[i]?=J (.lst xs)/\∃ys,h[j]?=J (.lst ys)/\xs.length+ys.length<=sizeLine/\Q (.ref h.length) (h++[.lst<|xs++ys]):=by
 unfold Jm;dsimp only;split
 .rename_i xs ys e m;rw[Vx];refine propext #[λ⟨a,b⟩=>?_,λ⟨u,f,B,k,l,q⟩=>?_]
  .by_cases l:xs.length+ys.length<=sizeLine
   .exact#[xs,e,ys,m,l,a l]
   .exact(b l).elim
  .rw[e]at f;rw[m]at k;cases f;cases k;exact#[λ_=>q,λn=>absurd l n]
 .rename_i no;exact propext #[ZaV,λ⟨xs,f,ys,k,_⟩=>(no xs ys f k).elim]
theorem J5y(o i:E1)(v:IV):WS (gSb o i v U h) N R=WR (o U h) λj h1=>WR (i U h1) λk L=>WS (setI j k v U L) N R:=by unfold gSb;rw[Qw];congr 1;funext j h1;rw[Qw]
theorem J16(i:Nat)(k:Int)(v:IV):WS (setI (.ref i) (.int k) v U h) N R=∃xs,h[i]?=J (.lst xs)/\∃j,ixN xs.length k=J j/\N U (h.set i<|.lst<|xs.set j v):=by
 unfold setI;cases e:h[i]? with|none=>simp[WS,e]|some m=>cases m with|lst xs=>cases q:ixN xs.length k<;>simp[WS,e,q]|_=>simp[WS,e]
end
section
variable{U:ISt}{h h1:IH}{Q:IV->IH->Prop}{P:Pg}{m:Str}{n i:Nat}{o:E1}{a:A1}{x:Str}
theorem J1s(e:o U h=.ok (.str x) h1)(k:bmOf "str" m n=J g):WR (Jq P m n o a U h) Q=WR (a U h1) λO L=>WR (g (.str x) O L) Q:=by unfold Jq;rw[e];have j:VN (.str x) h1=Zi:=rfl;have u:tyS (.str x) h1="str":=rfl;dsimp only;rw[j,u,k];rw[if_neg Zt];unfold eBm;rw[e,J7,YN];have:tyOk "str" (.str x) h1=Zg:=rfl;rw[if_pos this,J7]
theorem Jyx:bmOf "str" "join" 1=J XF:=02
theorem J1v:WR (XF (.str x) [.ref i] h) Q=∃xs,h[i]?=J (.lst xs)/\∃zs,QF xs=J zs/\JoinOk x zs=Zg/\Q (.str<|Txt.join x zs) h:=by
 unfold XF;cases e:h[i]? with|none=>simp[WR,e]|some j=>
  cases j with
  |lst xs=>cases q:QF xs with|none=>simp[WR,e,q]|some zs=>by_cases k:JoinOk x zs=Zg<;>simp[WR,e,q,k]
  |_=>simp[WR,e]
theorem Jks:∀zs:Tl,QF (zs.map IV.str)=J zs|[]=>rfl|z::zs=>by rw[ZL,QF,Jks zs];rfl
end
section
variable{U:ISt}{h:IH}{Q:IV->IH->Prop}{i:Nat}
theorem J12:WR (sumI (.ref i) h) Q=∃xs,h[i]?=J (.lst xs)/\∃ns,JL xs=J ns/\Q (.int ns.sum) h:=by
 unfold sumI;cases e:h[i]? with|none=>simp[WR,e]|some j=>cases j with|lst xs=>cases q:JL xs<;>simp[WR,e,q]|_=>simp[WR,e]
theorem Vl:∀ns:Tq,JL (ns.map IV.int)=J ns|[]=>rfl|n::ns=>by rw[ZL,JL,Vl ns];rfl
theorem J1y(k:A1)(j:E1):WR (X9 k j U h) Q=WR (k U h) λxs h1=>WR (j U h1) λd L=>∃i,xs=[.ref i]/\∃ys,L[i]?=J (.lst ys)/\∃ns,JL ys=J ns/\Q (maxD ns d) L:=by
 unfold X9;rw[J7];congr 1;funext xs h1;rw[J7];congr 1;funext d L;match xs with
 |[.ref i]=>
  simp;cases e:L[i]? with|none=>simp[WR]|some m=>cases m with|lst ys=>cases q:JL ys<;>simp[WR,q]|_=>simp[WR]
 |[]=>simp[WR]
 |[.non]=>simp[WR]
 |[.bl _]=>simp[WR]
 |[.int _]=>simp[WR]
 |[.str _]=>simp[WR]
 |[.tup _]=>simp[WR]
 |[.rol _]=>simp[WR]
 |x::_::_=>cases x<;>simp[WR]
theorem Jui(j:A1):WR (Yv j U h) Q=WR (j U h) λxs h1=>∃i,xs=[.ref i]/\∃ys,h1[i]?=J (.lst ys)/\∃zs,QF ys=J zs/\zs.length+1<Zbr/\Q (.int<|cntD (QS zs) zs.length) h1:=by
 unfold Yv;rw[J7];congr 1;funext xs h1;match xs with
 |[.ref i]=>
  simp;cases e:h1[i]? with|none=>simp[WR]|some k=>
   cases k with
   |lst ys=>cases q:QF ys with|none=>simp[WR,q]|some zs=>by_cases m:zs.length+1<Zbr<;>simp[WR,q,m]
   |_=>simp[WR]
 |[]=>simp[WR]
 |[.non]=>simp[WR]
 |[.bl _]=>simp[WR]
 |[.int _]=>simp[WR]
 |[.str _]=>simp[WR]
 |[.tup _]=>simp[WR]
 |[.rol _]=>simp[WR]
 |x::_::_=>cases x<;>simp[WR]
theorem Jld{zs:Tl}(nd:zs.Nodup):∀i,i<=zs.length->cntD (QS zs) i=i
 |0,_=>rfl
 |i+1,hi=>by
  have m:=Jld nd i 05;have hm:metB (QS zs) i (QS zs i)=Zi:=by unfold metB;rw[ZbZ];intro j k;have k:=Zaw.mp k;simp;intro e;simp only[QS,Zd (show j<zs.length by lia),Zd<|show i<zs.length by lia]at e;have:=(ZcP nd).mp e;lia
  unfold cntD;rw[hm,m];rfl
theorem Jya(f:Nat->Int):∀(n j:Nat),j<n->f j<=JX f n
 |0,_,h=>05
 |1,j,h=>by obtain rfl:j=0:=05;exact ZcZ _
 |n+2,j,h=>by
  rw[Jfo f 05];by_cases k:j=n+1
  .subst k;split<;>lia
  .have:=Jya f (n+1) j 05;split<;>lia
theorem Jyb(f:Nat->Int)(b:Int):∀(n:Nat),0<n->(∀j,j<n->f j<=b)->JX f n<=b
 |0,h,_=>05
 |1,_,q=>q 0 05
 |n+2,_,q=>by
  rw[Jfo f 05];have:=Jyb f b (n+1) 05 λj k=>q j 05
  have:=q (n+1) 05;split<;>lia
end
def KpB(i0:Nat)(h h':IH):Prop:=∀(j:Nat)(ob:IX),j≠i0->h[j]?=J ob->h'[j]?=J ob
def Kp(h h':IH):Prop:=∀(j:Nat)(ob:IX),h[j]?=J ob->h'[j]?=J ob
theorem KpB.trans(p:KpB i0 a b)(q:KpB i0 b c):KpB i0 a c:=λj k n e=>q j k n<|p j k n e
theorem Kp.trans(p:Kp a b)(q:Kp b c):Kp a c:=λj k e=>q j k<|p j k e
theorem Kp.but(p:Kp a b):KpB i0 a b:=λj k _ e=>p j k e
theorem Ex.kp(x:Ex a b):Kp a b:=λ_ _ e=>x.get e
theorem J2h{chk:IH->Prop}{e:E1}{m:ISt}{D:IV->IV->IH->Prop}(k:Nat)(mono:∀x y L h3,KpB k L h3->D x y L->D x y h3):∀{xs acc:Tx}{o:Tg}{h1:IH},h1[k]?=J (.lst acc)->(∀L,KpB k h1 L->chk L)->acc.length+xs.length<sizeLine ->(∀x∈xs,∀L:IH,KpB k h1 L->k<L.length->WR (e (J x::m) L) λv h3=>Ex L h3/\D x v h3) ->WR (JW chk (gNm 0) JF e k xs (o::m) h1) λv h3=>v=.ref k/\∃ys,h3[k]?=J (.lst<|acc++ys)/\ys.length=xs.length/\KpB k h1 h3/\∀(i:Nat) x y,xs[i]?=J x->ys[i]?=J y->D x y h3
 |[],acc,o,h1,hi,hc,_,_=>by unfold JW;rw[if_pos<|hc h1 λ_ _ _ q=>q];exact#[rfl,[],by simpa using hi,rfl,λ_ _ _ q=>q,λi x y q=>by simp at q]
 |x::xs,acc,o,h1,hi,hc,hl,he=>by
  unfold JW;rw[if_pos<|hc h1 λ_ _ _ q=>q];dsimp only[gNm,Zd5,JF];have M:acc.length+xs.length+1<sizeLine:=by simpa[ZeO]using hl
  obtain⟨v,h3,O,F,dv⟩:=(he x ZB h1 (λ_ _ _ q=>q)<|JC hi).eq;rw[O];dsimp only;rw[F.get hi];dsimp only;rw[if_pos 05];have B:KpB k h3 (h3.set k<|.lst<|acc++[v]):=λj V n q=>by rw[ZC<|ZP n];exact q
  have u:=F.kp.but.trans B;refine WR.mono (J2h k mono (by rw[ZE<|JC<|F.get hi]) (λC q=>hc C<|u.trans q) (by simp;lia) λy U C q=>he y (Zr _ U) C<|u.trans q) ?_;rintro w W ⟨rfl,ys,Q,R,H,S⟩;refine#[rfl,v::ys,by simpa using Q,by simp[R],u.trans H,?_];intro i P I G E;cases i with
  |zero=>simp at G E;subst G;subst E;exact mono _ _ _ _ (B.trans H) dv
  |succ i=>exact S i P I (by simpa using G)<|by simpa using E
theorem Jw6{h h0:IH}{it:I1}{e:E1}{js:Tr}{xs:Tx}{chk:IH->Prop}(D:IV->IV->IH->Prop)(hit:WR (it U h0) λcK h1=>cK.xs=xs/\cK.chk=chk/\h1=h)(u:xs.length<sizeLine) (mono:∀x y L h3,KpB h.length L h3->D x y L->D x y h3)(H:∀L:IH,Kp h L->chk L) (M:∀x∈xs,∀L:IH,Kp h L->h.length<L.length->WR (e (J x::js.map λj=>(U[j]?).join) L) λv h3=>Ex L h3/\D x v h3):WR (J1 it 1 js (gNm 0) JF e U h0) λv h3=>v=.ref h.length/\∃ys,h3[h.length]?=J (.lst ys)/\ys.length=xs.length/\Kp h h3/\∀(i:Nat) x y,xs[i]?=J x->ys[i]?=J y->D x y h3:=by
 obtain⟨cK,h1,O,I,E,rfl⟩:=hit.eq;unfold J1;rw[O];show WR (JW cK.chk (gNm 0) JF e h1.length cK.xs (Zc::js.map λj=>(U[j]?).join)<|h1++[.lst []]) _;rw[I,E];have k:∀{L:IH},KpB h1.length (h1++[IX.lst []]) L->Kp h1 L:=λq j B r=>q j B (Z1<|JC r)<|grow r
 refine WR.mono (J2h h1.length mono grown (λL q=>H L<|k q) (by simpa using u) λx hx L q m=>M x hx L (k q) m) ?_;rintro v h3 ⟨rfl,ys,G,m,C,F⟩;exact#[rfl,ys,by simpa using G,m,k C,F]
section
variable{h:IH}
theorem Jy2{g:G1}{t:T1}{e:E1}{m:ISt}{p:IV->Bool}{f:IV->IV}{st:IV->ISt}(u:Nat):∀{xs acc:Tx}{D:ISt}{h1:IH},D.length=n->h1[u]?=J (.lst acc)->(∀L,(∀j k,j≠u->h1[j]?=J k->L[j]?=J k)->chk L)->acc.length+xs.length<sizeLine ->(∀x∈xs,∀(D:ISt)(L:IH),D.length=n->(st x).length=n/\g x (D++m) L=.next (st x++m) L) ->(∀x∈xs,∀L,(∀j k,j≠u->h1[j]?=J k->L[j]?=J k)->WR (t (st x++m) L) λb h3=>b=p x/\Ex L h3) ->(∀x∈xs,p x=Zg->∀L,(∀j k,j≠u->h1[j]?=J k->L[j]?=J k)->WR (e (st x++m) L) λv h3=>v=f x/\Ex L h3) ->WR (JW chk g t e u xs (D++m) h1) λv h3=>v=.ref u/\∃g,h3=h1.set u (.lst<|acc++(xs.filter p).map f)++g
 |[],acc,D,h1,_,hi,hc,_,_,_,_=>by
  unfold JW;rw[if_pos<|hc h1 λ_ _ _ q=>q];refine#[rfl,[],?_];simp;refine(Zbs λj=>?_);by_cases Q:j=u
  .subst Q;rw[hi,ZE<|JC hi]
  .rw[ZC<|ZP Q]
 |x::xs,acc,D,h1,hls,hi,hc,hl,hg,ht,he=>by
  unfold JW;rw[if_pos<|hc h1 λ_ _ _ q=>q];obtain⟨P,M⟩:=hg x ZB D h1 hls;rw[M];dsimp only;have R:acc.length+xs.length+1<sizeLine:=by simpa[ZeO]using hl
  obtain⟨b,L,W,rfl,E⟩:=(ht x ZB h1 λ_ _ _ q=>q).eq;rw[W];have C:∀j k,j≠u->h1[j]?=J k->L[j]?=J k:=λj k _ q=>E.get q
  cases hp:p x with
  |false=>
   dsimp only;refine WR.mono (Jy2 u P (E.get hi) (λh3 q=>hc h3 λj k n r=>q j k n<|C j k n r) 05 (λy B=>hg y<|Zr _ B) (λy B h3 q=>ht y (Zr _ B) h3 λj k n r=>q j k n<|C j k n r) λy B F h3 q=>he y (Zr _ B) F h3 λj k n r=>q j k n<|C j k n r) λv h3 ⟨ev,g,O⟩=>#[ev,?_]
   obtain⟨g2,rfl⟩:=E;refine#[g2++g,?_];rw[O,Za3 (h:=JC hi)];simp[hp]
  |true=>
   dsimp only;obtain⟨v,h3,S,rfl,I⟩:=(he x ZB hp L C).eq;rw[S];dsimp only;rw[I.get<|E.get hi];dsimp only;rw[if_pos 05];have G:∀j k,j≠u->h1[j]?=J k->(h3.set u<|.lst<|acc++[f x])[j]?=J k:=λj k n q=>by rw[ZC<|ZP n];exact I.get<|E.get q
   refine WR.mono (Jy2 u (acc:=acc++[f x]) P (by rw[ZE<|JC<|I.get<|E.get hi]) (λH q=>hc H λj k n r=>q j k n<|G j k n r) (by simp;lia) (λy B=>hg y<|Zr _ B) (λy B H q=>ht y (Zr _ B) H λj k n r=>q j k n<|G j k n r) λy B F H q=>he y (Zr _ B) F H λj k n r=>q j k n<|G j k n r) λv H ⟨ev,g,O⟩=>#[ev,?_]
   obtain⟨U,V⟩:=E.trans I;refine#[U++g,?_];rw[O,V,Za3 (h:=JC hi),Za3 (h:=by rw[Zbg];exact JC hi),Zet];simp[hp]
theorem Jw7{g:G1}{t:T1}{e:E1}{js:Tr}{p:IV->Bool}{f:IV->IV}{st:IV->ISt}{n:Nat}(hit:WR (it U h0) λcK h1=>cK.xs=xs/\cK.chk=chk/\h1=h)(B:xs.length<sizeLine) (G:∀L:IH,(∀(j:Nat)(k:IX),h[j]?=J k->L[j]?=J k)->chk L) (E:∀x∈xs,∀(u:ISt)(L:IH),u.length=n->(st x).length=n/\g x (u++js.map λj=>(U[j]?).join) L=.next (st x++js.map λj=>(U[j]?).join) L) (C:∀x∈xs,∀L:IH,(∀(j:Nat)(k:IX),h[j]?=J k->L[j]?=J k)->WR (t (st x++js.map λj=>(U[j]?).join) L) λb h3=>b=p x/\Ex L h3) (H:∀x∈xs,p x=Zg->∀L:IH,(∀(j:Nat)(k:IX),h[j]?=J k->L[j]?=J k)->WR (e (st x++js.map λj=>(U[j]?).join) L) λv h3=>v=f x/\Ex L h3):WR (J1 it n js g t e U h0) λv h3=>v=.ref h.length/\∃g,h3=h++.lst ((xs.filter p).map f)::g:=by
 obtain⟨cK,h1,M,I,D,rfl⟩:=hit.eq;unfold J1;rw[M];show WR (JW cK.chk g t e h1.length cK.xs (ZD n Zc++js.map λj=>(U[j]?).join)<|h1++[.lst []]) _;rw[I,D];have m:∀{L:IH},(∀j k,j≠h1.length->(h1++[IX.lst []])[j]?=J k->L[j]?=J k)->∀j k,h1[j]?=J k->L[j]?=J k:=λq j k r=>q j k (Z1<|JC r)<|grow r
 refine WR.mono (Jy2 h1.length (Zb3 ..) grown (λL q=>G L<|m q) (by simpa using B) E (λx hx L q=>C x hx L<|m q) λx hx hp L q=>H x hx hp L<|m q) λv h3 ⟨ev,g,F⟩=>#[ev,g,?_]
 rw[F];simp
end
def Jyo(ts:Tw)(H:Hp):Prop:=∀b,H b=Zc\/(∃o xs,H b=J (.frz o<|.lst xs))\/(b∈ts/\H b=J (.tbl #[]))
theorem Jsw{P:Z7}{w:ZU}{K:W.Frag}{mg mb:Str->Tc}{k:Nat}{fa a:Zm}{fd:ZaK}{x:Str}{sp:Sp}{s₁:Zl}{O:Tv}{ns:Tq}{C:Tw}
  (KX:K.In s₁.heap)(V:s₁.heap.Ns Zn mg)(j:s₁.heap.Ns Zc4 mb)(hbb:∀x:Str,x≠"__name__"->mb x=Zbu x)(hlim:s₁.heap.NoLimit)(hg:s₁.gens=#[])
  (ha:s₁.heap.get? a=J {cls:=.type "list",data:=.seq O.toArray})(hi:ZaZ O ns)(hl:ns.length<=sizeLine)(hr:Room k ZeG)
  (U:∀p∈C,s₁.heap.get? p=J (W.tabObj #[])/\isCodeTable s₁.heap p/\K.lookup p=Zc)
  (hbm:∃bm Q,mg "__builtins__"=J (.ref bm)/\bm≠Zc4/\s₁.heap.get? bm=J Q/\Q.cls=.type "module"/\Q.dict=J Zc4/\Q.data=.plain)
  (F:∀base:Zam,K.In base->base.Ns Zn mg->Q8 mg base->FnOk P w K mg base (CXI P w) k fa fd [x] sp)(hbind:∀(s:Zl)(u:Zh),ZcG s fd #[[u],[]] [(x,u)])
  (hsp:∀H:Hp,Jyo C H->SqL K H a (ns.map hV.int)->(∀p∈C,H p=J (.tbl #[]))->sp [.ref a] H (λv _=>v=.bl Zg) λ_ _ _=>False):
  ZbI (Zy P w) ZeG (.call (.ref fa) #[[.ref a],[]]) (λr s'=>r=.ok (.ret<|.bool Zg)/\OldK s₁.heap s'.heap/\s'.os=s₁.os/\Zdm s'.gens) s₁:=by
 have rv:=L2.Xt hi;have X:=hi.length;have nta:a∉C:=λz=>by
  have e:=(U a z).1;rw[ha]at e;have I:=Zas e;injection I with h1
  cases h1
 have R:∀H:Hp,Jyo C H->SqL K H a (ns.map hV.int)->HOk P w H s₁.heap->(∀b,H b≠Zc->b=a\/b∈C)->(H a≠Zc->K.lookup a=Zc)->(∀p∈C,H p=J (.tbl #[])) ->
   ZbI (Zy P w) ZeG (.call (.ref fa) #[[.ref a],[]]) (λr s'=>r=.ok (.ret<|.bool Zg)/\OldK s₁.heap s'.heap/\s'.os=s₁.os/\Zdm s'.gens) s₁:=by
  intro H hO hS hok hA hK hTt;have B:∀{b:Zm}{o:Obj},s₁.heap.get? b=J o->H b=Zc->(hidT s₁.heap H).get? b=J o:=λe n=>Jve e n
  have Y:∀{b:Zm}{o:Obj},s₁.heap.get? b=J o->(∀O n,o.data≠.seq O n)->(∀O,o.data≠.fields O)->H b=Zc:=λ{b o} e d1 d2=>by
   cases q:H b with|none=>rfl|some u=>
    rcases hA b (by rw[q];simp)with I|I
    .subst I;rw[ha]at e;cases e;exact absurd rfl (d1 _ _)
    .rw[(U b I).1]at e;cases e;exact absurd rfl (d2 _)
  have E:∀{b:Zm}{m:Str->Tc},s₁.heap.Ns b m->(hidT s₁.heap H).Ns b m:=λ{b m} ⟨o,es,ep,e,d,r⟩=>#[o,es,ep,B e (Y e (λ_ _ z=>by rw[d]at z;cases z) λ_ z=>by rw[d]at z;cases z),d,r];have hKb:=λb o e=>B (KX b o e) (by
   cases q:H b with|none=>rfl|some u=>
    rcases hA b (by rw[q];simp)with I|I
    .subst I;rw[hK<|by rw[q];simp]at e;cases e
    .rw[(U b I).2.2]at e;cases e)
  have hM:Mod K mg (hidT s₁.heap H):=#[hKb,E V,#[mb,E j,hbb],let ⟨mc,h1,L⟩:=hlim;#[mc,E h1,L]];have hB:Q8 mg (hidT s₁.heap H):=by obtain⟨bm,Q,b1,b2,b3,b4,b5,b6⟩:=hbm;refine#[bm,Q,b1,b2,λz=>?_,B b3 (Y b3 (λ_ _ z=>by rw[b6]at z;cases z) λ_ z=>by rw[b6]at z;cases z),b4,b5,b6];obtain⟨o,es,ep,e,d,_⟩:=V;rw[<-z,b3]at e;cases e;rw[b6]at d;cases d
  have e0:Env0 P w K mg (hidT s₁.heap H) ZeG [] s₁ H:=#[rfl,hM,λb o e=>J0i e,ZcF<|Jsf _ _,trivial,λb j=>absurd (show b∈([]:Tw)from j) 03,hok,.of_eq hg];refine ZbA ((F _ hKb (E V) hB).run ZeG [] s₁ H #[[.ref a],[]] [.ref a] [.ref a] _ _ hr e0 (hbind s₁<|.ref a) (.cons rfl .nil)<|hsp H hO hS hTt) λr s' h=>?_
  cases r with|error e=>exact h.elim λ_ z=>z.2.2.2.2.elim|ok fl=>
   cases fl with|next=>exact ZaV h|brk=>exact ZaV h|cont=>exact ZaV h|ret u=>
    obtain⟨v,H',os,bare,un,S,r',q⟩:=h;have q':v=.bl Zg:=q;subst q';obtain rfl:u=Zds Zg:=r';have M:∀b o,s₁.heap.get? b=J o->asItWas s₁.heap s'.heap b o/\∃o',s'.heap.get? b=J o':=λb o e=>by
     rcases hO b with z|⟨Q,xs,z⟩|⟨j,z⟩
     .have:=un.keep b o e z (by intro z;exact absurd (show b∈([]:Tw)from z) 03) 03;exact#[.inl this,_,this]
     .have z2:=un.frzs b Q _ z;obtain⟨e1,_⟩:=hok b _ z;obtain⟨Z,_⟩:=S b _ z2;rw[e]at e1;cases e1;exact#[.inl Z,_,Z]
     .obtain⟨more,z2⟩:=un.tbls b _ z;have Z:=S b _ z2;have e1:=(U b j).1;rw[e]at e1;cases e1;exact#[.inr<|.inl #[(U b j).2.1,rfl,#[],more,rfl,Z],_,Z]
    exact#[rfl,#[λb o e=>(M b o e).1,λb o e=>(M b o e).2],os,bare]
 cases hk:K.lookup a with
 |some o=>
  have e:=KX a o hk;rw[ha]at e;cases e;refine R (λb=>if b∈C then J (.tbl #[])else Zc) (λb=>?_) (.inr #[_,O.toArray,_,hk,rfl,rfl,rfl,by rw[ZV,X];exact hl,by simpa using rv]) (λb u z=>?_) (λb z=>?_) (λz=>absurd (if_neg nta) z) λp hp=>if_pos hp
  .by_cases j:b∈C
   .exact .inr<|.inr #[j,if_pos j]
   .exact .inl<|if_neg j
  .by_cases j:b∈C
   .have G:=(if_pos j).symm.trans z;cases G;exact(U b j).1
   .have G:=(if_neg j).symm.trans z;cases G
  .by_cases j:b∈C
   .exact .inr j
   .exact absurd (if_neg j) z
 |none=>
  refine R (λb=>if b=a then J (.frz {cls:=.type "list",data:=.seq O.toArray} (.lst<|ns.map hV.int))else if b∈C then J (.tbl #[])else Zc) (λb=>?_) (.inl<|.inr #[{cls:=.type "list",data:=.seq O.toArray},if_pos rfl]) (λb u z=>?_) (λb z=>?_) (λ_=>hk) λp hp=>?_
  .by_cases j:b=a
   .exact .inr<|.inl #[_,_,if_pos j]
   .by_cases D:b∈C
    .exact .inr<|.inr #[D,(if_neg j).trans<|if_pos D]
    .exact .inl<|(if_neg j).trans<|if_neg D
  .by_cases j:b=a
   .have G:=(if_pos j).symm.trans z;cases G;subst j;exact#[ha,by rw[Zj];exact hl,O,_,rv,ha]
   .by_cases D:b∈C
    .have G:=((if_neg j).trans<|if_pos D).symm.trans z;cases G;exact(U b D).1
    .have G:=((if_neg j).trans<|if_neg D).symm.trans z;cases G
  .by_cases j:b=a
   .exact .inl j
   .by_cases D:b∈C
    .exact .inr D
    .exact absurd ((if_neg j).trans<|if_neg D) z
  .have j:p≠a:=λz=>nta<|z▸hp
   exact(if_neg j).trans<|if_pos hp
noncomputable def Jy1 (o:Obj)(q:Str):Bool:=match o with|⟨_,_,.fields O,_⟩=>(match O.toList with|_::.str n _::_=>n==q|_=>Zi)|_=>Zi
def Va(K:W.Frag)(q:Str)(p:Zm):Bool:=(K.lookup p).isNone&&K.all (λe=>!(Jy1 e.2 q)||W.codeHdIn K e.1 p)&&K.any (λe=>Jy1 e.2 q&&W.codeHdIn K e.1 p)
def Vd(K:W.Frag):Tl->Tw->Bool|[],[]=>Zg|q::qs,p::ps=>Va K q p&&!ps.contains p&&Vd K qs ps|_,_=>Zi
theorem Jp8{K:W.Frag}(h:K.lookup c=J o):(c,o)∈K:=by
 induction K with|nil=>cases h|cons p K k=>
  obtain⟨b,j⟩:=p;rw[Zan]at h;split at h
  .simp_all
  .simp_all
theorem Va.code{K:W.Frag}{q:Str}{p:Zm}(h:Va K q p=Zg):∀j,W.codeIn K j q=Zg->∃c,j=.ref c/\W.codeHdIn K c p=Zg:=by
 simp only[Va,Zz,ZaY,Zb8]at h;intro j e;unfold W.codeIn at e;split at e
 .rename_i c;refine#[c,rfl,?_];cases k:K.lookup c with|none=>rw[k]at e;cases e|some o=>
   rw[k]at e;rcases h.1.2 _ (Jp8 k)with z|z
   .exfalso;have B:Jy1 o q=Zg:=by obtain⟨D,E,u,C⟩:=o;cases u<;>first|exact e|cases e
    have m:=z;rw[B]at m;cases m
   .exact z
 .cases e
theorem Va.some{K:W.Frag}{q:Str}{p:Zm}(h:Va K q p=Zg):K.lookup p=Zc/\∃c,W.codeHdIn K c p=Zg:=by simp only[Va,Zz,ZcU,Option.isNone_iff_eq_none]at h;obtain⟨⟨j,_⟩,e,_,L⟩:=h;exact#[j,e.1,L.2]
theorem Vd.mem{K:W.Frag}:∀{k:Tl}{j:Tw},Vd K k j=Zg->j.Nodup/\k.length=j.length/\(∀(i:Nat)(q:Str),k[i]?=J q->∃p,j[i]?=J p/\Va K q p=Zg)/\∀p∈j,∃q,Va K q p=Zg
 |[],[],_=>#[.nil,rfl,λi q e=>by simp at e,λp hp=>by cases hp]
 |q::k,p::ps,h=>by
  simp only[Vd,Zz,ZbD,List.contains_eq_mem,decide_eq_false_iff_not]at h;obtain⟨⟨u,L⟩,B⟩:=h;obtain⟨a,b,c,d⟩:=Vd.mem B;refine#[Zcz.mpr #[L,a],by simp[b],λi r e=>?_,λr m=>?_]
  .cases i with|zero=>have C:=e;cases C;exact#[p,rfl,u]|succ i=>exact c i r e
  .rcases ZA.mp m with rfl|m
   .exact#[q,u]
   .exact d r m
 |[],_::_,h=>by cases h
 |_::_,[],h=>by cases h
theorem Jp7{K:W.Frag}{x:Str}{f:Tx->IH->Res IV}{H:Hp}{a:Zm}{ns:Tq}{k:Tl}{j:Tw}(F:Jyo j H)(D:SqL K H a<|ns.map hV.int)(C:∀p∈j,H p=J (.tbl #[]))(E:Vd K k j=Zg) (m:∃h',f [.rol<|ns.map IV.int] (k.map IX.tab)=.ok (.bl Zg) h'):XW K x f [.ref a] H (λv _=>v=.bl Zg) λ_ _ _=>False:=by
 intro B;obtain⟨h',m⟩:=m;have sr:SqR K H a (ns.map hV.int):=by
  rcases D with(h|⟨o,h⟩)|h
  .rcases F a with z|⟨ob,xs,z⟩|⟨_,z⟩
   .rw[z]at h;cases h
   .rw[z]at h;cases h
   .rw[z]at h;cases h
  .exact .inl #[o,h]
  .exact .inr h
 obtain⟨nd,le,at_,_⟩:=Vd.mem E;refine#[rfl,j,k.map IX.tab,[.rol<|ns.map IV.int],#[by simp[le],nd,λi o e=>?_],#[.ref a,[],rfl,#[a,_,rfl,sr,RVs.ints ns],rfl],?_]
 .rw[Z4]at e;cases eq:k[i]? with|none=>rw[eq]at e;cases e|some q=>rw[eq]at e;cases e;obtain⟨p,u,hp⟩:=at_ i q eq;exact#[p,u,Va.code hp,#[],C p<|Zb9 u,trivial,λG L z=>by cases z]
 .rw[m];intro v M I _ _ q;exact q
theorem Jw2{l:W.OpenLaw}{n k:Nat}{q:Z7}{loose:Tl}{XP:(Str->Tc)->Zam->Prop}{P:ZU->Zam->Prop}{d:DefRec}{K:Params->W.Frag}{f:Tx->IH->Res IV}{x:Str}{U:Tl}{S:Tw} (hn:l.most=J n)(I:n<=sizeLine)(D:d.params.defaults=[])(hr:Room k ZeG) (Y:∀(w:ZU)(h:Zam),P w h->(K w.params).In h/\∀p∈S,h.get? p=J (W.tabObj #[]))(R:∀w:ZU,Vd (K w.params) U S=Zg) (F:∀(w:ZU)(mg:Str->Tc)(fa:Zm)(h:Zam),(K w.params).In h->h.Ns Zn mg->mg d.name=J (.ref fa) ->∃fd:ZaK,(∀(s:Zl)(u:Zh),ZcG s fd #[[u],[]] [(x,u)]) /\ ∀base:Zam,(K w.params).In base->base.Ns Zn mg->Q8 mg base->FnOk l.prog w (K w.params) mg base (CXI l.prog w) k fa fd [x] (XW (K w.params) x f)) (V:∀ns:Tq,ns.length<=n->∃h',f [.rol<|ns.map IV.int] (U.map IX.tab)=.ok (.bl Zg) h'):W.WalkO q loose XP P l.row.toRowW d [] (λf O=>PySem.call f O):=by
 refine Att.attach_call hn D λw s₀ s₁ mg mb fa o pm cd doc a O ns G X ho hd hcd E B m j hg=>?_
 obtain⟨M,Q⟩:=Y w _ X;obtain⟨fd,hb,hF⟩:=F w mg fa _ M G.T.g E;refine Jsw M G.T.g G.T.b G.T.builtins G.T.nolimit hg B m (ZM j I) hr (λp hp=>?_) G.T.bmain hF hb λH hO hS C=>Jp7 hO hS C (R w)<|V ns j
 obtain⟨q,hq⟩:=(Vd.mem<|R w).2.2.2 p hp;obtain⟨Z,c,L⟩:=Va.some hq;exact#[Q p hp,((W.codeHd_of_K M L).tab<|Q p hp).isCodeTable,Z]
section
variable{α β:Type}{U:ISt}{h:IH}
def WE(r:Res α)(Q:α->IH->Prop)(Z_:Nat->IH->Prop):Prop:=match r with|.ok a h=>Q a h|.exc n h=>Z_ n h|.stuck=>False
def WSE(r:SRes)(N:ISt->IH->Prop)(R:IV->IH->Prop)(Z_:Nat->ISt->IH->Prop):Prop:=match r with|.next U h=>N U h|.ret v h=>R v h|.exc n U h=>Z_ n U h|_=>False
variable{Q:α->IH->Prop}{Z_:Nat->IH->Prop}{N:ISt->IH->Prop}{R:IV->IH->Prop}{YY:Nat->ISt->IH->Prop}
theorem J7z(a:α):WE (.ok a h) Q Z_=Q a h:=rfl
theorem Jkv{Q:β->IH->Prop}(r:Res α)(f:α->IH->Res β):WE (r.bind f) Q Z_=WE r (λa h=>WE (f a h) Q Z_) Z_:=by cases r<;>rfl
theorem WE.of(w:WR r Q):WE r Q Z_:=by cases r with|ok a h=>exact w|exc n h=>exact(w).elim|stuck=>exact(w).elim
theorem WE.mono(w:WE r Q Z_)(j:∀a h,Q a h->Q' a h)(k:∀n h,Z_ n h->Z' n h):WE r Q' Z':=by cases r with|ok a h=>exact j _ _ w|exc n h=>exact k _ _ w|stuck=>exact w
theorem Xw(r:Res α)(k:α->IH->SRes):WSE (rS U r k) N R YY=WE r (λa h=>WSE (k a h) N R YY) λn h=>YY n U h:=by cases r<;>rfl
theorem Q7(a b:S1):WSE (Jf a b U h) N R YY=WSE (a U h) (λj h1=>WSE (b j h1) N R YY) R YY:=by unfold Jf;cases a U h<;>rfl
theorem YS:WSE (Jr U h) N R YY=N U h:=rfl
theorem Jn7(i:Nat)(e:E1):WSE (Jh i e U h) N R YY=WE (e U h) (λv h1=>N (U.set i<|J v) h1) λn h=>YY n U h:=by unfold Jh;rw[Xw];rfl
theorem Xv(e:E1):WSE (JA e U h) N R YY=WE (e U h) (λ_ h1=>N U h1) λn h=>YY n U h:=by unfold JA;rw[Xw];rfl
theorem Yb(e:E1):WSE (Jk e U h) N R YY=WE (e U h) R λn h=>YY n U h:=by unfold Jk;rw[Xw];rfl
theorem Xc(t:T1)(a b:S1):WSE (sIf t a b U h) N R YY=WE (t U h) (λc h1=>(c=Zg->WSE (a U h1) N R YY)/\(c=Zi->WSE (b U h1) N R YY)) λn h=>YY n U h:=by unfold sIf;rw[Xw];congr 1;funext c h1;cases c<;>simp
theorem Jmx(c:Str)(a:A1):WSE (VU c a U h) N R YY=WE (a U h) (λO h1=>O.length<=sizeLine/\YY h1.length U (h1++[.exc c []])) λn h=>YY n U h:=by
 unfold VU;rw[Xw];congr 1;funext O h1;by_cases z:O.length<=sizeLine
 .simp[z,WSE]
 .simp[z,WSE]
theorem QI{Q:IV->IH->Prop}(f:Tx->IH->Res IV)(d:Tx)(a:A1):WE (Ji f d a U h) Q Z_=WE (a U h) (λO h1=>WE (f (O++d) h1) Q Z_) Z_:=by unfold Ji;rw[Jkv]
theorem Vw{Q:IV->IH->Prop}{r:SRes}(w:WSE r (λ_ h=>Q .non h) Q λn _ h=>(∃c fs,h[n]?=J (.exc c fs))/\Z_ n h):WE r.fin Q Z_:=by cases r with|next U h=>exact w|ret v h=>exact w|exc n U h=>obtain⟨⟨c,fs,e⟩,z⟩:=w;rw[Jzf e];exact z|_=>exact(w).elim
theorem Jum(b:S1)(hs:Ts)(w:WSE (b U h) N R λn j h1=>∃c fs,h1[n]?=J (.exc c fs)/\WS (Vk hs c n j h1) N R):WS (sTry b hs U h) N R:=by unfold sTry;cases e:b U h with|next j h1=>rw[e]at w;exact w|ret v h1=>rw[e]at w;exact w|exc n j h1=>rw[e]at w;obtain⟨c,fs,k,w⟩:=w;dsimp only;rw[k];exact w|_=>rw[e]at w;exact(w).elim
theorem J18(it:I1)(g:G1)(b:S1):WSE (sFor it g b U h) N R YY=WE (it U h) (λcK h1=>WSE (Qj cK.chk g b cK.xs U h1) N R YY) λn h=>YY n U h:=by unfold sFor;rw[Xw]
theorem Jt9{Q:IV->IH->Prop}(c:Str)(f:Tx->IH->Res IV)(d:Tx)(a:A1):WE (Q2 c f d a U h) Q Z_=WE (a U h) (λO h1=>WE (f (.ref h1.length::(O++d))<|h1++[.ins c []]) (λr L=>r=.non/\Q (.ref h1.length) L) Z_) Z_:=by unfold Q2;rw[Jkv];congr 1;funext O h1;rw[Jkv];congr 1;funext r L;cases r<;>simp[WE]
theorem J14(sl:Ta)(r:SRes):WS (r.drop sl) N R=WS r (λU h=>N (Xq sl Zc U) h) R:=by unfold SRes.drop;cases r<;>rfl
theorem YR(e:g c=J Zg):WS (Vk ((g,sl,m)::r) c n U h) N R=WS (m (Xq sl (J<|.ref n) U) h) (λU h=>N (Xq sl Zc U) h) R:=by unfold Vk;dsimp only;rw[e];dsimp only;rw[J14]
theorem J5z(e:g c=J Zi):WS (Vk ((g,sl,m)::r) c n U h) N R=WS (Vk r c n U h) N R:=by rw[Vk];dsimp only;rw[e]
theorem Jph(e:h[n]?=J (.exc c fs)):tyI (.ref n) h=J (.exc c):=by simp[tyI,e]
theorem J11{Q:IV->IH->Prop}(x:Str)(lo hi:Wz):WR (slT (.str x) lo hi h) Q=(x.length<=sizeLine/\Q (.str<|ZeJ x lo hi) h):=by unfold slT;by_cases z:x.length<=sizeLine<;>simp[WR,z]
end
theorem Jhk:∀{a b c:Tq},ltL a b=Zg->ltL b c=Zg->ltL a c=Zg
 |a::as,b::bs,c::cs,h1,L=>by
  unfold ltL at h1 L ⊢;by_cases j:a=b
  .rw[if_pos j]at h1;subst j;by_cases k:a=c
   .rw[if_pos k]at L ⊢;exact Jhk h1 L
   .lia
  .lia
 |[],_,_,h,_=>by simp[ltL]at h
 |_::_,[],_,h,_=>by simp[ltL]at h
 |_::_,_::_,[],_,h=>by simp[ltL]at h
theorem Y3:∀a:Tq,ltL a a=Zi|[]=>rfl|a::as=>by unfold ltL;rw[if_pos rfl];exact Y3 as
theorem Jvy{j bs:Tq}(h:j.length=bs.length):ltT (.tup<|j.map .int) (.tup<|bs.map .int)=J (ltL j bs):=by unfold ltT;dsimp only;rw[Vl,Vl];dsimp only;rw[if_pos h]
section
variable{mk:IV->IH->Res IV}{kf:IV->Tq}{i n:Nat}{ys:Tx}
theorem Jfp(hi:h0[i]?=J (.lst ys))(hm:∀y∈ys,∀h,Ex h0 h->WR (mk y h) λv h'=>v=.tup ((kf y).map .int)/\Ex h h')(m:∀y∈ys,(kf y).length=n):∀(r:Nat)(b:IV)(h:IH),Ex h0 h->r<ys.length->b∈ys->(∀y∈ys.take (ys.length-r),ltL (kf y) (kf b)=Zi)->WR (Vn ltT mk i ys.length r b (.tup<|(kf b).map .int) h) λv h'=>v∈ys/\(∀y∈ys,ltL (kf y) (kf v)=Zi)/\Ex h h'
 |0,b,h,x,_,hb,q=>by unfold Vn;rw[x.get hi];dsimp only;rw[if_pos rfl];rw[Nat.sub_zero,ZdW]at q;exact#[hb,q,.refl _]
 |r+1,b,h,x,hr,hb,q=>by
  unfold Vn;rw[x.get hi];dsimp only;rw[if_pos rfl];have k:ys.length-(r+1)<ys.length:=00;rw[Zd k];dsimp only;have B:=Z5 k;have C:ys.take (ys.length-r)=ys.take (ys.length-(r+1))++[ys[ys.length-(r+1)]]:=by rw[<-Zbd k,show ys.length-(r+1)+1=ys.length-r by omega]
  generalize ys[ys.length-(r+1)]=y at B C;obtain⟨v,L,e,rfl,u⟩:=(hm y B h x).eq;rw[e];show WR (match ltT (.tup<|(kf y).map .int) (.tup<|(kf b).map .int)with|some Zg=>_|some Zi=>_|none=>_) _;rw[Jvy<|by rw[m y B,m b hb]];cases c:ltL (kf y) (kf b)with
  |true=>
   refine WR.mono (Jfp hi hm m r y L (x.trans u) 00 B λz j=>?_) λv h' ⟨a,d,g⟩=>#[a,d,u.trans g]
   rw[C]at j;rcases ZZ.mp j with j|j
   .cases D:ltL (kf z) (kf y)with
    |false=>rfl
    |true=>exact absurd (Jhk D c)<|by simp_all
   .rw[Z2.mp j];exact Y3 _
  |false=>
   refine WR.mono (Jfp hi hm m r b L (x.trans u) 00 hb λz j=>?_) λv h' ⟨a,d,g⟩=>#[a,d,u.trans g]
   rw[C]at j;rcases ZZ.mp j with j|j
   .exact q z j
   .rw[Z2.mp j];exact c
theorem Juh(hi:h[i]?=J (.lst ys))(ne:ys≠[])(hm:∀y∈ys,∀h',Ex h h'->WR (mk y h') λv L=>v=.tup ((kf y).map .int)/\Ex h' L)(u:∀y∈ys,(kf y).length=n):WR (Xl ltT mk i Zc h) λv h'=>v∈ys/\(∀y∈ys,ltL (kf y) (kf v)=Zi)/\Ex h h':=by
 unfold Xl;rw[hi];cases ys with
 |nil=>exact absurd rfl ne
 |cons y r=>
  obtain⟨v,L,e,rfl,m⟩:=(hm y ZB h<|.refl _).eq;show WR ((mk y h).nx.bind λk h'=>Vn ltT mk i (y::r).length ((y::r).length-1) y k h') _;rw[e];refine WR.mono (Jfp (m.get hi) (λz j h' x=>hm z j h'<|m.trans x) u ((y::r).length-1) y L (.refl _) 03 ZB λz j=>?_) λv h' ⟨a,d,g⟩=>#[a,d,m.trans g]
  rw[show(y::r).length-((y::r).length-1)=1 by simp,List.take_succ_cons,List.take_zero,Z2]at j;rw[j];exact Y3 _
theorem J10{js:Tr}{m:E1}{Q:IV->IH->Prop}(k:h[j]?=J (.tab q))(hi:U[i]?=J (J<|.ref a)):WR (XB ltT q j js (Jb (Ja i) Je) m U h) Q=WR (Xl ltT (λv h'=>m (J v::js.map λj=>(U[j]?).join) h') a Zc h) Q:=by
 have e:Jb (Ja i) Je U h=.ok [.ref a] h:=by unfold Jb Ja Je;rw[hi];rfl
 unfold XB;rw[e];show WR (match h[j]? with|some (.tab q')=>_|_=>_) Q=_;rw[k];dsimp only;rw[if_pos rfl]
end
end L4
local macro_rules|`($c:char)=>let n:=c.getChar.toNat;if n<58 then `(L3.eC<|.int $(Lean.quote (n-48))) else `(L3.Ja $(Lean.quote (n-97)))
namespace LW
theorem Kaz{α:Sort _}{p:α->Prop}{j:α}:(∃a,j=a/\p a)↔p j:=exists_eq_left'
theorem Kbz{α:Sort _}{p:α->Prop}{j:α}:(∃a,a=j/\p a)↔p j:=exists_eq_left
theorem Kcz(a b:Bool):(L3.IV.bl a=L3.IV.bl b)=(a=b):=L3.IV.bl.injEq a b
theorem Kdz(a b:Int):(L3.IV.int a=L3.IV.int b)=(a=b):=L3.IV.int.injEq a b
theorem Kez(a b:Nat):(L3.IV.ref a=L3.IV.ref b)=(a=b):=L3.IV.ref.injEq a b
theorem Kfz(a b:PySem.Str):(L3.IV.str a=L3.IV.str b)=(a=b):=L3.IV.str.injEq a b
theorem Kgz(a b:List L3.IV):(L3.IV.tup a=L3.IV.tup b)=(a=b):=L3.IV.tup.injEq a b
theorem Khz(a b:List L3.IV):(L3.IX.lst a=L3.IX.lst b)=(a=b):=L3.IX.lst.injEq a b
theorem Kiz{α:Type _}(a b:α):(J a=J b)=(a=b):=Option.some.injEq a b
theorem Kjz:(!true)=Zi:=Bool.not_true
theorem Kkz:(!false)=Zg:=Bool.not_false
theorem Klz:(Zg=Zi)=False:=Bool.true_eq_false
theorem Kmz:(Zi=Zg)=False:=Zb0
theorem Knz{α β:Type _}(a:α)(f:α->Option β):(J a).bind f=f a:=Option.bind_some a f
theorem Koz(p:Prop):(True->p)=p:=true_implies p
theorem Kpz(p:Prop):(False->p)=True:=false_implies p
theorem Kqz(α:Sort _):(α->True)=True:=implies_true α
theorem Krz{α:Type _}{a b:α}{l:List α}{n:Nat}:(a::l).set (n+1) b=a::l.set n b:=List.set_cons_succ
theorem Ksz{α:Type _}{a b:α}{l:List α}:(a::l).set 0 b=b::l:=Zd5
theorem Ktz{α:Type _}{a:α}{l m:List α}:(a::l)++m=a::(l++m):=Zac
theorem Kuz{α:Type _}(l:List α):[]++l=l:=Zav l
theorem Kvz{α:Type _}(l:List α):l++[]=l:=ZbS l
end LW
namespace LW
open PySem L2 L3 L4
noncomputable def top (i:Nat):Zcg:=PySem.Challenge.pw_dutyproof_k36_rows_refused.main.body.getD i<|.Pass #[0,0,0,0]
def psD:Zcg->Tl|.FunctionDef _ a _ _ _ _ _ _ _ _=>a.args.map (·.arg)|_=>[]
def mD(q:Str)(s:Zcg):D4:=#[s,q,psD s,(JS s).names.filterMap λp=>if p.2==.local||p.2==.cell then J p.1 else Zc,[]]
def Ja4:D4:=mD "BadRow.__init__"<|JP (top 6) 0
def Jc9:D4:=mD "is_whole"<|top 9
def Jaq:D4:=mD "is_whole_from"<|top 10
def Jci:D4:=mD "rounds_up"<|top 11
def Jjx:D4:=mD "ready"<|top 18
def Jgd:D4:=mD "due_at"<|top 19
def Jb9:D4:=mD "is_coming"<|top 20
def Ja7:D4:=mD "first_wrong"<|top 21
def Jer:D4:=mD "checked"<|top 22
def Jet:D4:=mD "is_name"<|top 29
def Jes:D4:=mD "is_hold"<|top 30
def Jce:D4:=mD "lie_apart"<|top 31
def Jev:D4:=mD "lies_in"<|top 32
def Ja8:D4:=mD "go_together"<|top 33
def Jae:D4:=mD "all_go_together"<|top 34
def Jcg:D4:=mD "own_holds"<|top 35
def Jew:D4:=mD "own_due"<|top 36
def Qz:D4:={mD "Work.__init__" (JP (top 37) 0)with dvs:=[.non,.int 0,.non]}
def Jb8:D4:=mD "Work.held"<|JP (top 37) 1
def Jcf:D4:=mD "next_stop"<|top 42
def Jbi:D4:=mD "Bench.__init__"<|JP (top 43) 0
def Jab:D4:=mD "Bench.next_ready"<|JP (top 43) 1
def Jau:D4:=mD "Bench.let_in"<|JP (top 43) 2
def Jad:D4:=mD "Bench.turns_for"<|JP (top 43) 3
def Jbj:D4:=mD "Bench.tell"<|JP (top 43) 4
def Ja5:D4:=mD "Bench.go_on"<|JP (top 43) 5
def Juw:D4:=mD "run"<|top 44
def Jol:D4:=mD "ends"<|top 45
def Jgf:D4:=mD "missed"<|top 46
def Jch:D4:=mD "own_works"<|top 50
def Jc8:D4:=mD "crowd_of"<|top 51
def Jb5:D4:=mD "Duty.__init__"<|JP (top 52) 0
def Jb6:D4:=mD "Duty.size"<|JP (top 52) 1
def Jb7:D4:=mD "Duty.work"<|JP (top 52) 2
def Jbm:D4:=mD "full_until"<|top 54
def Jdd:D4:=mD "too_full"<|top 55
def Jc7:D4:=mD "ceilings"<|top 57
def Jaw:D4:=mD "refuse_holds"<|top 58
def Jbb:D4:=mD "things_held"<|top 59
def Jge:D4:=mD "lifted"<|top 60
def Jbl:D4:=mD "Order.__init__"<|JP (top 62) 0
def VI:D4:=mD "Order.holds"<|JP (top 62) 2
def Vg:D4:=mD "Order.pick"<|JP (top 62) 3
def Vh:D4:=mD "Order.standing"<|JP (top 62) 4
def Ja6:D4:=mD "ByRank.__init__"<|JP (top 63) 0
def Jai:D4:=mD "ByRank.rank_of"<|JP (top 63) 1
def Jav:D4:=mD "ByRank.holds"<|JP (top 63) 2
def Jbk:D4:=mD "ByDue.__init__"<|JP (top 64) 0
def Jap:D4:=mD "ByDue.rank_of"<|JP (top 64) 1
def Jao:D4:=mD "ByComing.__init__"<|JP (top 65) 0
def Jac:D4:=mD "ByComing.rank_of"<|JP (top 65) 1
def Ja9:D4:=mD "_law_cell_at"<|top 67
def Jbo:D4:=mD "_law_stream"<|top 68
def Jdc:D4:=mD "_law_word"<|top 69
def Jcb:D4:=mD "_law_holds"<|top 70
def Jcd:D4:=mD "_law_plain"<|top 71
def Jdb:D4:=#[top 72,"_law_some",["_law_script","_law_held"],["_law_script","_law_held","_law_first","_law_unit","_law_second","_law_words","_law_some_here","_law_k","_law_plain_here"],[]]
def Jeu:D4:=mD "_law_row"<|top 73
def Jda:D4:=mD "_law_duty"<|top 74
def Jcc:D4:=mD "_law_order"<|top 75
def Jbn:D4:=mD "_law_spoilt"<|top 76
def Jca:D4:=mD "_law_asked"<|top 77
def Jba:D4:=mD "_law_refused"<|top 78
def Jaa:D4:=mD "_law_refused_by_any"<|top 79
def Jaj:D4:=mD "_law_holds_told"<|top 80
def Vi:D4:=mD "law"<|top 81
def T:Tab where
 fns:=[(("is_whole":Str),Jc9),(("is_whole_from":Str),Jaq),(("rounds_up":Str),Jci),(("ready":Str),Jjx),(("due_at":Str),Jgd),(("is_coming":Str),Jb9),(("first_wrong":Str),Ja7),(("checked":Str),Jer),(("is_name":Str),Jet),(("is_hold":Str),Jes),(("lie_apart":Str),Jce),(("lies_in":Str),Jev),(("go_together":Str),Ja8),(("all_go_together":Str),Jae),(("own_holds":Str),Jcg),(("own_due":Str),Jew),(("next_stop":Str),Jcf),(("run":Str),Juw),(("ends":Str),Jol),(("missed":Str),Jgf),(("own_works":Str),Jch),(("crowd_of":Str),Jc8),(("full_until":Str),Jbm),(("too_full":Str),Jdd),(("ceilings":Str),Jc7),(("refuse_holds":Str),Jaw),(("things_held":Str),Jbb),(("lifted":Str),Jge),(("_law_cell_at":Str),Ja9),(("_law_stream":Str),Jbo),(("_law_word":Str),Jdc),(("_law_holds":Str),Jcb),(("_law_plain":Str),Jcd),(("_law_some":Str),Jdb),(("_law_row":Str),Jeu),(("_law_duty":Str),Jda),(("_law_order":Str),Jcc),(("_law_spoilt":Str),Jbn),(("_law_asked":Str),Jca),(("_law_refused":Str),Jba),(("_law_refused_by_any":Str),Jaa),(("_law_holds_told":Str),Jaj),(("law":Str),Vi)]
 clss:=[("Work",Qz),("Bench",Jbi),("Duty",Jb5),("Order",Jbl),("ByRank",Ja6),("ByDue",Jbk),("ByComing",Jao)]
 meths:=[("Work",([("held",Jb8)]:Wq)),("Bench",([("next_ready",Jab),("let_in",Jau),("turns_for",Jad),("tell",Jbj),("go_on",Ja5)]:Wq)),("Duty",([("size",Jb6),("work",Jb7)]:Wq)),("Order",([("holds",VI),("pick",Vg),("standing",Vh)]:Wq)),("ByRank",([("rank_of",Jai),("holds",Jav),("pick",Vg),("standing",Vh)]:Wq)),("ByDue",([("rank_of",Jap),("holds",VI),("pick",Vg),("standing",Vh)]:Wq)),("ByComing",([("rank_of",Jac),("holds",VI),("pick",Vg),("standing",Vh)]:Wq))]
 cons:=[("MOST_COMINGS",.int 200),("AT",.int 0),("COME",.int 1),("LATE",.int 2),("LENGTH",.int 3),("MOST_LETTERS",.int 8),("MOST_HOLDS",.int 6),("THING",.int 0),("START",.int 1),("END",.int 2),("PLACE",.int 0),("FROM",.int 1),("UNTIL",.int 2),("MOST_WORKS",.int 12),("MOST_CROWD",.int 80)]
 isas:=[("Work",["Work"])]
 flds:=["append","dones","due","duty","gap","hold_tuples","join","late","later","length","name","order","pop","remove","row","setdefault","stretches","tops","turn","waiting","works"]
 frees:=["all","bool","enumerate","int","isinstance","len","list","max","min","range","set","sorted","str","sum","tuple"]
 tabs:=["too_full","Bench.__init__","Order.pick"]
 razs:=["TooMany","HoldsThings"]
 xis:=[("BadRow",[("TooMany",Zi),("HoldsThings",Zi),("BadRow",Zg)]),("TooMany",[("TooMany",Zg),("HoldsThings",Zi),("BadRow",Zi)]),("HoldsThings",[("TooMany",Zi),("HoldsThings",Zg),("BadRow",Zi)]),("DutyError",[("TooMany",Zg),("HoldsThings",Zg),("BadRow",Zg)]),("ValueError",[("TooMany",Zg),("HoldsThings",Zg),("BadRow",Zg)])]
 bass:=["Order"]
 xms:=[(("BadRow":Str),Ja4)]
 xfs:=[(("place":Str),["BadRow"])]
 xbs:=["DutyError"]
def Jhu:Str->Ww:=λc=>JO c [("TooMany",Zi),("HoldsThings",Zi),("BadRow",Zg)]
def Jfq:Str->Ww:=λc=>JO c [("TooMany",Zg),("HoldsThings",Zi),("BadRow",Zi)]
def Jbv:Str->Ww:=λc=>JO c [("TooMany",Zi),("HoldsThings",Zg),("BadRow",Zi)]
def Jfz:Str->Ww:=λc=>JO c [("TooMany",Zg),("HoldsThings",Zg),("BadRow",Zg)]
def Jky:Str->Ww:=λc=>JO c [("TooMany",Zg),("HoldsThings",Zg),("BadRow",Zg)]
abbrev pg(k:Nat):Pg:=mkPg T<|run T k
section
variable(k:Nat)(x0 x1 x2 x3 x4 x5 x6:IV)(h:IH)
abbrev Jaz:=run T k Ja4
abbrev Yh:=run T k Jc9
abbrev Vy:=run T k Jaq
abbrev Jdx:=run T k Jci
abbrev Xz:=run T k Jjx
abbrev VD:=run T k Jgd
abbrev Jb3:=run T k Jb9
abbrev Jb1:=run T k Ja7
abbrev Yf:=run T k Jer
abbrev Jd8:=run T k Jet
abbrev Jgp:=run T k Jes
abbrev Jdu:=run T k Jce
abbrev Jd9:=run T k Jev
abbrev Jb2:=run T k Ja8
abbrev Jas:=run T k Jae
abbrev Yl:=run T k Jcg
abbrev Yk:=run T k Jew
abbrev Jb0:=run T k Qz
abbrev Jdr:=run T k Jb8
abbrev Jdv:=run T k Jcf
abbrev Jcp:=run T k Jbi
abbrev Jak:=run T k Jab
abbrev Jbq:=run T k Jau
abbrev Jar:=run T k Jad
abbrev Jcq:=run T k Jbj
abbrev Jbx:=run T k Ja5
abbrev X1:=run T k Juw
abbrev Yg:=run T k Jol
abbrev Jga:=run T k Jgf
abbrev Jdw:=run T k Jch
abbrev Je7:=run T k Jc8
abbrev Jbz:=run T k Jb5
abbrev Jdp:=run T k Jb6
abbrev Jdq:=run T k Jb7
abbrev Jcr:=run T k Jbm
abbrev Jc6:=run T k Jdd
abbrev Jc4:=run T k Jc7
abbrev Ym:=run T k Jaw
abbrev Ja1:=run T k Jbb
abbrev Ji6:=run T k Jge
abbrev Yd:=run T k Jbl
abbrev Ja0:=run T k VI
abbrev Xx:=run T k Vg
abbrev Ye:=run T k Vh
abbrev Jby:=run T k Ja6
abbrev Jay:=run T k Jai
abbrev Jbr:=run T k Jav
abbrev Jbf:=run T k Jbk
abbrev Jbd:=run T k Jap
abbrev Jal:=run T k Jao
abbrev Jam:=run T k Jac
abbrev Vz:=run T k Ja9
abbrev Jbh:=run T k Jbo
abbrev Jc5:=run T k Jdc
abbrev Jds:=run T k Jcb
abbrev Jdt:=run T k Jcd
abbrev Je8:=run T k Jdb
abbrev Jgq:=run T k Jeu
abbrev Xy:=run T k Jda
abbrev Yj:=run T k Jcc
abbrev Jbg:=run T k Jbn
abbrev Xe:=run T k Jca
abbrev Jb4:=run T k Jba
abbrev Jag:=run T k Jaa
abbrev Jah:=run T k Jaj
abbrev Yi:=run T k Vi
def Jgs:S1:=Jf (JA<|Yt (λc=>((pg k).xo c).isSome)<|Jb 'a'<|Jb (eFst [(eC<|.str "the row is wrong at place "),(eUn fmtI 'b')]) Je)<|Jwh (xfOf T "place") "place" 'a' 'b'
theorem Jh7:Jaz (k+1) [x0,x1] h=(Jgs k [J x0,J x1] h).fin:=02
def Jk1(k:Nat):S1:=Jk<|eAnd (eIsi Jq0 'a') (eUn (VS tru)<|eIsi Ji7 'a') tru
theorem Jhd:Yh (k+1) [x0] h=(Jk1 k [J x0] h).fin:=02
def Jfc:S1:=Jk<|eAnd (Ji (Yh k) []<|Jb 'a' Je) (Jc cGe 'a' 'b') tru
theorem Jf5:Vy (k+1) [x0,x1] h=(Jfc k [J x0,J x1] h).fin:=02
def Jjr(k:Nat):S1:=Jk<|Jc JG (Jc Qo (Jc Jm 'a' 'b') '1') 'b'
theorem Jly:Jdx (k+1) [x0,x1] h=(Jjr k [J x0,J x1] h).fin:=02
def Jq7(k:Nat):S1:=Jk<|Jc Jm (Jc Jg 'a' '1')<|Jc Jg 'a' '2'
theorem Jvb:Xz (k+1) [x0] h=(Jq7 k [J x0] h).fin:=02
def Jpu:S1:=Jk<|Jc Jm (Jc Jg 'b' '1')<|Jp "due"<|Jq (pg k) "work" 1 'a'<|Jb (Jc Jg 'b' '0') Je
theorem Jr4:VD (k+1) [x0,x1] h=(Jpu k [J x0,J x1] h).fin:=02
def Jan:E1:=Ji (Yh k) []<|Jb 'a' Je
def Jjj:S1:=Jf (sIf (tOrI (JK<|Jj tru<|eIsi Jn8 'b')<|Jj asB<|Jc cNe (eCB (on1 lenI)<|Jb 'b' Je) '4') (Jk<|eC<|.bl Zi) Jr)<|Jf (sIf (JK<|Jj tru<|eCB (on1 allI)<|Jb (J1 (Jv 'b') 1 [] (gNm 0) JF<|Jan k) Je) (Jk<|eC<|.bl Zi) Jr)<|Jf (sIf (tOrI (JK<|Jj asB<|JJ cLe cLt '0' (Jc Jg 'b' '0')<|Jq (pg k) "size" 0 'a' Je)<|Jj asB<|Jc cLt (Jc Jg 'b' '1') '0') (Jk<|eC<|.bl Zi) Jr)<|Jf (Jh 2<|Jq (pg k) "work" 1 'a'<|Jb (Jc Jg 'b' '0') Je)<|Jk<|eAnd (JJ cLe cLe '0' (Jc Jg 'b' '2')<|Jp "late" 'c') (JJ cLe cLe '1' (Jc Jg 'b' '3')<|Jp "length" 'c') tru
theorem Jbp:Jb3 (k+1) [x0,x1] h=(Jjj k [J x0,J x1,Zc] h).fin:=02
def Jgz:S1:=Jf (Jh 2 X8)<|Jf (sFor (iRg QV<|Jb 'b' Je) (gTp 2<|gC (gNm 3)<|gC (gNm 4) gN)<|Jf (sIf (JK<|Jj tru<|Ji (Jb3 k) []<|Jb 'a'<|Jb 'e' Je) (Jk 'd') Jr)<|Jf (Jh 5<|Jc Jg 'e' '0')<|Jf (sIf (QT (Jj asB<|Jc cInD 'f' 'c')<|Jj asB<|Jc cLt (Jc Qo (Jc Jg 'e' '1')<|Jc QQ 'c' 'f')<|Jp "gap"<|Jq (pg k) "work" 1 'a'<|Jb 'f' Je) (Jk 'd') Jr)<|sAsg (Jc Jg 'e' '1')<|gSbD 'c' 'f')<|Jk<|eC .non
theorem Jib:Jb1 (k+1) [x0,x1] h=(Jgz k [J x0,J x1,Zc,Zc,Zc,Zc] h).fin:=02
def Jgy:S1:=sIf (Jj asB<|Jc Yq 'c'<|eC .non) (YA (λc=>c=="BadRow")<|Joo "BadRow" (Jaz k) []<|Jb 'c' Je) Jr
def Jgx:S1:=Jf (Jh 2<|Ji (Jb1 k) []<|Jb 'a'<|Jb 'b' Je)<|Jgy k
def Jgw:S1:=Jf (sIf (Jj asB<|Jc cGt (eCB (on1 lenI)<|Jb 'b' Je)<|eC<|.int 200) (VU "TooMany"<|Jb (eC<|.str "a row that is run or looked at has at most two hundred comings") Je) Jr)<|Jgx k
theorem Jiw:Yf (k+1) [x0,x1] h=(Jgw k [J x0,J x1,Zc] h).fin:=02
def Ja2(k:Nat):E1:=JJ cLe cLe (eC<|.str "a") 'a'<|eC<|.str "z"
def Jm0:S1:=Jf (sIf (tOrI (JK<|Jj tru<|eIsi Jq1 'a')<|JK<|Jj asB<|JJ cLe cLe '1' (eCB (on1 lenI)<|Jb 'a' Je) '8') (Jk<|eC<|.bl Zi) Jr)<|Jk<|eCB (on1 allI)<|Jb (J1 (Jv 'a') 1 [] (gNm 0) JF<|Ja2 k) Je
theorem Jpy:Jd8 (k+1) [x0] h=(Jm0 k [J x0] h).fin:=02
def Jmz:S1:=Jf (sIf (tOrI (JK<|Jj tru<|eIsi Jn8 'a')<|tOrI (Jj asB<|Jc cNe (eCB (on1 lenI)<|Jb 'a' Je) '3')<|JK<|Jj tru<|Ji (Jd8 k) []<|Jb (Jc Jg 'a' '0') Je) (Jk<|eC<|.bl Zi) Jr)<|Jf (sIf (JK<|Jj tru<|Ji (Vy k) []<|Jb (Jc Jg 'a' '1')<|Jb '0' Je) (Jk<|eC<|.bl Zi) Jr)<|Jk<|eAnd (Ji (Vy k) []<|Jb (Jc Jg 'a' '2')<|Jb (Jc Jm (Jc Jg 'a' '1') '1') Je) (Jc cLt (Jc Jg 'a' '2') 'b') tru
theorem Jpx:Jgp (k+1) [x0,x1] h=(Jmz k [J x0,J x1] h).fin:=02
def Jjn(k:Nat):S1:=Jk<|eOr (Jc cLe (Jc Jg 'a' '2')<|Jc Jg 'b' '1') (Jc cLe (Jc Jg 'b' '2')<|Jc Jg 'a' '1') tru
theorem Jlt:Jdu (k+1) [x0,x1] h=(Jjn k [J x0,J x1] h).fin:=02
def Jm2(k:Nat):S1:=Jk<|eAnd (Jc cLe (Jc Jg 'b' '1')<|Jc Jg 'a' '1') (Jc cLe (Jc Jg 'a' '2')<|Jc Jg 'b' '2') tru
theorem Jp0:Jd9 (k+1) [x0,x1] h=(Jm2 k [J x0,J x1] h).fin:=02
def Jg0:S1:=Jf (sIf (Jj tru<|Ji (Jdu k) []<|Jb 'a'<|Jb 'b' Je) (Jk<|eC<|.bl Zg) Jr)<|Jf (sIf (Jj asB<|Jc cEq (Jc Jg 'a' '0')<|Jc Jg 'b' '0') (Jk<|eC<|.bl Zi) Jr)<|Jk<|eOr (Ji (Jd9 k) []<|Jb 'a'<|Jb 'b' Je) (Ji (Jd9 k) []<|Jb 'b'<|Jb 'a' Je) tru
theorem Jic:Jb2 (k+1) [x0,x1] h=(Jg0 k [J x0,J x1] h).fin:=02
def Jax:E1:=Ji (Jb2 k) []<|Jb 'b'<|Jb 'a' Je
def Jdz:S1:=Jf (sFor (iRg QV<|Jb 'a' Je) (gTp 2<|gC (gNm 1)<|gC (gNm 2) gN)<|sIf (JK<|Jj tru<|eCB (on1 allI)<|Jb (J1 (Jv<|eSl slI 'a' V5<|Qu 'b') 1 [2] (gNm 0) JF<|Jax k) Je) (Jk<|eC<|.bl Zi) Jr)<|Jk<|eC<|.bl Zg
theorem Je2:Jas (k+1) [x0] h=(Jdz k [J x0,Zc,Zc] h).fin:=02
def Jbe:E1:=Ji (Jgp k) []<|Jb 'a'<|Jb 'b' Je
def Jct(k:Nat):E1:=Jz<|Jb (Jc Jg 'a' '0')<|Jb (Jc Jg 'a' '1')<|Jb (Jc Jg 'a' '2') Je
def Jjp:S1:=Jf (sIf (Jj asB<|Jc cIs 'a'<|eC .non) (Jk<|Jz Je) Jr)<|Jf (sIf (JK<|Jj tru<|eIsi Yo 'a') stS Jr)<|Jf (sIf (Jj asB<|Jc cGt (eCB (on1 lenI)<|Jb 'a' Je) '6') stS Jr)<|Jf (sIf (JK<|Jj tru<|eCB (on1 allI)<|Jb (J1 (Jv 'a') 1 [1] (gNm 0) JF<|Jbe k) Je) stS Jr)<|Jf (sIf (JK<|Jj tru<|Ji (Jas k) []<|Jb 'a' Je) stS Jr)<|Jk<|eCB (on1 VZ)<|Jb (J1 (Jv 'a') 1 [] (gNm 0) JF<|Jct k) Je
theorem Jlw:Yl (k+1) [x0,x1] h=(Jjp k [J x0,J x1] h).fin:=02
def Jm3:S1:=Jf (sIf (Jj asB<|Jc cIs 'a'<|eC .non) (Jk 'b') Jr)<|Jf (sIf (tOrI (JK<|Jj tru<|Ji (Vy k) []<|Jb 'a'<|Jb '1' Je)<|Jj asB<|Jc cGt 'a' 'b') stS Jr)<|Jk 'a'
theorem Jp1:Yk (k+1) [x0,x1] h=(Jm3 k [J x0,J x1] h).fin:=02
def Jee:S1:=JT "hold_tuples" 'a'<|Ji (Yl k) []<|Jb 'g'<|Jb 'd' Je
def Jji:S1:=Jf (sIf (JK<|Jj tru<|Ji (Jd8 k) []<|Jb 'b' Je) stS Jr)<|Jf (sIf (JK<|Jj tru<|Ji (Vy k) []<|Jb 'c'<|Jb '1' Je) stS Jr)<|Jf (sIf (JK<|Jj tru<|Ji (Vy k) []<|Jb 'd'<|Jb '1' Je) stS Jr)<|Jf (sIf (JK<|Jj tru<|Ji (Vy k) []<|Jb 'f'<|Jb '0' Je) stS Jr)<|Jf (JT "name" 'a' 'b')<|Jf (JT "gap" 'a' 'c')<|Jf (JT "length" 'a' 'd')<|Jf (JT "due" 'a'<|Ji (Yk k) []<|Jb 'e'<|Jb 'c' Je)<|Jf (JT "late" 'a' 'f')<|Jee k
theorem Jlq:Jb0 (k+1) [x0,x1,x2,x3,x4,x5,x6] h=(Jji k [J x0,J x1,J x2,J x3,J x4,J x5,J x6] h).fin:=02
def Jjh(k:Nat):S1:=Jk<|eCB (on1 QD)<|Jb (Jp "hold_tuples" 'a') Je
theorem Jlp:Jdr (k+1) [x0] h=(Jjh k [J x0] h).fin:=02
def Jjo:S1:=Jk<|eCB (on1 VQ)<|Jb (Jc Jm (Jx<|Jb 'c' Je)<|J1 (Jv<|Jq (pg k) "held" 0 'a' Je) 1 [1] (gNm 0) (Jj asB<|Jc cGt (Jc Jg 'a' '2') 'b')<|Jc Jg 'a' '2') Je
theorem Jlv:Jdv (k+1) [x0,x1,x2] h=(Jjo k [J x0,J x1,J x2] h).fin:=02
def X7:E1:=Ji (Xz k) []<|Jb (Jc Jg 'b' 'a') Je
def Jdi(k:Nat):S1:=JT "stretches" 'a'<|Jx Je
def Jhw:S1:=Jf (JT "order" 'a' 'b')<|Jf (JT "row" 'a' 'c')<|Jf (JT "dones" 'a'<|J1 (Jv 'c') 1 [] (gNm 0) JF '0')<|Jf (JT "later" 'a'<|Yw "Bench.__init__" 1 [2] (Jb (eCB (on1 lenI)<|Jb 'c' Je) Je)<|X7 k)<|Jf (JT "waiting" 'a'<|Jx Je)<|Jf (JT "turn" 'a' '0')<|Jdi k
theorem Jj1:Jcp (k+1) [x0,x1,x2] h=(Jhw k [J x0,J x1,J x2] h).fin:=02
def Jdf:S1:=Jk<|Ji (Xz k) []<|Jb (Jc Jg (Jp "row" 'a')<|Jc Jg (Jp "later" 'a')<|eUn Jv6 '1') Je
theorem Jd3:Jak (k+1) [x0] h=(Jdf k [J x0] h).fin:=02
def Jcl:S1:=YB (QT (Jj asB<|Jc cGt (eCB (on1 lenI)<|Jb (Jp "later" 'a') Je) '0')<|Jj asB<|Jc cLe (Jq (pg k) "next_ready" 0 'a' Je)<|Jp "turn" 'a')<|JA<|Jq (pg k) "append" 1 (Jp "waiting" 'a')<|Jb (Jq (pg k) "pop" 0 (Jp "later" 'a') Je) Je
def Jf0:S1:=Jf (sIf (Jj asB<|Jc cEq (eCB (on1 lenI)<|Jb (Jp "waiting" 'a') Je) '0') (JT "turn" 'a'<|eCB (on2 maxI)<|Jb (Jp "turn" 'a')<|Jb (Jq (pg k) "next_ready" 0 'a' Je) Je) Jr)<|Jcl k
theorem Jhb:Jbq (k+1) [x0] h=(Jf0 k [J x0] h).fin:=02
def Jdy:S1:=Jf (Jh 2<|Jc Jg (Jp "row" 'a') 'b')<|Jf (Jh 3<|Jc Jg (Jp "dones" 'a') 'b')<|Jf (Jh 4<|Jc Qo (Ji (Jdv k) []<|Jb (Jq (pg k) "work" 1 (Jp "duty"<|Jp "order" 'a')<|Jb (Jc Jg 'c' '0') Je)<|Jb 'd'<|Jb (Jc Jg 'c' '3') Je) 'd')<|Jf (sIf (Jj asB<|Jc cGt (eCB (on1 lenI)<|Jb (Jp "later" 'a') Je) '0') (Jh 4<|eCB (on2 minI)<|Jb 'e'<|Jb (Jc Qo (Jq (pg k) "next_ready" 0 'a' Je)<|Jp "turn" 'a') Je) Jr)<|Jk 'e'
theorem Je0:Jar (k+1) [x0,x1] h=(Jdy k [J x0,J x1,Zc,Zc,Zc] h).fin:=02
def Jdj:S1:=JA<|Jq (pg k) "append" 1 (Jp "stretches" 'a')<|Jb (Jz<|Jb 'b'<|Jb 'd'<|Jb 'c' Je) Je
def Jhx:S1:=Jf (Jh 3<|Jp "turn" 'a')<|Jf (sIf (QT (Jj asB<|Jc cGt (eCB (on1 lenI)<|Jb (Jp "stretches" 'a') Je) '0')<|Jj asB<|Jc cEq (Jc Jg (Jc Jg (Jp "stretches" 'a')<|eUn Jv6 '1') '0') 'b') (Jh 3<|Jc Jg (Jq (pg k) "pop" 0 (Jp "stretches" 'a') Je) '1') Jr)<|Jdj k
theorem Jj2:Jcq (k+1) [x0,x1,x2] h=(Jhx k [J x0,J x1,J x2,Zc] h).fin:=02
def Jgt:S1:=Jf (JA<|Jq (pg k) "let_in" 0 'a' Je)<|Jf (Jh 1<|Jq (pg k) "pick" 3 (Jp "order" 'a')<|Jb (Jp "row" 'a')<|Jb (Jp "waiting" 'a')<|Jb (Jp "dones" 'a') Je)<|Jf (Jh 2<|Jq (pg k) "turns_for" 1 'a'<|Jb 'b' Je)<|Jf (JA<|Jq (pg k) "tell" 2 'a'<|Jb 'b'<|Jb (Jc Jm (Jp "turn" 'a') 'c') Je)<|Jf (XR .Add "turn" 'a' 'c')<|Jf (XS .Add (Jp "dones" 'a') 'b' 'c')<|sIf (Jj asB<|Jc cEq (Jc Jg (Jp "dones" 'a') 'b')<|Jc Jg (Jc Jg (Jp "row" 'a') 'b') '3') (JA<|Jq (pg k) "remove" 1 (Jp "waiting" 'a')<|Jb 'b' Je) Jr
theorem Jh8:Jbx (k+1) [x0] h=(Jgt k [J x0,Zc,Zc] h).fin:=02
def Jq8:S1:=Jf (JA<|Ji (Yf k) []<|Jb (Jp "duty" 'a')<|Jb 'b' Je)<|Jf (Jh 2<|Q2 "Bench" (Jcp k) []<|Jb 'a'<|Jb 'b' Je)<|Jf (YB (Jj asB<|Jc cGt (Jc Jm (eCB (on1 lenI)<|Jb (Jp "later" 'c') Je)<|eCB (on1 lenI)<|Jb (Jp "waiting" 'c') Je) '0')<|JA<|Jq (pg k) "go_on" 0 'c' Je)<|Jk<|Jp "stretches" 'c'
theorem Jxp:X1 (k+1) [x0,x1] h=(Jq8 k [J x0,J x1,Zc] h).fin:=02
def Jit(k:Nat):E1:=Jc QQ 'b' 'a'
def Joc:S1:=Jf (sFor (Jv<|Ji (X1 k) []<|Jb 'a'<|Jb 'b' Je) (gNm 3)<|sAsg (Jc Jg 'd' '2')<|gSbD 'c'<|Jc Jg 'd' '0')<|Jk<|J1 (iRg QC<|Jb (eCB (on1 lenI)<|Jb 'b' Je) Je) 1 [2] (gNm 0) JF<|Jit k
def Job:S1:=Jf (Jh 2 X8)<|Joc k
theorem Jr5:Yg (k+1) [x0,x1] h=(Job k [J x0,J x1,Zc,Zc] h).fin:=02
def Jfu:T1:=Jj asB<|Jc cGt (Jc Jg 'd' 'a')<|Ji (VD k) []<|Jb (Jp "duty" 'c')<|Jb 'b' Je
def Jir:S1:=Jf (Jh 2<|Ji (Yg k) []<|Jb 'a'<|Jb 'b' Je)<|Jk<|J1 (iRg QV<|Jb 'b' Je) 2 [0,2] (gTp 2<|gC (gNm 0)<|gC (gNm 1) gN) (Jfu k) 'a'
theorem Jlu:Jga (k+1) [x0,x1] h=(Jir k [J x0,J x1,Zc] h).fin:=02
def Jcu(k:Nat):E1:=eIsi (Jxf ["Work"]) 'a'
def Jcv(k:Nat):E1:=Jp "name" 'a'
def Jjq:S1:=Jf (sIf (JK<|Jj tru<|eIsi Yo 'a') stS Jr)<|Jf (sIf (JK<|Jj tru<|eCB (on1 allI)<|Jb (J1 (Jv 'a') 1 [] (gNm 0) JF<|Jcu k) Je) stS Jr)<|Jf (sIf (Jj asB<|Jc cNe (Yv<|Jb (J1 (Jv 'a') 1 [] (gNm 0) JF<|Jcv k) Je)<|eCB (on1 lenI)<|Jb 'a' Je) stS Jr)<|Jk<|eCB (on1 VZ)<|Jb 'a' Je
theorem Jlx:Jdw (k+1) [x0] h=(Jjq k [J x0] h).fin:=02
def Jbs(k:Nat):E1:=Jp "due" 'a'
def Jdl:E1:=Ji (Jdx k) []<|Jb (Jc Jm 'b'<|Jp "late" 'a')<|Jb (Jp "gap" 'a') Je
def Jk0:S1:=Jf (Jh 1<|X9 (Jb (J1 (Jv 'a') 1 [] (gNm 0) JF<|Jbs k) Je) '0')<|Jk<|eCB (on1 sumI)<|Jb (J1 (Jv 'a') 1 [1] (gNm 0) JF<|Jdl k) Je
theorem Jnf:Je7 (k+1) [x0] h=(Jk0 k [J x0,Zc] h).fin:=02
def Jje:S1:=Jf (JT "works" 'a'<|Ji (Jdw k) []<|Jb 'b' Je)<|Jf (sIf (Jj asB<|Jc cGt (eCB (on1 lenI)<|Jb (Jp "works" 'a') Je)<|eC<|.int 12) (VU "TooMany"<|Jb (eC<|.str "a duty has at most twelve works") Je) Jr)<|sIf (Jj asB<|Jc cGt (Ji (Je7 k) []<|Jb (Jp "works" 'a') Je)<|eC<|.int 80) (VU "TooMany"<|Jb (eC<|.str "the crowd of a duty is at most 80") Je) Jr
theorem Jlm:Jbz (k+1) [x0,x1] h=(Jje k [J x0,J x1] h).fin:=02
def Jjf(k:Nat):S1:=Jk<|eCB (on1 lenI)<|Jb (Jp "works" 'a') Je
theorem Jln:Jdp (k+1) [x0] h=(Jjf k [J x0] h).fin:=02
def Jjg(k:Nat):S1:=Jk<|Jc Jg (Jp "works" 'a') 'b'
theorem Jlo:Jdq (k+1) [x0,x1] h=(Jjg k [J x0,J x1] h).fin:=02
def Jh0:S1:=Jf (Jh 3 '0')<|Jf (sFor (Jv 'b') (gNm 4)<|sIf (Jj asB<|Jc cGe (Ji (Xz k) []<|Jb 'e' Je) 'c') (Jf (sAug .Add 3<|Jc Jg 'e' '3')<|sIf (Jj asB<|Jc cGt 'd'<|Jc Qo (Ji (VD k) []<|Jb 'a'<|Jb 'e' Je) 'c') (Jk<|Ji (VD k) []<|Jb 'a'<|Jb 'e' Je) Jr) Jr)<|Jk<|eC .non
theorem Jj5:Jcr (k+1) [x0,x1,x2] h=(Jh0 k [J x0,J x1,J x2,Zc,Zc] h).fin:=02
def Jfs:S1:=Jf (JA<|Ji (Yf k) []<|Jb 'a'<|Jb 'b' Je)<|Jf (Jh 2<|XC "too_full" 0 [0] (Jb 'b' Je)<|Ji (VD k) []<|Jb 'b'<|Jb 'a' Je)<|Jf (sFor (Jv<|Yx<|Jb (J1 (Jv 'b') 1 [] (gNm 0) JF<|Ji (Xz k) []<|Jb 'a' Je) Je) (gNm 3)<|Jf (Jh 4<|Ji (Jcr k) []<|Jb 'a'<|Jb 'c'<|Jb 'd' Je)<|sIf (Jj asB<|Jc Yq 'e'<|eC .non) (Jk<|Jz<|Jb 'd'<|Jb 'e' Je) Jr)<|Jk<|eC .non
theorem Jhe:Jc6 (k+1) [x0,x1] h=(Jfs k [J x0,J x1,Zc,Zc,Zc] h).fin:=02
def Jkz:S1:=Jf (Jh 1 X8)<|Jf (sFor (iRg QC<|Jb (Jq (pg k) "size" 0 'a' Je) Je) (gNm 2)<|sFor (Jv<|Jq (pg k) "held" 0 (Jq (pg k) "work" 1 'a'<|Jb 'c' Je) Je) (gNm 3)<|JA<|Jq (pg k) "setdefault" 2 'b'<|Jb (Jc Jg 'd' '0')<|Jb 'c' Je)<|Jk 'b'
theorem Jne:Jc4 (k+1) [x0] h=(Jkz k [J x0,Zc,Zc,Zc] h).fin:=02
def Jcm:S1:=sIf (Jj asB<|Jc cGt (eCB (on1 Xm)<|Jb (Ji (Jc4 k) []<|Jb 'a' Je) Je) '0') (VU "HoldsThings"<|Jb (eC<|.str "a work of the duty holds a shared thing") Je) Jr
theorem Jc1:Ym (k+1) [x0] h=(Jcm k [J x0] h).fin:=02
def Jg3:S1:=Jk<|J1 (Jv<|Jq (pg k) "held" 0 'a' Je) 1 [1] (gNm 0) (Jj asB<|JJ cLt cLt (Jc Jg 'a' '1') 'b'<|Jc Jg 'a' '2')<|Jc Jg 'a' '0'
theorem Jie:Ja1 (k+1) [x0,x1] h=(Jg3 k [J x0,J x1] h).fin:=02
def Jft(k:Nat):E1:=Jc QQ 'b' 'a'
def Jpv:S1:=Jk<|eCB (on1 VQ)<|Jb (Jc Jm (Jx<|Jb 'a' Je)<|J1 (Jv 'b') 1 [2] (gNm 0) JF<|Jft k) Je
theorem Jr6:Ji6 (k+1) [x0,x1,x2] h=(Jpv k [J x0,J x1,J x2] h).fin:=02
def Jhy(k:Nat):S1:=JT "duty" 'a' 'b'
theorem Jj3:Yd (k+1) [x0,x1] h=(Jhy k [J x0,J x1] h).fin:=02
def Jgv(k:Nat):S1:=Jk<|eC<|.bl Zi
theorem Jia:Ja0 (k+1) [x0,x1,x2] h=(Jgv k [J x0,J x1,J x2] h).fin:=02
def Jhz:S1:=Jk<|XB ltT "Order.pick" 2 [3,1,0] (Jb 'c' Je)<|Jc Jm (Jq (pg k) "standing" 2 'd'<|Jb (Jc Jg 'c' 'a')<|Jb (Jc Jg 'b' 'a') Je)<|Jz<|Jb 'a' Je
theorem Jj4:Xx (k+1) [x0,x1,x2,x3] h=(Jhz k [J x0,J x1,J x2,J x3] h).fin:=02
def Jed:S1:=Jk<|Jz<|Jb (Jq (pg k) "rank_of" 2 'a'<|Jb 'b'<|Jb 'c' Je)<|Jb (eIf (Jj tru<|Jq (pg k) "holds" 2 'a'<|Jb 'b'<|Jb 'c' Je) '0' '1') Je
theorem Jfj:Ye (k+1) [x0,x1,x2] h=(Jed k [J x0,J x1,J x2] h).fin:=02
def Jgu:S1:=Jf (JA<|Ji (Yd k) []<|Jb 'a'<|Jb 'b' Je)<|JT "tops" 'a'<|Ji (Jc4 k) []<|Jb 'b' Je
theorem Jh9:Jby (k+1) [x0,x1] h=(Jgu k [J x0,J x1] h).fin:=02
def Jec:S1:=Jk<|Ji (Ji6 k) []<|Jb (Jc Jg 'b' '0')<|Jb (Ji (Ja1 k) []<|Jb (Jq (pg k) "work" 1 (Jp "duty" 'a')<|Jb (Jc Jg 'b' '0') Je)<|Jb 'c' Je)<|Jb (Jp "tops" 'a') Je
theorem Jfi:Jay (k+1) [x0,x1,x2] h=(Jec k [J x0,J x1,J x2] h).fin:=02
def Jf1:S1:=Jk<|Jc cGt (eCB (on1 lenI)<|Jb (Ji (Ja1 k) []<|Jb (Jq (pg k) "work" 1 (Jp "duty" 'a')<|Jb (Jc Jg 'b' '0') Je)<|Jb 'c' Je) Je) '0'
theorem Jhc:Jbr (k+1) [x0,x1,x2] h=(Jf1 k [J x0,J x1,J x2] h).fin:=02
def Jdk:S1:=Jf (JA<|Ji (Ym k) []<|Jb 'b' Je)<|JA<|Ji (Yd k) []<|Jb 'a'<|Jb 'b' Je
theorem Je1:Jbf (k+1) [x0,x1] h=(Jdk k [J x0,J x1] h).fin:=02
def Jfb:S1:=Jk<|Ji (VD k) []<|Jb (Jp "duty" 'a')<|Jb 'b' Je
theorem Jf4:Jbd (k+1) [x0,x1,x2] h=(Jfb k [J x0,J x1,J x2] h).fin:=02
def Jbw:S1:=Jf (JA<|Ji (Ym k) []<|Jb 'b' Je)<|JA<|Ji (Yd k) []<|Jb 'a'<|Jb 'b' Je
theorem Jcn:Jal (k+1) [x0,x1] h=(Jbw k [J x0,J x1] h).fin:=02
def Jdg(k:Nat):S1:=Jk<|Jc Jg 'b' '1'
theorem Jd4:Jam (k+1) [x0,x1,x2] h=(Jdg k [J x0,J x1,J x2] h).fin:=02
def Jg1(k:Nat):S1:=Jf (sIf (Jj asB<|Jc cLt 'b'<|eCB (on1 lenI)<|Jb 'a' Je) (Jk<|Jc Jg 'a' 'b') Jr)<|Jk '0'
theorem Jdo:Vz (k+1) [x0,x1] h=(Jg1 k [J x0,J x1] h).fin:=02
def Jh2:S1:=Jf (Jh 2<|Jx Je)<|Jf (sIf (Jj asB<|Jc cGe 'a'<|Jc JM (eC<|.int 10)<|eC<|.int 30) (Jf (Jh 3<|Jc Qo 'a'<|Jc JM (eC<|.int 10)<|eC<|.int 30)<|Jf (sFor (iRg QC<|Jb 'b' Je) (gNm 4)<|Jf (JA<|Jq (pg k) "append" 1 'c'<|Jb (Jc Ju 'd'<|Jc JM (eC<|.int 10)<|eC<|.int 45) Je)<|Jh 3<|Jc JG 'd'<|Jc JM (eC<|.int 10)<|eC<|.int 45)<|Jk 'c') Jr)<|Jf (Jh 5<|Jc Jm (Jc Ju 'a'<|Jc Jm (Jc JM (eC<|.int 10)<|eC<|.int 18) '9')<|eC<|.int 48271)<|Jf (sFor (iRg QC<|Jb (Jc Jm 'b' '2') Je) (gNm 4)<|Jf (Jh 5<|Jc Ju (Jc Jm (Jc Jm (Jc Qe 'f' 'f')<|Jc Qe (eC<|.int 48271) 'f') 'e')<|Jc Jm (Jc JM (eC<|.int 10)<|eC<|.int 18) '9')<|JA<|Jq (pg k) "append" 1 'c'<|Jb 'f' Je)<|Jk<|eSl slI 'c' (Qu '2') V5
theorem Jj7:Jbh (k+1) [x0,x1] h=(Jh2 k [J x0,J x1,Zc,Zc,Zc,Zc] h).fin:=02
def Jdn(k:Nat):E1:=Jc Jg 'c'<|Jc Ju (Jc JG 'b'<|Jc Jm (eC<|.int 11)<|Jc Qe 'a' 'a')<|eC<|.int 26
def Jk4:S1:=Jf (Jh 2<|eC<|.str "abcdefghijklmnopqrstuvwxyz")<|Jf (Jh 3<|Jc Jm '1'<|Jc Ju 'a' '8')<|Jf (Jh 4<|Jq (pg k) "join" 1 (eC<|.str "")<|Jb (J1 (iRg QC<|Jb 'd' Je) 1 [0,2] (gNm 0) JF<|Jdn k) Je)<|Jf (Jh 5<|Jc Ju (Jc JG 'a' '8') 'd')<|Jk<|Jc Jm (Jc Jm (eSl slT 'e' V5<|Qu 'f')<|Jc Jg 'c'<|Jc Ju (Jc Jm (Jc JG 'a'<|eC<|.int 64) 'b')<|eC<|.int 26)<|eSl slT 'e' (Qu<|Jc Jm 'f' '1') V5
theorem Jni:Jc5 (k+1) [x0,x1] h=(Jk4 k [J x0,J x1,Zc,Zc,Zc,Zc] h).fin:=02
def Jcs(k:Nat):E1:=Jc Ju 'a' 'b'
def Jel(k:Nat):S1:=Jk<|J1 (Jv<|Jc Jg 'g'<|Jc Ju (Jc Jg 'a' '6') '6') 1 [] (gNm 0) (Jj asB<|Jc cLt (Jc Jg 'a' '1')<|Jc Jg 'a' '2') 'a'
def Jek:S1:=Jf (Jh 6<|Jc Jm 'g'<|Jx<|Jb (Jx<|Jb (Jz<|Jb 'e'<|Jb (Jc Jg 'd' '0')<|Jb (Jc Jg 'd' '1') Je)<|Jb (Jz<|Jb 'f'<|Jb (Jc Jg 'd' '2')<|Jb (Jc Jg 'd' '3') Je) Je)<|Jb (Jx<|Jb (Jz<|Jb 'e'<|Jb (Jc Jg 'd' '2')<|Jb (Jc Jg 'd' '3') Je)<|Jb (Jz<|Jb 'e'<|Jb (Jc Jg 'd' '0')<|Jb (Jc Jg 'd' '1') Je) Je) Je)<|Jel k
def Jej:S1:=Jf (Jh 6<|Jx<|Jb (Jx Je)<|Jb (Jx<|Jb (Jz<|Jb 'e'<|Jb (Jc Jg 'd' '0')<|Jb (Jc Jg 'd' '3') Je) Je)<|Jb (Jx<|Jb (Jz<|Jb 'e'<|Jb (Jc Jg 'd' '0')<|Jb (Jc Jg 'd' '3') Je)<|Jb (Jz<|Jb 'f'<|Jb (Jc Jg 'd' '1')<|Jb (Jc Jg 'd' '2') Je) Je)<|Jb (Jx<|Jb (Jz<|Jb 'f'<|Jb (Jc Jg 'd' '1')<|Jb (Jc Jg 'd' '2') Je)<|Jb (Jz<|Jb 'e'<|Jb (Jc Jg 'd' '0')<|Jb (Jc Jg 'd' '3') Je) Je) Je)<|Jek k
def Jjl:S1:=Jf (Jh 3<|eCB (on1 XU)<|Jb (J1 (Jv<|eSl slI 'a' V5<|Qu '4') 1 [1] (gNm 0) JF<|Jcs k) Je)<|Jf (Jh 4<|Jc Jg 'c'<|Jc Ju (Jc Jg 'a' '4') '3')<|Jf (Jh 5<|Jc Jg 'c'<|Jc Ju (Jc Jm (Jc Jm (Jc Jg 'a' '4') '1')<|Jc Ju (Jc Jg 'a' '5') '2') '3')<|Jej k
theorem Jlr:Jds (k+1) [x0,x1,x2] h=(Jjl k [J x0,J x1,J x2,Zc,Zc,Zc,Zc] h).fin:=02
def Jjm:S1:=Jf (Jh 3<|Ji (Jbh k) []<|Jb 'a'<|Jb (eC<|.int 15) Je)<|Jf (Jh 4<|Jc Jm (Jc Qe 'b'<|Jc Jm '1'<|Jc Ju (Jc Jg 'd' '0') '7')<|Jc Ju (Jc Jg 'd' '1')<|Jc Jm '1'<|Jc JG 'b' '2')<|Jf (Jh 5<|Jc Qo 'e'<|Jc Jg (Jx<|Jb '0'<|Jb (Jc Ju (Jc Jg 'd' '2') 'e') Je)<|Jc Ju (Jc Jg 'd' '3') '2')<|Jf (Jh 6<|Jc Jg (Jx<|Jb '0'<|Jb '0'<|Jb (Jc Ju (Jc Jg 'd' '4')<|Jc Jm '1'<|Jc JG 'e' '3')<|Jb (Jc Ju (Jc Jg 'd' '4')<|Jc Jm '1'<|Jc JG (Jc Qe '3' 'e') '2') Je)<|Jc Ju (Jc Jg 'd' '5') '4')<|Jf (Jh 7<|Jc Jm '1'<|Jc Ju (Jc Jg 'd' '6')<|eCB (on2 maxI)<|Jb '1'<|Jb (Jc JG 'e'<|Jc Jg (Jx<|Jb '1'<|Jb '2'<|Jb '4'<|Jb '9' Je)<|Jc Ju (Jc Jg 'd' '7') '4') Je)<|Jf (Jh 8<|Jx Je)<|Jf (sIf (Jj asB<|Jc cNe 'c'<|Jx Je) (Jh 8<|Ji (Jds k) []<|Jb (eSl slI 'd' (Qu '8') V5)<|Jb 'h'<|Jb 'c' Je) Jr)<|Jk<|Jz<|Jb 'e'<|Jb 'h'<|Jb 'f'<|Jb 'g'<|Jb 'i' Je
theorem Jls:Jdt (k+1) [x0,x1,x2] h=(Jjm k [J x0,J x1,J x2,Zc,Zc,Zc,Zc,Zc,Zc] h).fin:=02
def Jdm:E1:=Ji (Jc5 k) []<|Jb (Jc JG 'b' '5')<|Jb 'a' Je
def Jfr:S1:=Jf (Jh 6<|Jx Je)<|Jf (sFor (iRg QC<|Jb (Jc Ju 'e' '6') Je) (gNm 7)<|Jf (Jh 8<|Ji (Jdt k) []<|Jb (Jc Jm (Ji (Vz k) []<|Jb 'a'<|Jb (Jc Jm '2' 'h') Je)<|Jc Qe '7' 'h')<|Jb 'd'<|Jb 'f' Je)<|JA<|Jq (pg k) "append" 1 'g'<|Jb (Jc Jm (Jz<|Jb (Ji (Jc5 k) []<|Jb (Jc JG 'e' '7')<|Jb 'h' Je) Je) 'i') Je)<|Jk 'g'
def Jk3:S1:=Jf (Jh 2<|Ji (Vz k) []<|Jb 'a'<|Jb '0' Je)<|Jf (Jh 3<|Jc Jm '1'<|Jc Ju (Jc JG 'c' '4')<|Jc Jg (Jx<|Jb '4'<|Jb (Jc JM (eC<|.int 10)<|eC<|.int 15)<|Jb (Jc JM (eC<|.int 10)<|eC<|.int 15)<|Jb (Jc JM (eC<|.int 10)<|eC<|.int 40) Je)<|Jc Ju 'c' '4')<|Jf (Jh 4<|Ji (Vz k) []<|Jb 'a'<|Jb '1' Je)<|Jf (Jh 5<|Jx Je)<|Jf (sIf (Jj tru 'b') (Jh 5<|J1 (iRg QC<|Jb '3' Je) 1 [4] (gNm 0) JF<|Jdm k) Jr)<|Jfr k
theorem Jnh:Je8 (k+1) [x0,x1] h=(Jk3 k [J x0,J x1,Zc,Zc,Zc,Zc,Zc,Zc,Zc] h).fin:=02
def Jfx:S1:=Jf (Jh 6<|Ji (Jbh k) []<|Jb 'f'<|Jb '6' Je)<|Jf (Jh 7<|Jc Ju (Jc Jg 'g' '0')<|eCB (on1 lenI)<|Jb 'b' Je)<|Jf (sAsg (Jc Jg 'b' 'h')<|gTp 6<|gC (gNm 8)<|gC (gNm 9)<|gC (gNm 10)<|gC (gNm 11)<|gC (gNm 12)<|gC (gNm 13) gN)<|Jf (Jh 14<|Jc Jg (Jx<|Jb 'm'<|Jb '0'<|Jb (Jc Ju (Jc Jg 'g' '1')<|Jc Jm 'm' '1') Je)<|Jc Ju (Jc Jg 'g' '2') '3')<|Jf (Jh 15<|Jc Jm (Jc Qo 'e' 'o')<|Jc Jg (Jx<|Jb '0'<|Jb (Jc Ju (Jc Jg 'g' '3') 'j')<|Jb (Jc Qo '0'<|Jc Ju (Jc Jg 'g' '3') 'j') Je)<|Jc Ju (Jc Jg 'g' '4') '3')<|Jf (sIf (Jj asB<|Jc cInD 'h' 'd') (Jh 15<|Jc Jm (Jc Jm (Jc QQ 'd' 'h') 'j')<|Jc Jg (Jx<|Jb '0'<|Jb (Jc Ju (Jc Jg 'g' '3')<|Jc Jm '1' 'j') Je)<|Jc Ju (Jc Jg 'g' '4') '2') Jr)<|Jf (sAsg 'p'<|gSbD 'd' 'h')<|JA<|Jq (pg k) "append" 1 'c'<|Jb (Jz<|Jb 'h'<|Jb 'p'<|Jb 'o'<|Jb (Jc Jg (Jx<|Jb 'k'<|Jb 'k'<|Jb (Jc Jm '1'<|Jc Ju (Jc Jg 'g' '5') 'k') Je)<|Jc Ju (Jc JG (Jc Jg 'g' '4') '6') '3') Je) Je
def Jm1:S1:=Jf (Jh 2<|Jx Je)<|Jf (Jh 3 X8)<|Jf (sIf (Jj asB<|Jc cEq 'b'<|Jx Je) (Jk 'c') Jr)<|Jf (Jh 4<|Jc Qe '3'<|eCB (on1 XI)<|Jb (J1 (Jv 'b') 1 [] (gNm 0) JF<|Jc Jg 'a' '1') Je)<|Jf (sFor (Jv 'a') (gNm 5)<|Jfx k)<|Jk 'c'
theorem Jpz:Jgq (k+1) [x0,x1] h=(Jm1 k [J x0,J x1,Zc,Zc,Zc,Zc,Zc,Zc,Zc,Zc,Zc,Zc,Zc,Zc,Zc,Zc] h).fin:=02
def Jat:E1:=Q2 "Work" (Jb0 k) []<|Jb (Jc Jg 'a' '0')<|Jb (Jc Jg 'a' '1')<|Jb (Jc Jg 'a' '2')<|Jb (Jc Jg 'a' '3')<|Jb (Jc Jg 'a' '4')<|Jb (eCB (on1 QD)<|Jb (Jc Jg 'a' '5') Je) Je
def Jk2:S1:=Jk<|Q2 "Duty" (Jbz k) []<|Jb (J1 (Jv 'a') 1 [] (gNm 0) JF<|Jat k) Je
theorem Jng:Xy (k+1) [x0] h=(Jk2 k [J x0] h).fin:=02
def Jeo:S1:=Jf (sIf (Jj asB<|Jc cEq 'a' '2') (Jk<|Q2 "ByComing" (Jal k) []<|Jb (Ji (Xy k) []<|Jb 'b' Je) Je) Jr)<|Jk<|Q2 "ByRank" (Jby k) []<|Jb (Ji (Xy k) []<|Jb 'b' Je) Je
def Jen:S1:=Jf (sIf (Jj asB<|Jc cEq 'a' '1') (Jk<|Q2 "ByDue" (Jbf k) []<|Jb (Ji (Xy k) []<|Jb 'b' Je) Je) Jr)<|Jeo k
theorem Jfw:Yj (k+1) [x0,x1] h=(Jen k [J x0,J x1] h).fin:=02
def Jh1(k:Nat):S1:=Jf (sAsg 'c'<|gTp 4<|gC (gNm 3)<|gC (gNm 4)<|gC (gNm 5)<|gC (gNm 6) gN)<|Jf (Jh 7<|Jx<|Jb (Jz<|Jb (eCB (on1 lenI)<|Jb 'b' Je)<|Jb 'e'<|Jb 'f'<|Jb 'g' Je)<|Jb (Jz<|Jb 'd'<|Jb 'e'<|Jb (Jc Jm (Jc Jg (Jc Jg 'b' 'd') '4') '1')<|Jb 'g' Je)<|Jb (Jz<|Jb 'd'<|Jb 'e'<|Jb 'f'<|Jb (Jc Jm (Jc Jg (Jc Jg 'b' 'd') '2') '1') Je) Je)<|Jf (Jh 7<|Jc Jm 'h'<|Jx<|Jb (Jz<|Jb 'd'<|Jb 'e'<|Jb 'f'<|Jb '0' Je)<|Jb (Jz<|Jb 'd'<|Jb (Jc Qo (Jc Qo '0' '1')<|Jc Ju (Jc JG 'a' '9') '7')<|Jb 'f'<|Jb 'g' Je)<|Jb (Jz<|Jb 'd'<|Jb 'e'<|Jb (Jc Qo '0' '1')<|Jb 'g' Je) Je)<|Jf (Jh 7<|Jc Jm 'h'<|Jx<|Jb (Jz<|Jb (Jc Qo '0' '1')<|Jb 'e'<|Jb 'f'<|Jb 'g' Je)<|Jb (Jz<|Jb 'd'<|Jb 'e'<|Jb 'f'<|Jb (eC<|.bl Zg) Je)<|Jb (Jz<|Jb 'd'<|Jb 'e'<|Jb 'f' Je) Je)<|Jk<|Jc Jg 'h'<|Jc Ju 'a' '9'
theorem Jj6:Jbg (k+1) [x0,x1,x2] h=(Jh1 k [J x0,J x1,J x2,Zc,Zc,Zc,Zc,Zc] h).fin:=02
def Jei:S1:=Jk<|Ji (Jc6 k) []<|Jb 'c'<|Jb 'd' Je
def Jeh:S1:=Jf (sIf (Jj asB<|Jc cEq 'a' '2') (Jk<|Ji (Jga k) []<|Jb 'b'<|Jb 'd' Je) Jr)<|Jei k
def Jeg:S1:=Jf (sIf (Jj asB<|Jc cEq 'a' '1') (Jk<|Ji (Yg k) []<|Jb 'b'<|Jb 'd' Je) Jr)<|Jeh k
def Jef:S1:=Jf (sIf (Jj asB<|Jc cEq 'a' '0') (Jk<|Ji (X1 k) []<|Jb 'b'<|Jb 'd' Je) Jr)<|Jeg k
theorem Jfv:Xe (k+1) [x0,x1,x2,x3] h=(Jef k [J x0,J x1,J x2,J x3] h).fin:=02
def Jg2:S1:=Jf (Jh 4<|Jz<|Jb (eC<|.str "none")<|Jb '0'<|Jb (eC<|.bl Zg) Je)<|Jf (sTry (JA<|Ji (Xe k) []<|Jb 'a'<|Jb 'b'<|Jb 'c'<|Jb 'd' Je) [(Jhu,J 5,(Jh 4<|Jz<|Jb (eC<|.str "row")<|Jb (Yu (xfOf T "place") "place" 'f')<|Jb (eOr (eIsi (V0 Jfq) 'f') (eIsi (V0 Jbv) 'f') tru) Je)),(Jfq,J 5,(Jh 4<|Jz<|Jb (eC<|.str "many")<|Jb '0'<|Jb (eOr (eIsi (V0 Jhu) 'f') (eIsi (V0 Jbv) 'f') tru) Je))])<|Jf (sIf (Jj tru<|eIsi Ji7<|Jc Jg 'e' '1') (Jk<|Jz<|Jb (eC<|.str "truth")<|Jb '0'<|Jb (eC<|.bl Zg) Je) Jr)<|Jk 'e'
theorem Jid:Jb4 (k+1) [x0,x1,x2,x3] h=(Jg2 k [J x0,J x1,J x2,J x3,Zc,Zc] h).fin:=02
def Jco:S1:=Jf (Jh 4<|eC<|.bl Zi)<|Jf (sTry (JA<|Ji (Xe k) []<|Jb 'a'<|Jb 'b'<|Jb 'c'<|Jb 'd' Je) [(Jfz,J 5,(Jh 4<|eIsi (V0 Jky) 'f'))])<|Jk 'e'
theorem Jc0:Jag (k+1) [x0,x1,x2,x3] h=(Jco k [J x0,J x1,J x2,J x3,Zc,Zc] h).fin:=02
def Jem:S1:=Jf (Jh 2<|eC<|.bl Zi)<|Jf (sTry (JA<|Ji (Yj k) []<|Jb 'a'<|Jb 'b' Je) [(Jbv,J 3,(Jh 2<|eAnd (eIsi (V0 Jfz) 'd') (eAnd (eUn (VS tru)<|eIsi (V0 Jfq) 'd') (eUn (VS tru)<|eIsi (V0 Jhu) 'd') tru) tru))])<|Jk 'c'
theorem Jfk:Jah (k+1) [x0,x1] h=(Jem k [J x0,J x1,Zc,Zc] h).fin:=02
def Jg4(k:Nat):E1:=Ja 0
def Jep(k:Nat):T1:=Jj asB<|Jc cNe (Jc Jg 'a' '5')<|Jx Je
def Jjk:S1:=Jf (sIf (Jj asB<|Jc cNe (Ji (Jb4 k) []<|Jb 'j'<|Jb 'i'<|Jb 'h'<|Jb (eCB (on1 QD)<|Jb 'n' Je) Je) 'm') (Jk<|eC<|.bl Zi) Jr)<|Jf (sIf (JK<|Jj tru<|Ji (Jag k) []<|Jb 'j'<|Jb 'i'<|Jb 'h'<|Jb (eCB (on1 QD)<|Jb 'n' Je) Je) (Jk<|eC<|.bl Zi) Jr)<|Jf (Jh 15<|Ji (Xe k) []<|Jb 'j'<|Jb 'i'<|Jb 'h'<|Jb (eCB (on1 QD)<|Jb 'g' Je) Je)<|Jf (sIf (Jj asB<|Jc cEq 'j' '3') (Jk<|Jc cEq (Jc cIs 'p'<|eC .non)<|Jc cIs 'k'<|eC .non) Jr)<|Jk<|Jc cEq 'p' 'k'
def Jod:S1:=Jf (sIf (Jj asB<|Jc cEq (Jc Ju (Jc JG 'b'<|eC<|.int 24) '8') '3') (Jh 13<|Jc Qe (Jx<|Jb (Jc Jg (Jx<|Jb 'l'<|Jb (Ji (Jbg k) []<|Jb (Jc JG 'b'<|eC<|.int 192)<|Jb 'd'<|Jb 'l' Je) Je)<|Jc Ju 'b' '2') Je)<|eC<|.int 201)<|Jf (Jh 14<|Jc Ju (Jc JG 'b'<|eC<|.int 192)<|Jc Jm (eCB (on1 lenI)<|Jb 'g' Je) '1')<|Jf (Jh 13<|Jc Jm (eCB (on1 QD)<|Jb 'g' Je)<|Jc Qe (Jx<|Jb 'l' Je)<|eCB (on1 Jvk)<|Jb (Jc cEq 'o'<|eCB (on1 lenI)<|Jb 'g' Je) Je)<|Jf (sAsg (Ji (Jbg k) []<|Jb (Jc JG 'b'<|eC<|.int 2880)<|Jb 'd'<|Jb (Jc Jg 'n' 'o') Je)<|gSb 'n' 'o')<|Jh 12<|Jz<|Jb (eC<|.str "row")<|Jb 'o'<|Jb (eC<|.bl Zi) Je)<|Jjk k
def Jyv:S1:=Jf (Jh 1<|Ji (Vz k) []<|Jb 'a'<|Jb '7' Je)<|Jf (Jh 2<|Ji (Vz k) []<|Jb 'a'<|Jb '1' Je)<|Jf (Jh 3<|Ji (Je8 k) []<|Jb (Jc Jm (Jx<|Jb (Ji (Vz k) []<|Jb 'a'<|Jb '0' Je)<|Jb (Jc Jm (Jc Jm (Jc Qe '6' 'c') '1')<|Jc Ju 'c' '5') Je)<|eSl slI 'a' (Qu '2')<|Qu '7')<|Jb (Jc cEq (Jc Ju 'b' '2') '0') Je)<|Jf (Jh 4<|Jc cNe (J1 (Jv 'd') 1 [] (gNm 0) (Jep k)<|Jg4 k)<|Jx Je)<|Jf (sIf (tOrI (Jj asB<|Jc cNe (Ji (Jah k) []<|Jb '1'<|Jb 'd' Je) 'e')<|Jj asB<|Jc cNe (Ji (Jah k) []<|Jb '2'<|Jb 'd' Je) 'e') (Jk<|eC<|.bl Zi) Jr)<|Jf (Jh 5<|Jc Qe (Jc Ju (Jc JG 'b' '2') '3')<|eCB (on1 Jvk)<|Jb (eUn (VS tru) 'e') Je)<|Jf (Jh 6<|Ji (Jgq k) []<|Jb (eSl slI 'a' (Qu '8')<|Qu<|eC<|.int 22)<|Jb 'd' Je)<|Jf (Jh 7<|Ji (Xy k) []<|Jb 'd' Je)<|Jf (Jh 8<|Ji (Yj k) []<|Jb 'f'<|Jb 'd' Je)<|Jf (Jh 9<|Jc Ju (Jc JG 'b' '6') '4')<|Jf (Jh 10<|Ji (Xe k) []<|Jb 'j'<|Jb 'i'<|Jb 'h'<|Jb (eCB (on1 QD)<|Jb 'g' Je) Je)<|Jf (Jh 11<|Jz<|Jb '0'<|Jb '0'<|Jb '0'<|Jb '1' Je)<|Jf (Jh 12<|Jz<|Jb (eC<|.str "many")<|Jb '0'<|Jb (eC<|.bl Zi) Je)<|Jod k
theorem J2s:Yi (k+1) [x0] h=(Jyv k [J x0,Zc,Zc,Zc,Zc,Zc,Zc,Zc,Zc,Zc,Zc,Zc,Zc,Zc,Zc,Zc] h).fin:=02
end
theorem Jcz(k:Nat):JI (pg k) "held" 0 "Work"=J (Jdr k,[]):=02
theorem Jd1(k:Nat):JI (pg k) "next_ready" 0 "Bench"=J (Jak k,[]):=02
theorem Jg5(k:Nat):JI (pg k) "let_in" 0 "Bench"=J (Jbq k,[]):=02
theorem Jex(k:Nat):JI (pg k) "turns_for" 1 "Bench"=J (Jar k,[]):=02
theorem Jjy(k:Nat):JI (pg k) "tell" 2 "Bench"=J (Jcq k,[]):=02
theorem Jh4(k:Nat):JI (pg k) "go_on" 0 "Bench"=J (Jbx k,[]):=02
theorem Jcx(k:Nat):JI (pg k) "size" 0 "Duty"=J (Jdp k,[]):=02
theorem Jcy(k:Nat):JI (pg k) "work" 1 "Duty"=J (Jdq k,[]):=02
theorem Jfg(k:Nat):JI (pg k) "rank_of" 2 "ByRank"=J (Jay k,[]):=02
theorem Jg6(k:Nat):JI (pg k) "holds" 2 "ByRank"=J (Jbr k,[]):=02
theorem Jh6(k:Nat):JI (pg k) "pick" 3 "ByRank"=J (Xx k,[]):=02
theorem Jey(k:Nat):JI (pg k) "standing" 2 "ByRank"=J (Ye k,[]):=02
theorem Jf3(k:Nat):JI (pg k) "rank_of" 2 "ByDue"=J (Jbd k,[]):=02
theorem Jh5(k:Nat):JI (pg k) "holds" 2 "ByDue"=J (Ja0 k,[]):=02
theorem Jjz(k:Nat):JI (pg k) "pick" 3 "ByDue"=J (Xx k,[]):=02
theorem Jff(k:Nat):JI (pg k) "standing" 2 "ByDue"=J (Ye k,[]):=02
theorem Jd2(k:Nat):JI (pg k) "rank_of" 2 "ByComing"=J (Jam k,[]):=02
theorem Jfe(k:Nat):JI (pg k) "holds" 2 "ByComing"=J (Ja0 k,[]):=02
theorem Jf2(k:Nat):JI (pg k) "pick" 3 "ByComing"=J (Xx k,[]):=02
theorem Jdh(k:Nat):JI (pg k) "standing" 2 "ByComing"=J (Ye k,[]):=02
end LW
section
open PySem L2 L3 L4
namespace LW
open PySem L2 L3 L4
section
variable{k:Nat}{h:IH}
theorem J0:1000000<sizeLine:=01
theorem Xr(o o':IX):List.set (h++[o]) h.length o'=h++[o']:=03
theorem VV(o o':IX)(g:IH):List.set (h++o::g) h.length o'=h++o'::g:=03
end
section
seal L4.run
section
variable{α β:Type}{U:ISt}{h h1:IH}{N:ISt->IH->Prop}{R P:IV->IH->Prop}
theorem xb{f:α->IH->Res β}(x:WR r λa h=>WR (f a h) Q):WR (r.bind f) Q:=(J7 ..).mpr x
theorem xseq(x:WS (a U h) (λj h1=>WS (b j h1) N R) R):WS (Jf a b U h) N R:=(J50 ..).mpr x
theorem xfin{r:SRes}(x:WS r (λ_ h=>P .non h) P):WR r.fin P:=(J5m ..).mpr x
theorem xset(x:WR (e U h) λv h1=>N (U.set i<|J v) h1):WS (Jh i e U h) N R:=(J51 ..).mpr x
theorem xret(x:WR (e U h) R):WS (Jk e U h) N R:=(J17 ..).mpr x
theorem Qb{e:E1}(x:WR (e U h) λ_ h1=>N U h1):WS (JA e U h) N R:=(J15 ..).mpr x
theorem xif(x:WR (t U h) λc h1=>(c=Zg->WS (a U h1) N R)/\(c=Zi->WS (b U h1) N R)):WS (sIf t a b U h) N R:=(J71 ..).mpr x
theorem xeif(x:WR (t U h) λc h1=>(c=Zg->WR (a U h1) P)/\(c=Zi->WR (b U h1) P)):WR (eIf t a b U h) P:=(J70 ..).mpr x
theorem J54(x:WR (a U h) λc h1=>(c=Zg->WR (b U h1) Q)/\(c=Zi->Q Zi h1)):WR (QT a b U h) Q:=(J13 ..).mpr x
theorem xdec[Decidable p](x:p->a)(y:¬p->b):(decide p=Zg->a)/\(decide p=Zi->b):=05
theorem xnil(x:N U h):WS (Jr U h) N R:=x
theorem xok(x:Q a h):WR (.ok a h) Q:=x
theorem xtup(x:WR (a U h) λxs h1=>xs.length<=sizeLine/\P (.tup xs) h1):WR (Jz a U h) P:=(J5w ..).mpr x
theorem xlst(x:WR (a U h) λxs h1=>xs.length<=sizeLine/\P (.ref h1.length) (h1++[.lst xs])):WR (Jx a U h) P:=(J5t ..).mpr x
theorem xixl(g:h[i]?=J (.lst xs))(e:atI xs n=J x)(q:P x h):WR (Jg (.ref i) (.int n) h) P:=(J5p ..).mpr #[_,g,_,e,q]
theorem xixt(e:atI xs n=J x)(q:P x h):WR (Jg (.tup xs) (.int n) h) P:=(J5r ..).mpr #[_,e,q]
theorem J8c(g:h[i]?=J (.lst xs))(q:P (.int xs.length) h):WR (lenI (.ref i) h) P:=(J1w ..).mpr #[_,g,q]
theorem xmod(l:0<j)(q:P (.int<|i%j) h):WR (Ju (.int i) (.int j) h) P:=(J5u ..).mpr #[l,q]
theorem J8a(l:0<j/\j.natAbs.log2<9000)(q:P (.int<|i/j) h):WR (JG (.int i) (.int j) h) P:=(J1t ..).mpr #[l,q]
theorem xmul(l:Vc i j)(q:P (.int<|i*j) h):WR (Qe (.int i) (.int j) h) P:=(J5v ..).mpr #[l,q]
theorem fldE(j:o U h=.ok (.ref i) h1)(g:h1[i]?=J (.ins c fs))(l:fs.lookup f=J x):Jp f o U h=.ok x h1:=by refine Js ?_;rw[J5n,j];exact#[x,(V1 g).trans l,rfl,rfl]
theorem binE(k:a U h=.ok x h1)(j:b U h1=.ok y L):Jc f a b U h=f x y L:=by unfold Jc;rw[k];dsimp only[Res.bind];rw[j]
theorem arg1(j:a U h=.ok x h1):Jb a Je U h=.ok [x] h1:=by unfold Jb;rw[j];rfl
theorem arg2(k:a U h=.ok x h1)(j:b U h1=.ok y L):Jb a (Jb b Je) U h=.ok [x,y] L:=by unfold Jb;rw[k];dsimp only[Res.bind];rw[j];rfl
theorem cbE(j:a U h=.ok xs h1):eCB f a U h=f xs h1:=by unfold eCB;rw[j];rfl
theorem Jn(k:a U h=.ok xs h1)(j:f (xs++d) h1=.ok v L):Ji f d a U h=.ok v L:=by unfold Ji;rw[k];exact j
theorem tofE(j:a U h=.ok (.bl c) h1):Jj asB a U h=.ok c h1:=by unfold Jj;rw[j];rfl
theorem lenE(j:a U h=.ok (.ref i) h1)(g:h1[i]?=J (.lst xs)):eCB (on1 lenI) (Jb a Je) U h=.ok (.int xs.length) h1:=by rw[cbE<|arg1 j];exact Js<|J8c g #[rfl,rfl]
theorem ixlE(k:a U h=.ok (.ref i) h1)(j:b U h1=.ok (.int n) L)(g:L[i]?=J (.lst xs))(e:atI xs n=J x):Jc Jg a b U h=.ok x L:=by rw[binE k j];exact Js<|xixl g e #[rfl,rfl]
theorem ixtE(k:a U h=.ok (.tup xs) h1)(j:b U h1=.ok (.int n) L)(e:atI xs n=J x):Jc Jg a b U h=.ok x L:=by rw[binE k j];exact Js<|xixt e #[rfl,rfl]
theorem gtE(m:a U h=.ok (.int i) h1)(k:b U h1=.ok (.int j) L):Jj asB (Jc cGt a b) U h=.ok (decide (j<i)) L:=tofE<|binE m k
theorem leE(m:a U h=.ok (.int i) h1)(k:b U h1=.ok (.int j) L):Jj asB (Jc cLe a b) U h=.ok (decide (i<=j)) L:=tofE<|binE m k
theorem ltE(m:a U h=.ok (.int i) h1)(k:b U h1=.ok (.int j) L):Jj asB (Jc cLt a b) U h=.ok (decide (i<j)) L:=tofE<|binE m k
theorem geE(m:a U h=.ok (.int i) h1)(k:b U h1=.ok (.int j) L):Jj asB (Jc cGe a b) U h=.ok (decide (j<=i)) L:=tofE<|binE m k
theorem eqE(m:a U h=.ok (.int i) h1)(k:b U h1=.ok (.int j) L):Jj asB (Jc cEq a b) U h=.ok (decide (i=j)) L:=tofE<|binE m k
theorem addE(m:a U h=.ok (.int i) h1)(k:b U h1=.ok (.int j) L):Jc Jm a b U h=.ok (.int<|i+j) L:=binE m k
theorem subE(m:a U h=.ok (.int i) h1)(k:b U h1=.ok (.int j) L):Jc Qo a b U h=.ok (.int<|i-j) L:=binE m k
theorem arg3(k:a U h=.ok x h1)(j:b U h1=.ok y L)(m:c U L=.ok z h3):Jb a (Jb b<|Jb c Je) U h=.ok [x,y,z] h3:=by rw[show Jb a (Jb b<|Jb c Je) U h=(a U h).bind λx h1=>(Jb b (Jb c Je) U h1).bind λxs L=>.ok (x::xs) L from rfl,k];show(Jb b (Jb c Je) U h1).bind _=_;rw[arg2 j m];rfl
theorem arg4(j:a U h=.ok x h1)(m:b U h1=.ok y L)(k:c U L=.ok z h3)(B:d U h3=.ok u h4):Jb a (Jb b<|Jb c<|Jb d Je) U h=.ok [x,y,z,u] h4:=by rw[show Jb a (Jb b<|Jb c<|Jb d Je) U h=(a U h).bind λx h1=>(Jb b (Jb c<|Jb d Je) U h1).bind λxs L=>.ok (x::xs) L from rfl,j];show(Jb b (Jb c<|Jb d Je) U h1).bind _=_;rw[arg3 m k B];rfl
theorem modE(m:a U h=.ok (.int i) h1)(k:b U h1=.ok (.int j) L)(l:0<j):Jc Ju a b U h=.ok (.int<|i%j) L:=(binE m k).trans<|Js<|xmod l #[rfl,rfl]
theorem JY(m:a U h=.ok (.int i) h1)(k:b U h1=.ok (.int j) L)(l:0<j)(z:j.natAbs.log2<9000):Jc JG a b U h=.ok (.int<|i/j) L:=(binE m k).trans<|Js<|J8a #[l,z] #[rfl,rfl]
theorem mulE(m:a U h=.ok (.int i) h1)(k:b U h1=.ok (.int j) L)(l:Vc i j):Jc Qe a b U h=.ok (.int<|i*j) L:=(binE m k).trans<|Js<|xmul l #[rfl,rfl]
theorem lstE(j:a U h=.ok xs h1)(l:Zfn xs.length 1000=Zg):Jx a U h=.ok (.ref h1.length) (h1++[.lst xs]):=Js<|xlst<|Jd j #[ZM (ZcO l)<|ZM 01<|Zbn J0,rfl,rfl]
theorem tupE(j:a U h=.ok xs h1)(l:Zfn xs.length 1000=Zg):Jz a U h=.ok (.tup xs) h1:=Js<|xtup<|Jd j #[ZM (ZcO l)<|ZM 01<|Zbn J0,rfl,rfl]
theorem pkE(k:a U h=.ok xs h1)(l:Zfn xs.length 1000=Zg)(j:b U (h1++[.lst xs])=.ok (.int n) (h1++[.lst xs]))(e:atI xs n=J x):Jc Jg (Jx a) b U h=.ok x (h1++[.lst xs]):=ixlE (lstE k l) j grown e
theorem maxE(m:a U h=.ok (.int i) h1)(k:b U h1=.ok (.int j) L):eCB (on2 maxI) (Jb a<|Jb b Je) U h=.ok (.int (if j>i then j else i)) L:=cbE<|arg2 m k
theorem minE(m:a U h=.ok (.int i) h1)(k:b U h1=.ok (.int j) L):eCB (on2 minI) (Jb a<|Jb b Je) U h=.ok (.int (if j<i then j else i)) L:=cbE<|arg2 m k
theorem dotE{Pg:Pg}{m c:Str}{n i:Nat}{o:E1}{a:A1}{fs:Wm}{f:Tx->IH->Res IV}{d xs:Tx}{L h3:IH}{v:IV}(e:o U h=.ok (.ref i) h1)(hi:h1[i]?=J (.ins c fs))(j:fs.lookup m=Zc)(hd:JI Pg m n c=J (f,d))(ha:a U h1=.ok xs L)(hx:f (.ref i::(xs++d)) L=.ok v h3):Jq Pg m n o a U h=.ok v h3:=by refine Js<|(Jue e hi j hd).mpr<|Jd ha<|Jd hx #[rfl,rfl]
theorem xifd[Decidable p](e:t U h=.ok (decide p) h1)(x:p->WS (a U h1) N R)(y:¬p->WS (b U h1) N R):WS (sIf t a b U h) N R:=xif<|Jd e<|xdec x y
theorem xiff(e:t U h=.ok Zi h1)(x:WS (b U h1) N R):WS (sIf t a b U h) N R:=xif (Jd e #[(λz=>by cases z),λ_=>x])
theorem xift(e:t U h=.ok Zg h1)(x:WS (a U h1) N R):WS (sIf t a b U h) N R:=xif (Jd e #[λ_=>x,λz=>by cases z])
theorem xnx(e:r=.next W1 h1)(x:N W1 h1):WS r N R:=by rw[e];exact x
theorem xfor(x:WR (it U h) λcK h1=>WS (Qj cK.chk g b cK.xs U h1) N R):WS (sFor it g b U h) N R:=(Jyn ..).mpr x
theorem okc{α:Type}{r:Res α}{c d:α}(e:r=.ok c h)(q:c=d):r=.ok d h:=q▸e
theorem isiE(j:a U h=.ok v h1)(t:(tyI v h1).bind ans=J b):eIsi ans a U h=.ok (.bl b) h1:=Js<|(J5o ..).mpr<|Jd j #[b,t,rfl,rfl]
theorem notE(e:a U h=.ok c h1):JK a U h=.ok (!c) h1:=by unfold JK;rw[e];rfl
theorem truE(e:a U h=.ok (.bl c) h1):Jj tru a U h=.ok c h1:=by unfold Jj;rw[e];rfl
theorem orF(e:a U h=.ok Zi h1)(j:b U h1=r):tOrI a b U h=r:=by unfold tOrI;rw[e];exact j
theorem andT(e:a U h=.ok Zg h1)(j:b U h1=r):QT a b U h=r:=by unfold QT;rw[e];exact j
theorem andF(e:a U h=.ok Zi h1):QT a b U h=.ok Zi h1:=by unfold QT;rw[e];rfl
theorem Jy9(e:a U h=.ok (.bl Zg) h1)(j:b U h1=r):eAnd a b tru U h=r:=by unfold eAnd;rw[e];exact j
theorem ltT'(m:a U h=.ok (.int i) h1)(k:b U h1=.ok (.int j) L)(l:i<j):Jc cLt a b U h=.ok (.bl Zg) L:=(binE m k).trans (by show Res.ok (IV.bl<|decide (i<j)) L=_;rw[decide_eq_true l])
theorem chT(m:a U h=.ok (.int i) h1)(k:b U h1=.ok (.int j) L)(u:c U L=.ok (.int l) h3)(t1:i<=j)(t2:j<l):JJ cLe cLt a b c U h=.ok (.bl Zg) h3:=by unfold JJ;rw[m];dsimp only[Res.bind];rw[k];show(match IV.bl (decide (i<=j))with|.bl Zg=>_|.bl Zi=>_|_=>_)=_;rw[decide_eq_true t1];rw[u];show Res.ok (IV.bl<|decide (j<l)) h3=_;rw[decide_eq_true t2]
theorem xrng{e:E1}{g:G1}{b:S1}{n:Nat}(j:e U h=.ok (.int (n:Int)) h1)(l:n<1000000)(x:WS (Qj (λ_=>True) g b (rngI 0 (n:Int)) U h1) N R):WS (sFor (iRg QC<|Jb e Je) g b U h) N R:=by rw[Jyn,Xu];refine Jd (arg1 j) ?_;rw[Jkw];exact#[05,x]
theorem XH(j:a U h=.ok (.ref i) h1)(g:h1[i]?=J (.lst xs)):eCB (on1 QD) (Jb a Je) U h=.ok (.ref h1.length) (h1++[.lst xs]):=by rw[cbE<|arg1 j];exact Js<|(Jw8 ..).mpr #[_,g,rfl,rfl]
theorem QJ(ev:e U h=.ok v h1)(j:o U h1=.ok (.ref i) h1)(g:h1[i]?=J (.ins c fs))(l:fs.length<1000)(q:N U<|h1.set i<|.ins c<|putI f v fs):WS (JT f o e U h) N R:=by rw[YQ];exact Jd ev<|Jd j #[i,c,fs,rfl,g,l,q]
theorem J76(j:o U h=.ok (.ref i) h1)(g:h1[i]?=J (.ins c fs))(l:fs.lookup f=J (.int a))(k:e U h1=.ok (.int b) L)(g2:L[i]?=J (.ins c gs))(z:gs.length<1000)(q:N U<|L.set i<|.ins c<|putI f (.int<|a+b) gs):WS (XR .Add f o e U h) N R:=by unfold XR;rw[j];simp only[rS,g,l,k,L4.ipI,g2,z];exact q
theorem J77(E:o U h=.ok (.ref i) h1)(C:k U h1=.ok (.int n) L)(g:L[i]?=J (.lst xs))(B:atI xs n=J (.int a))(m:0<=n)(F:e U L=.ok (.int b) h3)(D:h3[i]?=J (.lst ys))(u:ixN ys.length n=J j)(q:N U<|h3.set i<|.lst<|ys.set j<|.int<|a+b):WS (XS .Add o k e U h) N R:=by unfold XS;rw[E];simp only[rS,C,ixL,g,B,m,if_true,F,L4.ipI,setI,D,u];exact q
theorem Qr{Pg:Pg}{m c:Str}{n i:Nat}{o:E1}{a:A1}{fs:Wm}{f:Tx->IH->Res IV}{d:Tx}(e:o U h=.ok (.ref i) h1)(hi:h1[i]?=J (.ins c fs))(j:fs.lookup m=Zc)(hd:JI Pg m n c=J (f,d))(x:WR (a U h1) λO L=>WR (f (.ref i::(O++d)) L) P):WR (Jq Pg m n o a U h) P:=(Jue e hi j hd).mpr x
theorem VC{Pg:Pg}{m:Str}{n i:Nat}{o:E1}{a:A1}{xs:Tx}{g:IV->Tx->IH->Res IV}(e:o U h=.ok (.ref i) h1)(j:h1[i]?=J (.lst xs))(k:bmOf "list" m n=J g)(x:WR (a U h1) λO L=>WR (g (.ref i) O L) P):WR (Jq Pg m n o a U h) P:=(J1r e j k).mpr x
theorem xapp(g:h[i]?=J (.lst xs))(l:xs.length<sizeLine)(q:P .non<|h.set i<|.lst<|xs++[y]):WR (Xh (.ref i) [y] h) P:=(Jud ..).mpr #[_,g,l,q]
theorem xpop(g:h[i]?=J (.lst xs))(l:xs[xs.length-1]?=J y)(q:P y<|h.set i<|.lst xs.dropLast):WR (XN (.ref i) [] h) P:=by
 have e:VO (.ref i) h=J (i,xs):=by unfold VO;simp only[g]
 unfold XN;rw[e];dsimp only;rw[l];exact q
theorem xrem{i j:Nat}{k:Int}{ns:Tq}(g:h[i]?=J (.lst<|ns.map .int))(l:ns.findIdx? (· ==k)=J j)(q:P .non<|h.set i<|.lst<|(ns.map IV.int).eraseIdx j):WR (XO (.ref i) [.int k] h) P:=by
 have e:VO (.ref i) h=J (i,ns.map .int):=by unfold VO;simp only[g]
 unfold XO;rw[e];dsimp only;rw[Vl];dsimp only;rw[l];exact q
theorem Jq9:bmOf "list" "pop" 0=J XN:=02
theorem Jra:bmOf "list" "remove" 1=J XO:=02
end
end
section
variable{k:Nat}{h:IH}
theorem Jm6(ns:Tq)(n:Int)(hn:0<=n):Vz (k+1) [.rol<|ns.map .int,.int n] h=.ok (.int<|ns.getD n.toNat 0) h:=Js (by
 rw[Jdo];refine xfin<|xseq<|xifd (ltE rfl ((cbE<|arg1 rfl).trans rfl)) (λq=>?_) λq=>xnil<|xret<|Jd rfl #[?_,rfl]
 .rw[Zj]at q;have l:n.toNat<ns.length:=05;exact xret (Jd ((binE rfl rfl).trans<|Js<|(J5q ..).mpr #[.int ns[n.toNat],Jjc hn 03,rfl,rfl]) #[by rw[Zx,Zd l];rfl,rfl])
 .rw[Zj]at q;rw[Zx,ZaC 05];rfl)
theorem Jju{ns:Tq}(g:h[C]?=J (.lst<|ns.map .int))(n:Int)(hn:0<=n):Vz (k+1) [.ref C,.int n] h=.ok (.int<|ns.getD n.toNat 0) h:=Js (by
 rw[Jdo];refine xfin<|xseq<|xifd (ltE rfl (lenE rfl g)) (λq=>?_) λq=>xnil<|xret<|Jd rfl #[?_,rfl]
 .rw[Zj]at q;have l:n.toNat<ns.length:=05;exact xret (Jd (ixlE rfl rfl g (Jjc hn<|by rw[Z4,Zd l];rfl)) #[by rw[Zx,Zd l];rfl,rfl])
 .rw[Zj]at q;rw[Zx,ZaC 05];rfl)
end
section
seal L4.run L4.WS
section
variable{k:Nat}{h:IH}
theorem chV{a b c:E1}{i j l:Int}{f:IV->IV->IH->Res IV}{q:Int->Int->Bool}(B:∀x y h,f (.int x) (.int y) h=.ok (.bl<|q x y) h)(m:a U h=.ok (.int i) h)(k:b U h=.ok (.int j) h)(u:c U h=.ok (.int l) h):JJ cLe f a b c U h=.ok (.bl<|decide (i<=j)&&q j l) h:=by unfold JJ;rw[m];dsimp only[Res.bind];rw[k];show(match IV.bl (decide (i<=j))with|.bl Zg=>_|.bl Zi=>_|_=>_)=_;cases decide (i<=j)with|false=>rfl|true=>rw[u];exact B _ _ _
theorem Jc2(i:Int):Yh (k+1) [.int i] h=.ok (.bl Zg) h:=by rw[Jhd];rfl
theorem Jde(i j:Int):Vy (k+2) [.int i,.int j] h=.ok (.bl<|decide (j<=i)) h:=by exact Js<|by rw[Jf5];exact xfin<|xret<|Jd (Jy9 (Jn (arg1 rfl)<|Jc2 i)<|(binE rfl rfl).trans rfl) #[rfl,rfl]
def IsNm(x:Str):Prop:=1<=x.length/\x.length<=8/\∀c∈x.cps.toList,97<=c/\c<=122
theorem J58:(ZW "a").cps.toList=[97]:=by decide +kernel
theorem J8d:(ZW "z").cps.toList=[122]:=by decide +kernel
theorem J04(m:97<=c/\c<=122):Ja2 k [J<|.str ⟨#[c]⟩] h=.ok (.bl Zg) h:=by
 refine Js ?_;have j:¬([c]<[97]):=λq=>by cases q with|rel q=>lia|cons q=>cases q
 have L:¬([122]<[c]):=λq=>by cases q with|rel q=>lia|cons q=>cases q
 simp only[Ja2,Jw5,VB,J6i,YN,J5s,J58,J8d,j,L,decide_false,Bool.not_false,true_implies,false_implies,and_true,true_and,Bool.true_eq_false,Zb0,IV.bl.injEq,exists_eq_left',implies_true]
theorem Jiy(hx:IsNm x):WR (Jd8 (k+1) [.str x] h) λv h'=>v=.bl Zg/\Ex h h':=by obtain⟨F,L,E⟩:=hx;have G:=J0;have u:x.length<=sizeLine:=05;have D:(1:Int)<=x.length:=05;have m:(x.length:Int)<=8:=05;have j:on1 lenI [IV.str x] h=.ok (.int x.length) h:=Js<|(J1x x).mpr #[u,rfl,rfl];rw[Jpy];refine xfin (xseq<|xiff (orF (notE<|truE<|isiE (b:=Zg) rfl rfl)<|okc (notE<|tofE<|chV (q:=λx y=>decide (x<=y)) (λ_ _ _=>rfl) rfl ((cbE<|arg1 rfl).trans j) rfl)<|by rw[decide_eq_true D,decide_eq_true m];rfl)<|xnil<|xret ?_);obtain⟨_,_,B,rfl,g,rfl⟩:=(Qh (it:=Jv 'a') (e:=Ja2 k) (js:=[]) (U:=[J<|.str x]) (h0:=h) (xs:=V7 x) (chk:=λ_=>True) (f:=λ_=>.bl Zg) (h:=h) #[rfl,rfl,rfl] (by rw[show(V7 x).length=x.length by simp[V7,ZeS]];lia) (λ_ _=>trivial) (by intro v hv L _;obtain⟨c,C,rfl⟩:=Z6.mp hv;exact Jd (J04<|E c C) #[rfl,.refl _])).eq;exact Jd ((cbE<|arg1 B).trans<|all_map (f:=λ_=>Zg) J6) #[by rw[ZaY.mpr λ_ _=>rfl],.cons ..]
abbrev Hd:=Str×Int×Int
abbrev _root_.Wk:=List<|List Hd
abbrev _root_.Ua:=List Hd
noncomputable def tupH (a:Hd):IV:=.tup [.str a.1,.int a.2.1,.int a.2.2]
def HdOk(len:Int)(a:Hd):Prop:=IsNm a.1/\0<=a.2.1/\a.2.1<a.2.2/\a.2.2<len
def Tog(a b:Hd):Prop:=a.2.2<=b.2.1\/b.2.2<=a.2.1\/(a.1≠b.1/\((b.2.1<=a.2.1/\a.2.2<=b.2.2)\/(a.2.1<=b.2.1/\b.2.2<=a.2.2)))
theorem Jp6(ha:HdOk len a):WR (Jgp (k+3) [tupH a,.int len] h) λv h'=>v=.bl Zg/\Ex h h':=by obtain⟨j,L,u,m⟩:=ha;obtain⟨_,h',e,rfl,x⟩:=(Jiy j).eq;rw[Jpx];exact xfin (xseq<|xiff (orF (notE<|truE<|isiE (b:=Zg) rfl rfl)<|orF (tofE<|(binE ((cbE<|arg1 rfl).trans rfl) rfl).trans rfl)<|notE<|truE<|Jn (arg1<|ixtE rfl rfl JV) e)<|xnil<|xseq<|xiff (okc (notE<|truE<|Jn (arg2 (ixtE rfl rfl JN) rfl)<|Jde a.2.1 0)<|by simp_all)<|xnil<|xret<|Jd (Jy9 (okc (Jn (arg2 (ixtE rfl rfl Qd)<|addE (ixtE rfl rfl JN) rfl)<|Jde a.2.2<|a.2.1+1)<|congrArg IV.bl<|decide_eq_true u)<|ltT' (ixtE rfl rfl Qd) rfl m) #[rfl,x])
theorem orV(k:a U h=.ok (.bl x) h)(j:b U h=.ok (.bl y) h):eOr a b tru U h=.ok (.bl<|x||y) h:=by
 unfold eOr;rw[k];cases x
 .exact j
 .rfl
theorem andV(k:a U h=.ok (.bl x) h)(j:b U h=.ok (.bl y) h):eAnd a b tru U h=.ok (.bl<|x&&y) h:=by
 unfold eAnd;rw[k];cases x
 .rfl
 .exact j
theorem Jl1(a b:Hd):Jdu (k+1) [tupH a,tupH b] h=.ok (.bl<|decide (a.2.2<=b.2.1)||decide (b.2.2<=a.2.1)) h:=Js (by rw[Jlt];exact xfin<|xret<|Jd (orV ((binE (ixtE rfl rfl Qd)<|ixtE rfl rfl JN).trans rfl)<|(binE (ixtE rfl rfl Qd)<|ixtE rfl rfl JN).trans rfl) #[rfl,rfl])
theorem Jiz(a b:Hd):Jd9 (k+1) [tupH a,tupH b] h=.ok (.bl<|decide (b.2.1<=a.2.1)&&decide (a.2.2<=b.2.2)) h:=Js (by rw[Jp0];exact xfin<|xret<|Jd (andV ((binE (ixtE rfl rfl JN)<|ixtE rfl rfl JN).trans rfl)<|(binE (ixtE rfl rfl Qd)<|ixtE rfl rfl Qd).trans rfl) #[rfl,rfl])
theorem Jif(t:Tog a b):Jb2 (k+2) [tupH a,tupH b] h=.ok (.bl Zg) h:=Js (by
 have A:=Jl1 (k:=k) (h:=h) a b;rw[Jic];cases q:(decide (a.2.2<=b.2.1)||decide (b.2.2<=a.2.1))with|true=>rw[q]at A;exact xfin<|xseq<|xift (truE<|Jn (arg2 rfl rfl) A)<|xret<|Jd rfl #[rfl,rfl]|false=>
  rw[q]at A;rw[Bool.or_eq_false_iff,decide_eq_false_iff_not,decide_eq_false_iff_not]at q;obtain⟨ne,t⟩:=(t.resolve_left q.1).resolve_left q.2;refine xfin<|xseq<|xiff (truE<|Jn (arg2 rfl rfl) A)<|xnil<|xseq<|xiff (okc (tofE<|(binE (ixtE rfl rfl JV)<|ixtE rfl rfl JV).trans rfl)<|decide_eq_false ne)<|xnil<|xret<|Jd (orV (Jn (arg2 rfl rfl)<|Jiz a b)<|Jn (arg2 rfl rfl)<|Jiz b a) #[congrArg IV.bl ?_,rfl];rcases t with t|t
  .rw[decide_eq_true t.1,decide_eq_true t.2];rfl
  .rw[decide_eq_true t.1,decide_eq_true t.2,Bool.or_comm];rfl)
theorem Jn3{hs:Ua}{i:Nat}(hi:h[i]?=J (.lst<|hs.map tupH))(G:hs.length<=6)(C:∀m n (hm:m<n)(hn:n<hs.length),Tog hs[n] hs[m]):
  WR (Jas (k+3) [.ref i] h) λv h'=>v=.bl Zg/\Ex h h':=by
 have H:=J0;rw[Je2];refine xfin<|xseq<|xfor ?_;rw[Xu];refine Jd (arg1 rfl)<|(Jn5 _).mpr #[_,hi,?_];refine Vb (λn U h'=>(∃a b,U=[J<|.ref i,a,b])/\Ex h h') (λn U h' ⟨_,x⟩=>x.get hi) ?_ ?_ #[#[_,_,rfl],.refl h]
 .rintro n hn _ h' ⟨⟨a,b,rfl⟩,x⟩;have u:n<hs.length:=by rw[VL,Zj]at hn;exact hn
  rw[Jrx,ZX];have D:eSl slI 'a' V5 (Qu 'b') [J<|.ref i,J<|.int n,J<|tupH hs[n]] h'=.ok (.ref h'.length) (h'++[.lst<|(hs.map tupH).take n]):=Js ((YO ..).mpr<|Jd rfl (Jd rfl (Jd rfl ((Jpo ..).mpr #[_,x.get hi,rfl,by rw[Jok]]))));obtain⟨_,_,F,rfl,g,rfl⟩:=(Qh (e:=Jax<|k+2) (js:=[2]) (f:=λ_=>.bl Zg)
   (by rw[JZ];exact Jd D<|(Qa _).mpr #[_,grown,rfl,rfl,rfl]) (by rw[ZaH,Zj];lia) (λL q=>q _ _ grown) (by intro v hv L q;obtain⟨j,E,rfl⟩:=Zab.mp hv;rw[ZaH,Zj]at E;have B:j<n:=05;rw[List.getElem_take,ZX];exact Jd (Jn (arg2 rfl rfl)<|Jif<|C j n B u) #[rfl,.refl _])).eq
  exact xnx rfl (xiff (okc (notE<|truE<|(cbE<|arg1 F).trans<|all_map J6)<|by simp_all)<|xnil #[#[_,_,rfl],x.trans<|(Ex.one _ _).trans<|.cons ..])
 .rintro _ h' ⟨⟨a,b,rfl⟩,x⟩;exact xret<|Jd rfl #[rfl,x]
structure HsOk(len:Int)(hs:Ua):Prop where
 few:hs.length<=6
 each:∀a∈hs,HdOk len a
 tog:∀m n (hm:m<n)(hn:n<hs.length),Tog hs[n] hs[m]
theorem Jl4{hs:Ua}(hi:h[i]?=J (.lst<|hs.map tupH))(ok:HsOk len hs):WR (Yl (k+4) [.ref i,.int len] h) λv h'=>v=.tup (hs.map tupH)/\Ex h h':=by have F:=J0;have C:=ok.few;obtain⟨_,_,m,rfl,g,rfl⟩:=(Qh (it:=Jv 'a') (e:=Jbe<|k+3) (js:=[1]) (U:=[J<|.ref i,J<|.int len]) (xs:=hs.map tupH) (f:=λ_=>.bl Zg) (by rw[JZ];exact Jd rfl ((Qa _).mpr #[_,hi,rfl,rfl,rfl])) (by rw[Zj];lia) (λL q=>q _ _ hi) (by intro v hv L q;obtain⟨a,ha,rfl⟩:=Z6.mp hv;unfold Jbe;exact xb<|Jd (arg2 rfl rfl)<|Jp6<|ok.each a ha)).eq;rw[Jlw];refine xfin (xseq<|xiff (tofE<|(binE rfl rfl).trans rfl)<|xnil<|xseq<|xiff (notE (c:=Zg)<|truE<|isiE rfl (by rw[Jyg hi];rfl))<|xnil<|xseq<|xiff (okc (gtE (lenE rfl hi) rfl)<|decide_eq_false<|by rw[Zj];lia)<|xnil<|xseq<|xiff (okc (notE<|truE<|(cbE<|arg1 m).trans<|all_map (f:=λ_=>Zg) J6)<|by simp_all)<|xnil ?_);have u:Ex h (h++IX.lst (List.map (λ_=>IV.bl Zg)<|hs.map tupH)::g):=.cons ..;obtain⟨_,L,D,rfl,B⟩:=(Jn3 (k:=k) (u.get hi) C ok.tog).eq;have j:=B.get<|u.get hi;obtain⟨_,_,m,rfl,E,rfl⟩:=(Qh (it:=Jv 'a') (e:=Jct<|k+3) (js:=[]) (U:=[J<|.ref i,J<|.int len]) (h:=L) (f:=λx=>x) (by rw[JZ];exact Jd rfl ((Qa _).mpr #[_,j,rfl,rfl,rfl])) (by rw[Zj];lia) (λL q=>q _ _ j) (by intro v hv G q;obtain⟨a,ha,rfl⟩:=Z6.mp hv;exact Jd (tupE (arg3 (ixtE rfl rfl JV) (ixtE rfl rfl JN)<|ixtE rfl rfl Qd) rfl) #[rfl,.refl _])).eq;rw[Zfg]at m;exact xseq<|xiff (notE<|truE<|Jn (arg1 rfl) D)<|xnil<|xret<|Jd ((cbE<|arg1 m).trans<|Js<|(Jul ..).mpr #[_,J6,rfl,rfl]) #[rfl,u.trans<|B.trans<|.cons ..]
theorem Jqd(h1:1<=due)(L:due<=gap):Yk (k+3) [.int due,.int gap] h=.ok (.int due) h:=Js (by rw[Jp1];exact xfin<|xseq<|xiff (tofE<|(binE rfl rfl).trans rfl)<|xnil<|xseq<|xiff (orF (okc (notE<|truE<|Jn (arg2 rfl rfl)<|Jde due 1) 05)<|okc (gtE rfl rfl)<|decide_eq_false 05)<|xnil<|xret<|Jd rfl #[rfl,rfl])
noncomputable def wfs (name:Str)(gap len due late:Int)(hs:Tx):Wm:=[("name",.str name),("gap",.int gap),("length",.int len),("due",.int due),("late",.int late),("hold_tuples",.tup hs)]
section
variable(a b c d e f:IV)
theorem put0:putI "name" a ([]:Wm)=([("name",a)]:Wm):=02
theorem put1:putI "gap" b ([("name",a)]:Wm)=([("name",a),("gap",b)]:Wm):=02
theorem put2:putI "length" c ([("name",a),("gap",b)]:Wm)=([("name",a),("gap",b),("length",c)]:Wm):=02
theorem put3:putI "due" d ([("name",a),("gap",b),("length",c)]:Wm)=([("name",a),("gap",b),("length",c),("due",d)]:Wm):=02
theorem put4:putI "late" e ([("name",a),("gap",b),("length",c),("due",d)]:Wm)=([("name",a),("gap",b),("length",c),("due",d),("late",e)]:Wm):=02
theorem put5:putI "hold_tuples" f ([("name",a),("gap",b),("length",c),("due",d),("late",e)]:Wm)=([("name",a),("gap",b),("length",c),("due",d),("late",e),("hold_tuples",f)]:Wm):=02
variable{name:Str}{gap len due late:Int}{hs:Tx}
theorem fl0:(wfs name gap len due late hs).lookup ("name":Str)=J (.str name):=02
theorem fl1:(wfs name gap len due late hs).lookup ("gap":Str)=J (.int gap):=02
theorem fl2:(wfs name gap len due late hs).lookup ("length":Str)=J (.int len):=02
theorem fl3:(wfs name gap len due late hs).lookup ("due":Str)=J (.int due):=02
theorem fl4:(wfs name gap len due late hs).lookup ("late":Str)=J (.int late):=02
theorem fl5:(wfs name gap len due late hs).lookup ("hold_tuples":Str)=J (.tup hs):=02
theorem flh:(wfs name gap len due late hs).lookup ("held":Str)=Zc:=02
end
theorem Jub{gap len due late:Int}{dv hv:IV}{hs:Tx}(F:h[w]?=J (.ins "Work" []))(hn:IsNm name)(O:1<=gap)(H:1<=len)(I:0<=late) (hd:∀h1,Yk (k+4) [dv,.int gap] h1=.ok (.int due) h1)(u:∀h1:IH,(∀(j:Nat)(o:IX),j≠w->h[j]?=J o->h1[j]?=J o)->WR (Yl (k+4) [hv,.int len] h1) λv L=>v=.tup hs/\Ex h1 L):WR (Jb0 (k+5) [.ref w,.str name,.int gap,.int len,dv,.int late,hv] h) λv h'=>v=.non/\∃g,h'=h.set w (.ins "Work"<|wfs name gap len due late hs)++g:=by
 rw[Jlq];refine xfin<|xseq<|xif<|xb<|xb<|xb<|Jd (arg1 rfl)<|WR.mono (Jiy hn) ?_;rintro v h1 ⟨rfl,g1,rfl⟩;have C:=JC F;have P:∀{o:IX},(h++g1).set w o=h.set w o++g1:=by intro o;rw[Za3 (h:=C)]
 have m:∀{o:IX},(h.set w o++g1)[w]?=J o:=by intro o;rw[Z8 (by simp_all),ZE C]
 have B:∀{o D:IX},(h.set w o++g1).set w D=h.set w D++g1:=by intro o D;rw[Za3 (h:=by rw[Zbg];exact C),Zet]
 have ok:∀{U:ISt}{G E:E1}{a b:Int}{u:IH},G U u=.ok (.int a) u->E U u=.ok (.int b) u->b<=a->JK (Jj tru<|Ji (Vy<|k+4) []<|Jb G<|Jb E Je) U u=.ok Zi u:=λh1 L l=>okc (notE<|truE<|Jn (arg2 h1 L)<|Jde _ _)<|by rw[decide_eq_true l];rfl
 refine Jd rfl (Jd rfl #[(λz=>by cases z),λ_=>xnil<|xseq<|xiff (ok rfl rfl O)<|xnil<|xseq<|xiff (ok rfl rfl H)<|xnil<|xseq<|xiff (ok rfl rfl I)<|xnil<|xseq<|QJ rfl rfl (grow F) 01 ?_]);rw[P,put0];refine xseq (QJ rfl rfl m (by simp_all) ?_);rw[B,put1];refine xseq (QJ rfl rfl m (by simp_all) ?_);rw[B,put2];refine xseq (QJ (Jn (arg2 rfl rfl)<|hd _) rfl m (by simp_all) ?_);rw[B,put3];refine xseq (QJ rfl rfl m (by simp_all) ?_);rw[B,put4];unfold Jee;rw[YQ];refine xb<|Jd (arg2 rfl rfl)<|WR.mono (u _ λj o M e=>?_) ?_
 .refine grow ?_;rw[ZC<|ZP M];exact e
 .rintro v L ⟨rfl,g2,rfl⟩;refine Jd rfl #[w,_,_,rfl,grow m,by show(5:Nat)<1000;decide,rfl,g1++g2,?_];rw[Za3 (h:=JC m),B,put5,Zaa];rfl
theorem J0a{gap len due late:Int}{dv hv:IV}{hs:Tx}(hn:IsNm name)(C:1<=gap)(m:1<=len)(B:0<=late) (hd:∀h1,Yk (k+4) [dv,.int gap] h1=.ok (.int due) h1)(u:∀h1:IH,(∀(j:Nat)(o:IX),h[j]?=J o->h1[j]?=J o)->WR (Yl (k+4) [hv,.int len] h1) λv L=>v=.tup hs/\Ex h1 L):WR (Jb0 (k+5) [.ref h.length,.str name,.int gap,.int len,dv,.int late,hv]<|h++[.ins "Work" []]) λv h'=>v=.non/\∃g,h'=h++.ins "Work" (wfs name gap len due late hs)::g:=by refine WR.mono (Jub grown hn C m B hd λh1 q=>u h1 λj o e=>q j o (by have:=JC e;lia)<|grow e) ?_;rintro v h' ⟨rfl,g,rfl⟩;exact#[rfl,g,by rw[Xr];simp]
end
end
section
seal L4.run L4.WS
section
variable{k:Nat}{h:IH}
theorem Jht(j:h[w]?=J (.ins "Work"<|wfs name gap len due late hs)):Jdr (k+1) [.ref w] h=.ok (.ref h.length) (h++[.lst hs]):=by exact Js<|by rw[Jlp];exact xfin<|xret<|Jd ((cbE<|arg1<|fldE rfl j fl5).trans rfl) #[rfl,rfl]
end
end
structure WD where
 name:Str
 gap:Int
 len:Int
 due:Int
 late:Int
def IsW(h:IH)(v:IV)(d:WD):Prop:=∃i hs,v=.ref i/\h[i]?=J (.ins "Work"<|wfs d.name d.gap d.len d.due d.late hs)
theorem IsW.kp(k:Kp h h')(w:IsW h v d):IsW h' v d:=by obtain⟨i,j,e,q⟩:=w;exact#[i,j,e,k _ _ q]
structure AllW(h:IH)(O:Tx)(ds:List WD):Prop where
 len:O.length=ds.length
 at_:∀(i:Nat) v d,O[i]?=J v->ds[i]?=J d->IsW h v d
theorem AllW.kp(k:Kp h h')(w:AllW h O ds):AllW h' O ds:=#[w.len,λi v d a b=>(w.at_ i v d a b).kp k]
theorem AllW.of(w:AllW h O ds)(hv:v∈O):∃d∈ds,IsW h v d:=by
 obtain⟨i,k,rfl⟩:=Zab.mp hv;have j:i<ds.length:=by rw[<-w.len];exact k
 exact#[ds[i],Z5 j,w.at_ i _ _ (Zd k)<|Zd j]
def fOf(f:Str)(h:IH)(v:IV):IV:=(VM f v h).getD .non
theorem AllW.mapF(w:AllW h O ds){F:IV->IV}{g:WD->IV}(u:∀(i:Nat) (d:WD) hs,h[i]?=J (.ins "Work"<|wfs d.name d.gap d.len d.due d.late hs)->F (.ref i)=g d):O.map F=ds.map g:=by
 refine Zbs λi=>?_
 rw[Z4,Z4];by_cases m:i<O.length
 .have k:i<ds.length:=by rw[<-w.len];exact m
  rw[Zd m,Zd k];obtain⟨j,hs,e,q⟩:=w.at_ i _ _ (Zd m)<|Zd k;simp;rw[e,u j _ hs q]
 .have k:¬i<ds.length:=by rw[<-w.len];exact m
  rw[ZaC 05,ZaC 05];rfl
section
variable{k:Nat}{h:IH}
theorem Jwa:Jxf ["Work"] (.ins "Work")=J Zg:=02
theorem Jl5{O:Tx}{ds:List WD}{i:Nat}(hi:h[i]?=J (.lst O))(w:AllW h O ds)(nd:(ds.map (·.name)).Nodup)(I:ds.length<=20):WR (Jdw (k+1) [.ref i] h) λv h'=>v=.tup O/\Ex h h':=by have M:=J0;have H:=w.len;rw[Jlx];obtain⟨_,_,u,rfl,g,rfl⟩:=(Qh (it:=Jv 'a') (e:=Jcu k) (js:=[]) (U:=[J<|.ref i]) (h:=h) (f:=λ_=>.bl Zg) (by rw[JZ];exact Jd rfl ((Qa _).mpr #[_,hi,rfl,rfl,rfl])) 05 (λL q=>q _ _ hi) (by intro v hv L q;obtain⟨d,_,j,F,rfl,e⟩:=w.of hv;exact Jd (isiE rfl (by rw[show tyI (.ref j) L=J (.ins "Work") by simp[tyI,q _ _ e]];exact Jwa)) #[rfl,.refl _])).eq;refine xfin (xseq<|xiff (notE (c:=Zg)<|truE<|isiE rfl (by rw[Jyg hi];rfl))<|xnil<|xseq<|xiff (okc (notE<|truE<|(cbE<|arg1 u).trans<|all_map (f:=λ_=>Zg) J6) 03)<|xnil<|xseq ?_);have C:Ex h (h++IX.lst (O.map λ_=>.bl Zg)::g):=.cons _ _ _;generalize h++IX.lst (O.map λ_=>.bl Zg)::g=B at C;have E:=w.kp C.kp;have m:=C.get hi;obtain⟨_,_,u,rfl,g2,rfl⟩:=(Qh (it:=Jv 'a') (e:=Jcv k) (js:=[]) (U:=[J<|.ref i]) (h:=B) (xs:=O) (f:=fOf "name" B) (by rw[JZ];exact Jd rfl ((Qa _).mpr #[_,m,rfl,rfl,rfl])) 05 (λL q=>q _ _ m) (by intro v hv L q;obtain⟨d,_,j,F,rfl,e⟩:=E.of hv;exact Jd (fldE rfl (q _ _ e) fl0) #[by rw[fOf,V1 e,fl0];rfl,.refl _])).eq;rw[E.mapF (g:=λd=>.str d.name) λj d F e=>by rw[fOf,V1 e,fl0];rfl,show ds.map (λd=>IV.str d.name)=(ds.map (·.name)).map IV.str by rw[Zah];rfl]at u;have D:Ex B (B++IX.lst ((ds.map (·.name)).map IV.str)::g2):=.cons _ _ _;have G:=Js (by rw[Jui];refine Jd (arg1 u) #[_,rfl,_,J6,ds.map (·.name),Jks _,by rw[Zj];unfold Zbr;lia,?_];rw[Jld nd _<|Zq _,Zj];exact#[rfl,rfl]);refine xiff (okc (tofE<|(binE G<|lenE rfl (D.get m)).trans rfl)<|by rw[H];simp)<|xnil<|xret<|Jd ((cbE<|arg1 rfl).trans<|Js ?_) #[rfl,C.trans D];show WR (VZ (.ref i) _) _;rw[Jul];exact#[_,D.get m,rfl,rfl]
noncomputable def rup (top bottom:Int):Int:=(top+bottom-1)/bottom
def topD(ds:List WD):Int:=if ds.map (·.due)=[]then 0 else JX (λi=>(ds.map (·.due)).getD i 0) (ds.map (·.due)).length
def Joi(ds:List WD):Int:=(ds.map λd=>rup (topD ds+d.late) d.gap).sum
def rOf(T:Int)(h:IH)(v:IV):IV:=match VM "late" v h,VM "gap" v h with|some (.int l),J (.int g)=>.int<|rup (T+l) g|_,_=>.non
section
seal L4.run L4.WS
theorem Jtl(m:0<b)(j:b.natAbs.log2<9000):Jdx (k+1) [.int a,.int b] h=.ok (.int<|rup a b) h:=Js (by rw[Jly];exact xfin<|xret<|Jd (JY (subE (addE rfl rfl) rfl) rfl m j) #[rfl,rfl])
theorem Juv(w:AllW h O ds)(I:ds.length<=20)(G:∀d∈ds,0<d.gap/\d.gap.natAbs.log2<9000):WR (Je7 (k+2) [.tup O] h) λv h'=>v=.int (Joi ds)/\Ex h h':=by have M:=J0;have P:=w.len;obtain⟨_,_,m,rfl,g,rfl⟩:=(Qh (it:=Jv 'a') (e:=Jbs<|k+1) (js:=[]) (U:=[J<|.tup O,Zc]) (h0:=h) (h:=h) (xs:=O) (chk:=λ_=>True) (f:=fOf "due" h) #[rfl,rfl,rfl] 05 (λ_ _=>trivial) (by intro v hv L q;obtain⟨d,_,j,B,rfl,e⟩:=w.of hv;exact Jd (fldE rfl (q _ _ e) fl3) #[by rw[fOf,V1 e,fl3];rfl,.refl _])).eq;rw[w.mapF (F:=fOf "due" h) (g:=λd=>.int d.due) λj d B e=>by rw[fOf,V1 e,fl3];rfl,show ds.map (λd=>IV.int d.due)=(ds.map (·.due)).map IV.int by rw[Zah];rfl]at m;have C:Ex h (h++IX.lst ((ds.map (·.due)).map IV.int)::g):=.cons _ _ _;have H:X9 (Jb (J1 (Jv 'a') 1 [] (gNm 0) JF<|Jbs<|k+1) Je) '0' [J<|.tup O,Zc] h=.ok (.int<|topD ds) (h++IX.lst ((ds.map (·.due)).map IV.int)::g):=Js (by rw[J1y];refine Jd (arg1 m)<|Jd rfl #[_,rfl,_,J6,_,Vl _,?_,rfl];unfold maxD topD;split<;>rfl);generalize h++IX.lst ((ds.map (·.due)).map IV.int)::g=u at C H;clear m;have E:=w.kp C.kp;obtain⟨_,_,m,rfl,g2,rfl⟩:=(Qh (it:=Jv 'a') (e:=Jdl<|k+1) (js:=[1]) (U:=[J<|.tup O,J<|.int<|topD ds]) (h0:=u) (h:=u) (xs:=O) (chk:=λ_=>True) (f:=rOf (topD ds) u) #[rfl,rfl,rfl] 05 (λ_ _=>trivial) (by intro v hv L q;obtain⟨d,hd,j,B,rfl,e⟩:=E.of hv;have D:=q _ _ e;exact Jd (Jn (arg2 (addE rfl (fldE rfl D fl4))<|fldE rfl D fl1)<|Jtl (G d hd).1 (G d hd).2) #[by rw[rOf,V1 e,V1 e,fl4,fl1],.refl _])).eq;rw[E.mapF (F:=rOf (topD ds) u) (g:=λd=>.int<|rup (topD ds+d.late) d.gap) λj d B e=>by rw[rOf,V1 e,V1 e,fl4,fl1],show ds.map (λd=>IV.int<|rup (topD ds+d.late) d.gap)=(ds.map λd=>rup (topD ds+d.late) d.gap).map IV.int by rw[Zah];rfl]at m;rw[Jnf];refine xfin<|xseq<|xset<|Jd H<|xret ?_;rw[J5l];refine Jd (arg1 m) ?_;show WR (sumI (.ref _) _) _;rw[J12];exact#[_,J6,_,Vl _,rfl,C.trans<|.cons _ _ _]
abbrev dfs(O:Tx):Wm:=[("works",.tup O)]
theorem dp0:putI "works" a ([]:Wm)=([("works",a)]:Wm):=02
theorem dl0:(([("works",a)]:Wm)).lookup ("works":Str)=J a:=02
theorem dlw:(([("works",a)]:Wm)).lookup ("work":Str)=Zc:=02
theorem Jrq{O:Tx}{ds:List WD}{i:Nat}(hi:h[i]?=J (.lst O))(w:AllW h O ds)(nd:(ds.map (·.name)).Nodup)(B:ds.length<=12)(m:∀d∈ds,0<d.gap/\d.gap.natAbs.log2<9000)(C:Joi ds<=80):WR (Jbz (k+3) [.ref h.length,.ref i]<|h++[.ins "Duty" []]) λv h'=>v=.non/\∃g,h'=h++.ins "Duty" (dfs O)::g:=by have D:=w.len;rw[Jlm];obtain⟨_,_,u,rfl,g1,rfl⟩:=(Jl5 (k:=k+1) (grow hi) (w.kp (Ex.one h<|IX.ins "Duty" []).kp) nd 05).eq;refine xfin<|xseq<|QJ (Jn (arg1 rfl) u) rfl (grow grown) 01 ?_;rw[dp0,Zaa,Zac,Zav,VV];obtain⟨_,_,j,rfl,g2,rfl⟩:=(Juv (k:=k) (w.kp (Ex.cons h (IX.ins "Duty"<|dfs O) g1).kp) 05 m).eq;exact xseq<|xiff (okc (gtE ((cbE<|arg1<|fldE rfl J6 dl0).trans rfl) rfl)<|decide_eq_false 05)<|xnil<|xiff (okc (gtE (Jn (arg1<|fldE rfl J6 dl0) j) rfl)<|decide_eq_false 05)<|xnil #[rfl,g1++g2,03]
theorem Jg8(j:h[D]?=J (.ins "Duty"<|dfs O))(hx:atI O n=J x):Jdq (k+1) [.ref D,.int n] h=.ok x h:=by exact Js<|by rw[Jlo];exact xfin<|xret<|Jd (ixtE (fldE rfl j dl0) rfl hx) #[rfl,rfl]
end
end
theorem J4q(j:0<b)(h:a<=m*b):rup a b<=m:=by
 unfold rup;have:(a+b-1)/b<m+1:=by rw[Int.ediv_lt_iff_lt_mul j,Int.add_mul];lia
 lia
theorem Jx8(m:Int):∀l:Tq,(∀x∈l,x<=m)->l.sum<=l.length*m
 |[],_=>03
 |x::l,q=>by
  have:=Jx8 m l λy j=>q y<|Zr _ j
  have:=q x<|ZB ..;simp;lia
theorem Jkb{a b K:Nat}(h:a<=b)(k:b.log2<K):a.log2<K:=by
 by_cases ha:a=0
 .subst ha;exact Zd2 (ZN _) k
 .have j:b≠0:=05;rw[Nat.log2_lt ha];exact Zd2 h<|(Nat.log2_lt j).mp k
abbrev RH:=WD×Ua
abbrev _root_.Ub:=List RH
noncomputable def rd:RH:=#[#[⟨#[]⟩,0,0,0,0],[]]
abbrev wo(r:RH):IX:=.ins "Work"<|wfs r.1.name r.1.gap r.1.len r.1.due r.1.late<|r.2.map tupH
structure AllH(h:IH)(O:Tx)(rs:Ub):Prop where
 len:O.length=rs.length
 at_:∀(i:Nat) v r,O[i]?=J v->rs[i]?=J r->∃j,v=.ref j/\h[j]?=J (wo r)
theorem AllH.kp(k:Kp h h')(w:AllH h O rs):AllH h' O rs:=#[w.len,λi v r a b=>let ⟨j,e,g⟩:=w.at_ i v r a b;#[j,e,k _ _ g]]
theorem AllH.w{h:IH}{O:Tx}{rs:Ub}(w:AllH h O rs):AllW h O (rs.map (·.1)):=by refine#[by rw[Zj];exact w.len,λi v d a b=>?_];rw[Z4]at b;cases k:rs[i]? with|none=>rw[k]at b;cases b|some r=>rw[k]at b;cases b;obtain⟨j,e,g⟩:=w.at_ i v r a k;exact#[j,_,e,g]
theorem AllH.get(w:AllH h O rs){n:Nat}(e:rs[n]?=J r):∃j,O[n]?=J (.ref j)/\h[j]?=J (wo r):=by
 have hn:n<O.length:=by rw[w.len];exact(Zo.mp e).1
 obtain⟨j,k,g⟩:=w.at_ n _ r (Zd hn) e;exact#[j,by rw[Zd hn,k],g]
structure F8(unit:Int)(r:RH):Prop where
 nm:IsNm r.1.name
 g1:unit<=r.1.gap
 g2:r.1.gap<9*unit
 l1:1<=r.1.len
 d1:1<=r.1.due
 d2:r.1.due<=r.1.gap
 t1:0<=r.1.late
 t2:r.1.late<2*r.1.gap
 ok:HsOk r.1.len r.2
structure Gd(unit:Int)(rs:Ub):Prop where
 u1:1<=unit
 u2:unit<=10^40
 few:rs.length<=7
 f:∀r∈rs,F8 unit r
 nd:(rs.map λr=>r.1.name).Nodup
theorem J2i{k:Int}{rs:Ub}(G:Gd k rs):Joi (rs.map (·.1))<=80:=by
 have I:=G.u1;have B:=G.f;have F:=G.few;have H:topD (rs.map (·.1))<=9*k:=by
  unfold topD;split
  .lia
  .rename_i m;refine Jyb _ _ _ (by rw[Zj,Zj];cases rs with|nil=>exact absurd rfl m|cons _ _=>simp) λj u=>?_
   rw[Zj,Zj]at u;have e:((rs.map (·.1)).map (·.due)).getD j 0=(rs[j]).1.due:=by rw[Zx,Z4,Z4,Zd u];rfl
   have f:=B _<|Z5 u;have C:=f.d2;have E:=f.g2;rw[e];lia
 have:=Jx8 11 ((rs.map (·.1)).map λd=>rup (topD (rs.map (·.1))+d.late) d.gap) λx hx=>by obtain⟨d,hd,rfl⟩:=Z6.mp hx;obtain⟨r,D,rfl⟩:=Z6.mp hd;have f:=B r D;have C:=f.g1;have E:=f.t2;exact J4q 05 05
 rw[Zj,Zj]at this;unfold Joi;lia
theorem Gd.gl{j:Int}{rs:Ub}(G:Gd j rs):∀d∈rs.map (·.1),0<d.gap/\d.gap.natAbs.log2<9000:=λd hd=>by
 obtain⟨r,k,rfl⟩:=Z6.mp hd;have f:=G.f r k;have m:=f.g1;have u:=f.g2;have u1:=G.u1;have u2:=G.u2;refine#[05,Jkb (b:=9*10^40) ?_<|by decide +kernel];have e:((10^40:Nat):Int)=10^40:=by decide +kernel
 lia
def IsDu(h:IH)(D:Nat)(rs:Ub):Prop:=∃O,h[D]?=J (.ins "Duty"<|dfs O)/\AllH h O rs
theorem IsDu.kp(k:Kp h h')(w:IsDu h D rs):IsDu h' D rs:=let ⟨O,a,b⟩:=w;#[O,k _ _ a,b.kp k]
section
variable{k:Nat}{h:IH}
theorem J6h(hi:h[i]?=J (.lst O))(w:AllH h O rs)(G:Gd unit rs):WR (Jbz (k+3) [.ref h.length,.ref i]<|h++[.ins "Duty" []]) λv h'=>v=.non/\Ex h h'/\IsDu h' h.length rs:=by have j:=G.few;refine WR.mono (Jrq hi w.w (by have:=G.nd;rwa [Zah]) (by rw[Zj];lia) G.gl<|J2i G) ?_;rintro _ _ ⟨rfl,g,rfl⟩;exact#[rfl,.cons _ _ _,O,J6,w.kp (Ex.cons _ _ _).kp]
end
section
seal L4.run L4.WS
section
variable{k:Nat}{h:IH}
theorem e45(U:ISt)(h:IH):Jc JM (eC<|.int 10) (eC<|.int 45) U h=.ok (.int<|10^45) h:=Js (by rw[YL,VB,VB,Jpn];exact#[01,rfl,rfl])
theorem e30(U:ISt)(h:IH):Jc JM (eC<|.int 10) (eC<|.int 30) U h=.ok (.int<|10^30) h:=Js (by rw[YL,VB,VB,Jpn];exact#[01,rfl,rfl])
theorem e18(U:ISt)(h:IH):Jc Jm (Jc JM (eC<|.int 10)<|eC<|.int 18) '9' U h=.ok (.int 1000000000000000009) h:=Js (by rw[YL,YL,VB,VB,Jpn];refine#[01,?_];exact#[congrArg IV.int (by decide +kernel),rfl])
theorem Jmq(c:Int)(m:Nat)(hm:m<=40):WR (Jbh (k+1) [.int c,.int m] h) λv h'=>∃(i:Nat)(xs:Tq),v=.ref i/\h.length<=i/\h'[i]?=J (.lst<|xs.map .int)/\xs.length=m/\(∀x∈xs,(0:Int)<=x/\x<10^45)/\Ex h h':=by
 have S:=J0;have D:(0:Int)<10^45:=by decide +kernel
 have le:(1000000000000000009:Int)<=10^45:=by decide +kernel
 obtain⟨T,Q⟩:∃T:Int,∀U h,Jc JM (eC<|.int 10) (eC<|.int 30) U h=.ok (.int T) h:=#[_,e30];obtain⟨G,O,V⟩:∃G:Int,(∀U h,Jc Jm (Jc JM (eC<|.int 10)<|eC<|.int 18) '9' U h=.ok (.int G) h)/\G=1000000000000000009:=#[_,e18,rfl];obtain⟨F,M,L,R,P⟩:∃F:Int,(∀U h,Jc JM (eC<|.int 10) (eC<|.int 45) U h=.ok (.int F) h)/\0<F/\F.natAbs.log2<9000/\F=10^45:=#[_,e45,D,by decide +kernel,rfl];rw[<-P]at le ⊢;clear P D;rw[Jj7];refine xfin<|xseq<|xset<|Jd (lstE rfl rfl)<|xseq<|xifd (geE rfl (Q _ _)) (λ_=>xseq<|xset<|Jd (subE rfl (Q _ _))<|xseq<|xrng rfl 05 ?_) λ_=>xnil<|xseq<|xset<|Jd (addE (modE rfl (O _ _) 05) rfl)<|xseq<|xrng (n:=m+2) (okc (addE rfl rfl) rfl) 05 ?_
 .refine Vb (λn U h'=>∃xs B a b,h'=h++[.lst<|xs.map IV.int]/\U=[J<|.int c,J<|.int (m:Int),J<|.ref h.length,J<|.int B,a,b]/\xs.length=n/\∀x∈xs,(0:Int)<=x/\x<F) (λ_ _ _ _=>trivial) ?_ ?_ #[[],_,_,_,rfl,rfl,rfl,03]
  .rintro n hn _ _ ⟨xs,B,a,b,rfl,rfl,C,hx⟩;rw[Qp]at hn;have I:=ZQ B (b:=F) 05;have H:=ZG B L;refine xnx rfl (xseq<|Qb<|VC rfl grown X5 (Jd (arg1<|modE rfl (M _ _) L)<|xapp grown (by rw[Zj];lia)<|xset<|Jd (JY rfl (M _ _) L R) #[xs++[B%F],_,_,_,?_,rfl,by simp[C],λx u=>?_]))
   .rw[Xr];simp
   .rw[ZZ,Z2]at u;rcases u with u|rfl
    .exact hx x u
    .exact#[I,H]
  .rintro _ _ ⟨xs,B,a,b,rfl,rfl,C,hx⟩;rw[Qp]at C;exact xret<|Jd rfl #[_,xs,rfl,Zq _,grown,05,hx,.one _ _]
 .have s0:=ZQ c (b:=G) 05;have W:=ZG c (b:=G) 05;refine Vb (λn U h'=>∃xs j a b,h'=h++[.lst<|xs.map IV.int]/\U=[J<|.int c,J<|.int (m:Int),J<|.ref h.length,a,b,J<|.int j]/\(0<=j/\j<2000000000000000000)/\xs.length=n/\∀x∈xs,(0:Int)<=x/\x<G) (λ_ _ _ _=>trivial) ?_ ?_ #[[],_,_,_,rfl,rfl,05,rfl,03]
  .rintro n hn _ _ ⟨xs,j,a,b,rfl,rfl,E,C,hx⟩;rw[V6];rw[Qp]at hn;have I:=ZQ (j*j+48271*j+(0+(n:Int))) (b:=G) 05;have H:=ZG (j*j+48271*j+(0+(n:Int))) (b:=G) 05;refine xnx rfl (xseq<|xset<|Jd (modE (addE (addE (mulE rfl rfl (.inl 05))<|mulE rfl rfl (.inl 01)) rfl) (O _ _) 05)<|Qb<|VC rfl grown X5 (Jd (arg1 rfl)<|xapp grown (by rw[Zj];lia) #[xs++[(j*j+48271*j+(0+(n:Int)))%G],_,_,_,?_,rfl,05,by simp[C],λx u=>?_]))
   .rw[Xr];simp
   .rw[ZZ,Z2]at u;rcases u with u|rfl
    .exact hx x u
    .exact#[I,H]
  .rintro _ _ ⟨xs,j,a,b,rfl,rfl,E,C,hx⟩;rw[Qp]at C;refine xret<|(YO ..).mpr<|Jd rfl (Jd rfl (Jd rfl ((Jpo ..).mpr #[_,grown,?_])));rw[show(J (2:Int))=J ((2:Nat):Int)from rfl,Joj,<-ZeP];refine#[_,xs.drop 2,rfl,03,grown,by simp;lia,λx u=>?_,(Ex.one _ _).trans<|.one _ _];have:=hx x<|List.mem_of_mem_drop u;lia
end
end
section
variable{k:Nat}{h:IH}
mutual
theorem Jj0:∀d:Zco,d.canLay0=Zg->Zbz d d=Zg|.none,_=>by simp[Zbz]|.bool _,_=>by simp[Zbz]|.int _,_=>by simp[Zbz]|.str _,_=>by simp[Zbz]|.list xs,q=>by rw[Zbz];exact Jg9 xs<|by rw[ZH]at q;exact q|.tuple xs,q=>by rw[Zbz];exact Jg9 xs<|by rw[ZH]at q;exact q|.dict _,q=>by rw[ZH]at q;cases q
theorem Jg9:∀ds:List Zco,ZJ ds=Zg->Zbv ds ds=Zg|[],_=>by rw[Zbv]|d::ds,q=>by rw[ZJ,Zz]at q;rw[Zbv,Jj0 d q.1,Jg9 ds q.2];rfl
end
theorem V9(e:h[i]?=J (.lst xs)):toD h (n+1) (.ref i)=(xs.mapM<|toD h n).map Zd6:=by show(match h[i]? with|some (.lst xs)=>(xs.mapM<|toD h n).map Zd6|_=>Zc)=_;rw[e]
theorem Y4{f:IV->Option Zco}{g:IV->Zco}:∀{xs:Tx},(∀x∈xs,f x=J (g x))->xs.mapM f=J (xs.map g)|[],_=>rfl|x::xs,q=>by rw[Za5,q x<|ZB ..,Y4 λy j=>q y<|Zr _ j];rfl
theorem Jou:∀{xs:Tx},(∀x∈xs,(g x).canLay0=Zg)->ZJ (xs.map g)=Zg|[],_=>by rw[Zeu,ZJ]|x::xs,q=>by rw[ZL,ZJ,q x<|ZB ..,Jou λy j=>q y<|Zr _ j];rfl
end
section
seal L4.run
section
variable{k:Nat}{h:IH}
theorem Jnn:(ZW "abcdefghijklmnopqrstuvwxyz").cps.toList=(ZR 26).map (97+ ·):=by decide +kernel
theorem Jsz(h0:0<=n)(h1:n<26):WR (Jg (.str "abcdefghijklmnopqrstuvwxyz") (.int n) h) Q=Q (.str ⟨#[97+n.toNat]⟩) h:=by
 have j:=J0;have e:atI (ZW "abcdefghijklmnopqrstuvwxyz").cps.toList n=J (97+n.toNat):=by rw[Jnn];refine Jjc h0 ?_;rw[Z4,Zdi 00];rfl
 simp only[Jg];rw[e];rfl
theorem J1c(l m:Tr):(⟨l.toArray⟩:Str)++(⟨m.toArray⟩:Str)=⟨(l++m).toArray⟩:=by show Str.append _ _=_;unfold Str.append;simp
theorem YG(l:Tr):(⟨l.toArray⟩:Str).length=l.length:=by simp[ZeS]
theorem Jrs:(ZW "")=(⟨([]:Tr).toArray⟩:Str):=by decide +kernel
noncomputable def wSz (c:Int):Int:=1+c%8
def wAt(c:Int):Int:=c/8%wSz c
def wB(c:Int):Tr:=(ZR (wSz c).toNat).map λj:Nat=>97+(c/(11+(j:Int)*(j:Int))%26).toNat
def wL(c:Int)(q:Nat):Tr:=((wB c).take (wAt c).toNat++[97+((c/64+(q:Int))%26).toNat])++(wB c).drop ((wAt c).toNat+1)
def wd(c:Int)(q:Nat):Str:=⟨(wL c q).toArray⟩
theorem w_at(c:Int):0<wSz c/\wSz c<=8/\0<=wAt c/\wAt c<wSz c:=by
 have j:0<wSz c/\wSz c<=8:=by unfold wSz;omega
 exact#[j.1,j.2,ZQ _ 00,ZG _ j.1]
theorem Jyj(c:Int):(wB c).length=(wSz c).toNat:=by simp[wB]
theorem Jyk(c:Int)(q:Nat):(wL c q).length=(wSz c).toNat:=by have:=w_at c;simp[wL,Jyj];omega
theorem Jt8(c:Int)(q:Nat):IsNm (wd c q):=by
 have u:=w_at c;refine#[?_,?_,?_]
 .rw[wd,YG,Jyk];omega
 .rw[wd,YG,Jyk];omega
 .intro x hx;have hx:x∈wL c q:=by simpa[wd]using hx
  have k:∀x∈wB c,97<=x/\x<=122:=λx hx=>by obtain⟨j,_,rfl⟩:=Z6.mp hx;omega
  have m:=ZQ (c/64+(q:Int)) (b:=26) 01;have L:=ZG (c/64+(q:Int)) (b:=26) 01;simp only[wL,ZZ,Z2]at hx;rcases hx with(hx|rfl)|hx
  .exact k x<|List.mem_of_mem_take hx
  .omega
  .exact k x<|List.mem_of_mem_drop hx
theorem Jyl(hp:p<26)(m:q<26)(e:wd c p=wd c q):p=q:=by
 have j:wL c p=wL c q:=by have:(wL c p).toArray=(wL c q).toArray:=congrArg Str.cps e;simpa using this
 have k:(97+((c/64+(p:Int))%26).toNat)=97+((c/64+(q:Int))%26).toNat:=by have:=List.append_cancel_right j;have:=List.append_cancel_left this;simpa using this
 omega
noncomputable def lOf (c:Int)(v:IV):IV:=match v with|.int j=>.str ⟨#[97+(c/(11+j*j)%26).toNat]⟩|_=>.non
theorem Jqo(l:Tr):QF (l.map λx=>IV.str ⟨#[x]⟩)=J (Zb2 ⟨l.toArray⟩):=by have:=Jks<|Zb2 ⟨l.toArray⟩;rw[<-this];simp[Zb2];rfl
theorem Jz4{l:Tr}(u:l.length<=8):JoinOk (ZW "") (Zb2 ⟨l.toArray⟩)=Zg:=by
 have B:=J0;have k:(ZW "").length=0:=by decide +kernel
 have:∀(m:Tr) (a:Nat),(m.map λx=>(⟨#[x]⟩:Str)).foldl (λn (x:Str)=>n+x.length+(ZW "").length) a=a+m.length:=by intro m;induction m with|nil=>intro a;rfl|cons x m j=>intro a;rw[ZL,List.foldl_cons,j,k];simp[ZeS];omega
 have e:(Zb2 ⟨l.toArray⟩).foldl (λn (x:Str)=>n+x.length+(ZW "").length) 0=0+l.length:=this l 0;unfold JoinOk Builtin.Str.tooLong;simp;omega
theorem letE(m:a U h=.ok (.str "abcdefghijklmnopqrstuvwxyz") h1)(j:b U h1=.ok (.int n) h1)(k:0<=n)(n1:n<26):Jc Jg a b U h=.ok (.str ⟨#[97+n.toNat]⟩) h1:=by rw[binE m j];exact Js<|by rw[Jsz k n1];exact#[rfl,rfl]
theorem slE(k:a U h=.ok (.str x) h)(m:lo U h=.ok l h)(j:hi U h=.ok u h)(z:x.length<=8)(e:ZeJ x l u=y):eSl slT a lo hi U h=.ok (.str y) h:=by have B:=J0;refine Js<|(YO ..).mpr<|Jd k<|Jd m<|Jd j ?_;rw[J11,e];exact#[00,rfl,rfl]
theorem strE{x y:Tr}(k:a U h=.ok (.str ⟨x.toArray⟩) h)(j:b U h=.ok (.str ⟨y.toArray⟩) h)(z:x.length+y.length<=9):Jc Jm a b U h=.ok (.str ⟨(x++y).toArray⟩) h:=by have m:=J0;rw[binE k j];refine Js ?_;rw[J1n,J1c,YG,YG];exact#[00,rfl,rfl]
theorem Jua(c:Int)(q:Nat):WR (Jc5 (k+1) [.int c,.int q] h) λv h'=>v=.str (wd c q)/\Ex h h':=by
 have P:=J0;have m:=w_at c;have bl:=Jyj c;have j:(⟨(wB c).toArray⟩:Str).length=(wB c).length:=YG _;rw[Jni];refine xfin (xseq<|xset<|Jd rfl (xseq<|xset<|Jd (addE rfl (modE rfl rfl 01))<|xseq<|xset<|(J1s (h1:=h) rfl Jyx).mpr<|xb<|WR.mono (Qh (h:=h) (xs:=rngI 0<|wSz c) (f:=lOf c) ?_ (by rw[Qp];omega) (λ_ _=>trivial) ?_) ?_))
 .rw[Xu];refine Jd (arg1 rfl) ?_;rw[Jkw];exact#[00,rfl,rfl,rfl]
 .intro x hx L O;obtain⟨n,hn,rfl⟩:=Zab.mp hx;rw[V6,show(0+(n:Int))=(n:Int) by omega];rw[Qp]at hn;have C:n<8:=00;have sq:(n:Int)*(n:Int)<=49/\0<=(n:Int)*(n:Int):=by obtain rfl|rfl|rfl|rfl|rfl|rfl|rfl|rfl:n=0\/n=1\/n=2\/n=3\/n=4\/n=5\/n=6\/n=7:=00;all_goals decide
  unfold Jdn;exact Jd (letE rfl (modE (JY rfl (addE rfl (mulE rfl rfl (.inl 00))) 00 (Jkb (b:=60) 00 01)) rfl 01) (ZQ _ 01) (ZG _ 01)) #[rfl,.refl _]
 .rintro _ _ ⟨rfl,g,rfl⟩;have F:(rngI 0<|wSz c).map (lOf c)=(wB c).map λx=>IV.str ⟨#[x]⟩:=by
   rw[wB,Zah];refine Zbl (by rw[Zj,Zj,Qp,Zbc];omega) λi h1 L=>?_
   rw[ZX,V6,ZX,ZcA];simp[lOf]
  rw[F];have B:Ex h (h++IX.lst ((wB c).map λx=>IV.str ⟨#[x]⟩)::g):=.cons _ _ _;have g1:(h++IX.lst ((wB c).map λx=>IV.str ⟨#[x]⟩)::g)[h.length]?=J (.lst<|(wB c).map λx=>IV.str ⟨#[x]⟩):=J6;generalize h++IX.lst ((wB c).map λx=>IV.str ⟨#[x]⟩)::g=h1 at B g1;have E:Txt.join (ZW "") (Zb2 ⟨(wB c).toArray⟩)=⟨(wB c).toArray⟩:=by rw[Jrs];exact(StrLaws.glued_eq_join _ _).trans<|PyProof.Rows.join_nil_signs _
  have G:ZeJ ⟨(wB c).toArray⟩ Zc (J<|wAt c)=⟨((wB c).take (wAt c).toNat).toArray⟩:=by have:=beq_iff_eq.mp (PyProof.Rows.slice_closes_toL m.2.2.1<|by rw[j,bl];omega);rw[this];simp
  have D:ZeJ ⟨(wB c).toArray⟩ (J<|wAt c+1) Zc=⟨((wB c).drop<|(wAt c).toNat+1).toArray⟩:=by have:=beq_iff_eq.mp (PyProof.Rows.slice_closes_fromL (i:=wAt c+1) 00 (by rw[j,bl];omega) rfl);rw[this];have H:(wAt c+1).toNat=(wAt c).toNat+1:=00;rw[H,Zba (by rw[ZcQ];show _<=((⟨(wB c).toArray⟩:Str).length-(wAt c+1)).toNat;rw[j];simp;omega)]
  have u:(⟨(wB c).toArray⟩:Str).length<=8:=00;have I:=List.length_take_le (wAt c).toNat<|wB c;have M:((wB c).drop<|(wAt c).toNat+1).length<=8-(wAt c).toNat-1:=by rw[ZcQ];omega
  refine Jd rfl (J1v.mpr #[_,g1,_,Jqo _,Jz4 (show(wB c).length<=8 by omega),?_]);rw[E];refine xseq<|xset<|Jd (modE (JY rfl rfl 01 01) rfl m.1)<|xret<|Jd (strE (strE (slE rfl rfl rfl u G) (letE rfl (modE (addE (JY rfl rfl 01 01) rfl) rfl 01) (ZQ _ 01) (ZG _ 01)) ?_) (slE rfl rfl rfl u D) ?_) #[rfl,B]
  .simp;omega
  .simp;omega
end
end
section
seal L4.run
theorem at_x{xs:Tq}{n:Nat}(hn:n<xs.length):∃x,atI (xs.map IV.int) (n:Int)=J (.int x):=#[xs[n],JH 03]
theorem XE{j:Ua}(F:j.length<=2)(each:∀a∈j,IsNm a.1/\0<=a.2.1/\a.2.2<len)(tog:∀a b,j=[a,b]->Tog b a):HsOk len (j.filter λa=>decide (a.2.1<a.2.2)):=by
 refine#[ZM (Zbk _ _) 05,λa ha=>?_,λm n hm hn=>?_]
 .obtain⟨E,L⟩:=Zbe.mp ha;obtain⟨H,C,D⟩:=each a E;exact#[H,C,by simpa using L,D]
 .have G:=Zbk (λa:Hd=>decide (a.2.1<a.2.2)) j;cases j with|nil=>simp at hn|cons a t=>
   cases t with|nil=>simp at G;lia|cons b t=>
    cases t with|cons _ _=>simp only[Zar]at F;lia|nil=>
     have e:[a,b].filter (λa:Hd=>decide (a.2.1<a.2.2))=[a,b]:=by
      refine List.filter_eq_self.mpr λx hx=>?_
      by_cases B:a.2.1<a.2.2
      .by_cases u:b.2.1<b.2.2
       .simp at hx;rcases hx with rfl|rfl<;>simpa
       .simp[B,u]at hn;lia
      .by_cases u:b.2.1<b.2.2<;>simp[B,u]at hn<;>lia
     have k:m=0/\n=1:=by rw[e]at hn;simp at hn;lia
     obtain⟨rfl,rfl⟩:=k;simp only[e];exact tog a b rfl
section
variable{k:Nat}{h:IH}
theorem Jwy{i:Nat}{j:Tq}(hi:h[i]?=J (.lst<|j.map .int))(k:j.length<64):XU (.ref i) h=.ok (.ref h.length) (h++[.lst<|(Qk j).map .int]):=by dsimp only[XU];rw[hi];dsimp only;rw[if_pos<|by simp_all];unfold srtI;rw[Vl]
theorem J7r{j:Tq}(m:j.length=4)(hm:∀x∈j,0<=x/\x<len):∃p0 p1 p2 p3:Int,Qk j=[p0,p1,p2,p3]/\0<=p0/\p0<=p1/\p1<=p2/\p2<=p3/\p3<len:=by
 have k:=Jpb j;have l:(Qk j).length=4:=by rw[Qk,List.length_mergeSort];exact m
 have mem:∀x∈Qk j,0<=x/\x<len:=λx hx=>hm x<|List.mem_mergeSort.mp hx
 match Qk j,l,k,mem with|[p0,p1,p2,p3],_,k,mem=>simp only[List.pairwise_cons,ZA,Zad,or_false]at k;obtain⟨a,b,c,_⟩:=k;have B:=mem p0 03;have u:=mem p3 03;exact#[p0,p1,p2,p3,rfl,B.1,a p1<|.inl rfl,b p2<|.inl rfl,c p3 rfl,u.2]
noncomputable def J2o (v:IV):Bool:=match v with|.tup [_,.int s,.int e]=>decide (s<e)|_=>Zi
theorem Jr2(j:Ua):(j.map tupH).filter J2o=(j.filter λa=>decide (a.2.1<a.2.2)).map tupH:=by rw[List.filter_map];rfl
noncomputable def way6 (one other:Str)(p0 p1 p2 p3:Int):Nat->Ua|0=>[]|1=>[(one,p0,p3)]|2=>[(one,p0,p3),(other,p1,p2)]|3=>[(other,p1,p2),(one,p0,p3)]|4=>[(one,p0,p1),(other,p2,p3)]|_=>[(one,p2,p3),(one,p0,p1)]
theorem J1m(n:Nat)(h1:IsNm one)(L:IsNm other)(ne:one≠other)(j:0<=p0)(u:p0<=p1)(B:p1<=p2)(m:p2<=p3)(k:p3<len):HsOk len ((way6 one other p0 p1 p2 p3 n).filter λa=>decide (a.2.1<a.2.2)):=by
 match n with
 |0=>exact XE (by simp[way6]) (by simp[way6])<|by simp[way6]
 |1=>
  refine XE (by simp[way6]) (λa ha=>?_)<|by simp[way6]
  simp only[way6,ZA,Zad,or_false]at ha;subst ha;exact#[h1,j,k]
 |2=>
  refine XE (by simp[way6]) (λa ha=>?_) λa b e=>?_
  .simp only[way6,ZA,Zad,or_false]at ha;rcases ha with rfl|rfl
   .exact#[h1,j,k]
   .exact#[L,by show 0<=p1;lia,by show p2<len;lia]
  .simp only[way6,Zdg,and_true]at e;obtain⟨rfl,rfl⟩:=e;exact .inr<|.inr #[ZP ne,.inl #[u,m]]
 |3=>
  refine XE (by simp[way6]) (λa ha=>?_) λa b e=>?_
  .simp only[way6,ZA,Zad,or_false]at ha;rcases ha with rfl|rfl
   .exact#[L,by show 0<=p1;lia,by show p2<len;lia]
   .exact#[h1,j,k]
  .simp only[way6,Zdg,and_true]at e;obtain⟨rfl,rfl⟩:=e;exact .inr<|.inr #[ne,.inr #[u,m]]
 |4=>
  refine XE (by simp[way6]) (λa ha=>?_) λa b e=>?_
  .simp only[way6,ZA,Zad,or_false]at ha;rcases ha with rfl|rfl
   .exact#[h1,j,by show p1<len;lia]
   .exact#[L,by show 0<=p2;lia,k]
  .simp only[way6,Zdg,and_true]at e;obtain⟨rfl,rfl⟩:=e;exact .inr<|.inl B
 |n+5=>
  refine XE (by simp[way6]) (λa ha=>?_) λa b e=>?_
  .simp only[way6,ZA,Zad,or_false]at ha;rcases ha with rfl|rfl
   .exact#[h1,by show 0<=p2;lia,k]
   .exact#[h1,j,by show p1<len;lia]
  .simp only[way6,Zdg,and_true]at e;obtain⟨rfl,rfl⟩:=e;exact .inl B
theorem Jzq{C:IH}{X kD G D F E B H:Nat}{xs:Tq}{one other:Str}{p0 p1 p2 p3 j:Int}{U W S a4 a5:Tg}(V:C[G]?=J (.lst []))(O:C[D]?=J (.lst [tupH (one,p0,p3)]))(M:C[F]?=J (.lst [tupH (one,p0,p3),tupH (other,p1,p2)]))(c3:C[E]?=J (.lst [tupH (other,p1,p2),tupH (one,p0,p3)])) (R:C[B]?=J (.lst [tupH (one,p0,p1),tupH (other,p2,p3)]))(c5:C[H]?=J (.lst [tupH (one,p2,p3),tupH (one,p0,p1)]))(P:C[kD]?=J (.lst [.ref G,.ref D,.ref F,.ref E,.ref B,.ref H]))(Z:C[X]?=J (.lst<|xs.map .int))(Q:atI (xs.map IV.int) 6=J (.int j)){N:ISt->IH->Prop}:WS (Jel k [J<|.ref X,U,W,S,a4,a5,J<|.ref kD] C) N λv h'=>∃q n,v=.ref q/\C.length<=q/\h'[q]?=J (.lst<|((way6 one other p0 p1 p2 p3 n).filter λa=>decide (a.2.1<a.2.2)).map tupH)/\Ex C h':=by
 have hb:=J0;have u:∃(n m:Nat),atI [IV.ref G,IV.ref D,IV.ref F,IV.ref E,IV.ref B,IV.ref H] (j%6)=J (.ref m)/\C[m]?=J (.lst<|(way6 one other p0 p1 p2 p3 n).map tupH):=by
  have:j%6=0\/j%6=1\/j%6=2\/j%6=3\/j%6=4\/j%6=5:=05;rcases this with e|e|e|e|e|e<;>rw[e]
  .exact#[0,G,JV,V]
  .exact#[1,D,JN,O]
  .exact#[2,F,Qd,M]
  .exact#[3,E,Ve,c3]
  .exact#[4,B,X4,R]
  .exact#[5,H,JH rfl,c5]
 obtain⟨n,m,Y,I⟩:=u;have ln:(way6 one other p0 p1 p2 p3 n).length<=2:=by match n with|0|1|2|3|4|n+5=>simp[way6]
 refine xret (WR.mono (YM (xs:=(way6 one other p0 p1 p2 p3 n).map tupH) (p:=J2o) (f:=λv=>v) ?_ (by rw[Zj];lia) (λL q=>q _ _ I) ?_ ?_) ?_)
 .rw[JZ];exact Jd (ixlE rfl (modE (ixlE rfl rfl Z Q) rfl 01) P Y)<|(Qa _).mpr #[_,I,rfl,rfl,rfl]
 .intro v hv L q;obtain⟨a,_,rfl⟩:=Z6.mp hv;exact Jd (ltE (ixtE rfl rfl rfl)<|ixtE rfl rfl rfl) #[rfl,.refl _]
 .intro v hv _ L q;exact#[rfl,.refl _]
 .rintro _ _ ⟨rfl,g,rfl⟩;refine#[_,n,rfl,Zq _,?_,.cons _ _ _];rw[J6,Zfg,Jr2]
theorem xbin{f:IV->IV->IH->Res IV}{a b:E1}{x y:IV}{U:ISt}{h1 L:IH}{P:IV->IH->Prop}(k:a U h=.ok x h1)(j:b U h1=.ok y L)(q:WR (f x y L) P):WR (Jc f a b U h) P:=by rw[binE k j];exact q
theorem VA{C:IH}{U:ISt}{j s:Nat}{ps:Tx}{w:Str}{a b x y:Int}(k:C[j]?=J (.lst ps))(m:Ja 3 U C=.ok (.ref j) C)(u:Ja s U C=.ok (.str w) C)(D:atI ps a=J (.int x))(B:atI ps b=J (.int y)):Jz (Jb (Ja s)<|Jb (Jc Jg 'd'<|eC<|.int a)<|Jb (Jc Jg 'd'<|eC<|.int b) Je) U C=.ok (tupH (w,x,y)) C:=tupE (arg3 u (ixlE m rfl k D)<|ixlE m rfl k B) rfl
theorem Jzp{C:IH}{X kD B E D u F:Nat}{xs:Tq}{one other:Str}{p0 p1 p2 p3 I:Int}{V P:Tg}(H:C[E]?=J (.lst []))(O:C[D]?=J (.lst [tupH (one,p0,p3)]))(L:C[u]?=J (.lst [tupH (one,p0,p3),tupH (other,p1,p2)]))(W:C[F]?=J (.lst [tupH (other,p1,p2),tupH (one,p0,p3)])) (S:C[kD]?=J (.lst [.ref E,.ref D,.ref u,.ref F]))(m:C[B]?=J (.lst [.int p0,.int p1,.int p2,.int p3]))(R:C[X]?=J (.lst<|xs.map .int))(U:atI (xs.map IV.int) 6=J (.int I)){N:ISt->IH->Prop}:WS (Jek k [J<|.ref X,V,P,J<|.ref B,J<|.str one,J<|.str other,J<|.ref kD] C) N λv h'=>∃q n,v=.ref q/\C.length<=q/\h'[q]?=J (.lst<|((way6 one other p0 p1 p2 p3 n).filter λa=>decide (a.2.1<a.2.2)).map tupH)/\Ex C h':=by
 have Y:=J0;refine xseq<|xset<|xbin rfl (lstE (arg2 (lstE (arg2 (VA m rfl rfl rfl rfl)<|VA m rfl rfl rfl rfl) rfl)<|lstE (arg2 (VA (grow m) rfl rfl rfl rfl)<|VA (grow m) rfl rfl rfl rfl) rfl) rfl) ?_;refine(YK ..).mpr #[_,grow<|grow<|grow S,_,grown,by simp;lia,?_];have j:∀a b c d,Ex C (C++[a]++[b]++[c]++[d]):=λa b c d=>(Ex.one _ _).trans<|(Ex.one _ _).trans<|(Ex.one _ _).trans<|.one _ _
 refine WS.mono (Jzq ((j _ _ _ _).get H) ((j _ _ _ _).get O) ((j _ _ _ _).get L) ((j _ _ _ _).get W) (grow<|grow<|grow grown) (grow<|grow grown) grown ((j _ _ _ _).get R) U) (λ_ _ z=>z) ?_;rintro v h' ⟨q,n,rfl,G,M,Q⟩;refine#[q,n,rfl,?_,M,(j _ _ _ _).trans Q];simp at G;lia
theorem Jzo{C:IH}{X u:Nat}{xs:Tq}{one other:Str}{p0 p1 p2 p3 D:Int}{M G E:Tg}(j:C[u]?=J (.lst [.int p0,.int p1,.int p2,.int p3]))(I:C[X]?=J (.lst<|xs.map .int))(L:atI (xs.map IV.int) 6=J (.int D)){N:ISt->IH->Prop}:WS (Jej k [J<|.ref X,M,G,J<|.ref u,J<|.str one,J<|.str other,E] C) N λv h'=>∃q n,v=.ref q/\C.length<=q/\h'[q]?=J (.lst<|((way6 one other p0 p1 p2 p3 n).filter λa=>decide (a.2.1<a.2.2)).map tupH)/\Ex C h':=by
 have O:=J0;refine xseq<|xset<|Jd (lstE (arg4 (lstE rfl rfl) (lstE (arg1<|VA (grow j) rfl rfl rfl rfl) rfl) (lstE (arg2 (VA (grow<|grow j) rfl rfl rfl rfl)<|VA (grow<|grow j) rfl rfl rfl rfl) rfl)<|lstE (arg2 (VA (grow<|grow<|grow j) rfl rfl rfl rfl)<|VA (grow<|grow<|grow j) rfl rfl rfl rfl) rfl) rfl) ?_;have m:∀a b c d e,Ex C (C++[a]++[b]++[c]++[d]++[e]):=λa b c d e=>(Ex.one _ _).trans<|(Ex.one _ _).trans<|(Ex.one _ _).trans<|(Ex.one _ _).trans<|.one _ _
 refine WS.mono (Jzp (grow<|grow<|grow<|grow grown) (grow<|grow<|grow grown) (grow<|grow grown) (grow grown) grown ((m _ _ _ _ _).get j) ((m _ _ _ _ _).get I) L) (λ_ _ z=>z) ?_;rintro v h' ⟨q,n,rfl,B,F,H⟩;refine#[q,n,rfl,?_,F,(m _ _ _ _ _).trans H];simp at B;lia
def mdOf(len:Int)(v:IV):IV:=match v with|.int x=>.int (x%len)|_=>.non
theorem Jvf{X W:Nat}{xs:Tq}{ws:Tl}{len:Int}(U:h[X]?=J (.lst<|xs.map .int))(lx:7<=xs.length)(Y:h[W]?=J (.lst<|ws.map .str))(lw:ws.length=3)(S:∀x∈ws,IsNm x)(nd:ws.Nodup)(h1:1<=len):
  WR (Jds (k+1) [.ref X,.int len,.ref W] h) λv h'=>∃q hs,v=.ref q/\h.length<=q/\h'[q]?=J (.lst<|hs.map tupH)/\HsOk len hs/\Ex h h':=by
 have hb:=J0;rw[Jlr];have R:(xs.take 4).length=4:=by rw[ZaH];lia
 refine xfin (xseq<|xset<|xb<|xb<|WR.mono (Qh (xs:=(xs.take 4).map IV.int) (chk:=λh'=>h'[h.length]?=J (.lst<|(xs.take 4).map IV.int)) (f:=mdOf len) ?_ (by rw[Zj,R];lia) (λL q=>q _ _ grown) ?_) ?_)
 .rw[JZ];refine(YO ..).mpr<|Jd rfl (Jd rfl (Jd rfl ((Jpo ..).mpr #[_,U,?_])));rw[show(J (4:Int))=J ((4:Nat):Int)from rfl,Jok,<-ZeQ];exact(Qa _).mpr #[_,grown,rfl,rfl,rfl]
 .intro v hv L q;obtain⟨x,hx,rfl⟩:=Z6.mp hv;unfold Jcs;exact Jd (modE rfl rfl 05) #[rfl,.refl _]
 .rintro _ _ ⟨rfl,g,rfl⟩;have em:((xs.take 4).map IV.int).map (mdOf len)=((xs.take 4).map (· %len)).map IV.int:=by rw[Zah,Zah];rfl
  rw[em];have l5:((xs.take 4).map (· %len)).length=4:=by rw[Zj,R]
  obtain⟨p0,p1,p2,p3,es,a0,a1,a2,a3,a4⟩:=J7r (len:=len) l5 λx hx=>by obtain⟨y,_,rfl⟩:=Z6.mp hx;exact#[ZQ _ 05,ZG _ 05]
  generalize H:h++[IX.lst<|(xs.take 4).map IV.int]=u;have xA:Ex h u:=by rw[<-H];exact .one _ _
  refine Jd rfl (Jd ((Jwy J6 05).trans<|by rw[es]) ?_);have V:Ex u (u++IX.lst (((xs.take 4).map (· %len)).map IV.int)::g++[IX.lst<|[p0,p1,p2,p3].map IV.int]):=(Ex.cons _ _ _).trans<|.one _ _;have I:(u++IX.lst (((xs.take 4).map (· %len)).map IV.int)::g++[IX.lst<|[p0,p1,p2,p3].map IV.int])[(u++IX.lst (((xs.take 4).map (· %len)).map IV.int)::g).length]?=J (.lst [.int p0,.int p1,.int p2,.int p3]):=grown;generalize (u++IX.lst (((xs.take 4).map (· %len)).map IV.int)::g).length=Pp at I ⊢;generalize u++IX.lst (((xs.take 4).map (· %len)).map IV.int)::g++[IX.lst<|[p0,p1,p2,p3].map IV.int]=hB at V I ⊢;have E:=xA.trans V;have m:=E.get U;have B:=E.get Y;obtain⟨F,Q⟩:=at_x (xs:=xs) (n:=4) 05;obtain⟨P,e5⟩:=at_x (xs:=xs) (n:=5) 05;obtain⟨y6,Z⟩:=at_x (xs:=xs) (n:=6) 05;obtain⟨i,hi⟩:∃i:Nat,F%3=i:=#[(F%3).toNat,05];obtain⟨j,hj⟩:∃j:Nat,(F+1+P%2)%3=j:=#[((F+1+P%2)%3).toNat,05];have D:i<ws.length:=05;have C:j<ws.length:=05;have G:i≠j:=05;have O:∀n (hn:n<ws.length),atI (ws.map IV.str) (n:Int)=J (.str ws[n]):=λn hn=>JH<|by simp_all
  have A1:=O i D;have M:=O j C;rw[<-hi]at A1;rw[<-hj]at M;have n1:=S _<|Z5 D;have n2:=S _<|Z5 C;have ne:ws[i]≠ws[j]:=λe=>G<|(ZcP nd).mp e
  refine xseq<|xset<|Jd (ixlE rfl (modE (ixlE rfl rfl m Q) rfl 01) B A1) ?_;refine xseq<|xset<|Jd (ixlE rfl (modE (addE (addE (ixlE rfl rfl m Q) rfl)<|modE (ixlE rfl rfl m e5) rfl 01) rfl 01) B M) ?_;refine WS.mono (Jzo (k:=k) (p0:=p0) (p1:=p1) (p2:=p2) (p3:=p3) (N:=λ_ _=>False) I m Z) (λ_ _ z=>z.elim) ?_;rintro v h' ⟨q,n,rfl,lq,gq,x'⟩;have:=E.len;exact#[q,_,rfl,05,gq,J1m (len:=len) n n1 n2 ne a0 a1 a2 a3 a4,E.trans x']
end
end
section
seal L4.run
noncomputable abbrev tp5 (r:RH)(q:Nat):Tx:=[.int r.1.gap,.int r.1.len,.int r.1.due,.int r.1.late,.ref q]
structure F7(unit:Int)(r:RH):Prop where
 g1:unit<=r.1.gap
 g2:r.1.gap<8*unit
 l1:1<=r.1.len
 l2:r.1.len<=r.1.gap
 d1:1<=r.1.due
 d2:r.1.due<=r.1.gap
 t1:0<=r.1.late
 t2:r.1.late<=3*r.1.gap/2
 ok:HsOk r.1.len r.2
theorem J07{ws:Tl}(j:∀x∈ws,IsNm x):ZJ (ws.map PyData.str)=Zg:=by
 induction ws with|nil=>rfl|cons x xs m=>
  have q:=j x<|ZB ..;have e:ZH (.str x)=Zg:=by simp only[ZH];unfold Zfh;rw[<-ZdX,ZaY];intro c k;have:=q.2.2 c k;lia
  rw[ZL,ZJ,e,m λy u=>j y<|Zr _ u];rfl
section
variable{k:Nat}{h:IH}
theorem Jn0{W j:Nat}{ws:Tl}(k:h[W]?=J (.lst<|ws.map .str))(B:∀x∈ws,IsNm x)(C:h[j]?=J (.lst [])):cNe (.ref W) (.ref j) h=.ok (.bl (!ws.isEmpty)) h:=by
 have E:toD h 6 (.ref W)=J (.list<|ws.map PyData.str):=by
  rw[V9 k,Y4 (g:=λv=>match v with|.str x=>.str x|_=>.none) λx hx=>?_]
  .simp
  .obtain⟨y,_,rfl⟩:=Z6.mp hx;rfl
 have m:toD h 6 (.ref j)=J (.list []):=by rw[V9 C];rfl
 have D:Qm (.ref W) (.ref j) h=J ws.isEmpty:=by unfold Qm;rw[E,m];dsimp only;rw[if_pos #[by rw[ZH];exact J07 B,by rw[ZH,ZJ]],Zbz];cases ws with|nil=>rw[Zeu,Zbv];rfl|cons a F=>rw[ZL,Zbv];rfl;all_goals intros;simp_all
 unfold cNe;have u:Vt (.ref W) (.ref j)=Zc:=rfl;rw[u];dsimp only;rw[D]
theorem pk(xs:Tq)(hn:(xs.length:Int)=n)(h0:0<n):∃x∈xs,atI (xs.map IV.int) (y%n)=J (.int x):=by have a:=ZQ y (b:=n) 05;have b:=ZG y h0;have l:(y%n).toNat<xs.length:=05;exact#[xs[(y%n).toNat],Z5 l,Jjc a 03]
theorem Jwc{c j:Int}{W:Nat}{ws:Tl}(hu:1<=j)(hu2:j<=10^40)(hW:h[W]?=J (.lst<|ws.map .str))(hw:∀x∈ws,IsNm x)(nd:ws.Nodup)(Q:ws=[]\/ws.length=3):
  WR (Jdt (k+2) [.int c,.int j,.ref W] h) λv h'=>Ex h h'/\∃r q,F7 j r/\v=.tup (tp5 r q)/\h.length<=q/\h'[q]?=J (.lst<|r.2.map tupH)/\(ws=[]->r.2=[]):=by
 have hb:=J0;rw[Jls];refine xfin<|xseq<|xset<|xb<|Jd (arg2 rfl rfl)<|WR.mono (Jmq (k:=k) (h:=h) c 15 01) ?_;rintro _ V ⟨i,xs,rfl,_,H,lx,hx,x1⟩;have at_:∀n:Nat,n<15->∃x,0<=x/\atI (xs.map IV.int) (n:Int)=J (.int x):=λn hn=>#[xs[n],(hx _<|Z5 _).1,JH<|by simp_all]
 obtain⟨y0,z0,e0⟩:=at_ 0 01;obtain⟨X,z1,e1⟩:=at_ 1 01;obtain⟨L,z2,e2⟩:=at_ 2 01;obtain⟨y3,z3,e3⟩:=at_ 3 01;obtain⟨D,z4,e4⟩:=at_ 4 01;obtain⟨y5,z5,e5⟩:=at_ 5 01;obtain⟨Z,z6,e6⟩:=at_ 6 01;obtain⟨y7,z7,e7⟩:=at_ 7 01;clear at_ hx;have b1:j*1<=j*(1+y0%7):=Zda 05 05;have b2:j*(1+y0%7)<=j*7:=Zda 05 05;have b3:=ZQ X (b:=1+j/2) 05;have b4:=ZG X (b:=1+j/2) 05;refine xseq<|xset<|Jd (addE (mulE rfl (addE rfl (modE (ixlE rfl rfl H e0) rfl 01)) (.inr<|.inl 05))<|modE (ixlE rfl rfl H e1) (addE rfl (JY rfl rfl 01 01)) 05) ?_;obtain⟨g,eg,g1,g2⟩:∃g,j*(1+y0%7)+X%(1+j/2)=g/\j<=g/\g<8*j:=#[_,rfl,05,05];rw[eg];clear eg b1 b2 b3 b4;have O:(0:Int)<g:=05;have d1:=ZQ L (b:=g) 05;have d2:=ZG L O;obtain⟨E,hd,ed⟩:=pk (n:=2) (y:=y3) [0,L%g] rfl 01;have hd:0<=E/\E<g:=by simp at hd;lia
 refine xseq<|xset<|Jd (subE rfl (pkE (arg2 rfl (modE (ixlE rfl rfl H e2) rfl O)) rfl (modE (ixlE rfl rfl (grow H) e3) rfl 01) ed)) ?_;have Y:Ex V (V++[IX.lst [IV.int 0,IV.int<|L%g]]):=.one _ _;generalize V++[IX.lst [IV.int 0,IV.int<|L%g]]=hA at Y ⊢;have B:=Y.get H;have t1:=ZQ D (b:=1+g/3) 05;have t2:=ZG D (b:=1+g/3) 05;have t3:=ZQ D (b:=1+3*g/2) 05;have t4:=ZG D (b:=1+3*g/2) 05;obtain⟨lt,S,el⟩:=pk (n:=4) (y:=y5) [0,0,D%(1+g/3),D%(1+3*g/2)] rfl 01;have S:0<=lt/\lt<=3*g/2:=by simp at S;lia
 refine xseq<|xset<|Jd (pkE (arg4 rfl rfl (modE (ixlE rfl rfl B e4) (addE rfl (JY rfl rfl 01 01)) 05) (modE (ixlE rfl rfl B e4) (addE rfl (JY (mulE rfl rfl (.inl 01)) rfl 01 01)) 05)) rfl (modE (ixlE rfl rfl (grow B) e5) rfl 01) el) ?_;have R:Ex hA (hA++[IX.lst [IV.int 0,IV.int 0,IV.int<|D%(1+g/3),IV.int<|D%(1+3*g/2)]]):=.one _ _;generalize hA++[IX.lst [IV.int 0,IV.int 0,IV.int<|D%(1+g/3),IV.int<|D%(1+3*g/2)]]=hB at R ⊢;have I:=R.get B;obtain⟨dv,hv,ev⟩:=pk (n:=4) (y:=y7) [1,2,4,9] rfl 01;have hv:0<dv/\dv<=9:=by simp at hv;lia
 obtain⟨M,eM,M1,M2⟩:∃M:Int,(if g/dv>1 then g/dv else 1)=M/\1<=M/\M<=g:=by
  have:g/dv<=g:=Int.ediv_le_self _ 05;split
  .exact#[_,rfl,05,this]
  .exact#[_,rfl,05,05]
 have s1:=ZQ Z (b:=M) 05;have s2:=ZG Z (b:=M) 05;refine xseq<|xset<|Jd (addE rfl (modE (ixlE rfl rfl I e6) (okc (maxE rfl (JY rfl (pkE (arg4 rfl rfl rfl rfl) rfl (modE (ixlE rfl rfl (grow I) e7) rfl 01) ev) hv.1 (Jkb (b:=9) 05 01)))<|congrArg IV.int eM) 05)) ?_;generalize hlen:1+Z%M=len;have xC:Ex hB (hB++[IX.lst [IV.int 1,IV.int 2,IV.int 4,IV.int 9]]):=.one _ _;generalize hB++[IX.lst [IV.int 1,IV.int 2,IV.int 4,IV.int 9]]=C at xC ⊢;have u:=((x1.trans Y).trans R).trans xC;have lC:=u.len;have hiC:=(R.trans xC).get B;have G:Ex C (C++[IX.lst []]++[IX.lst []]):=(Ex.one _ _).trans<|.one _ _;have gE:(C++[IX.lst []]++[IX.lst []])[C.length]?=J (.lst []):=grow grown;have base:∀F:Ua,HsOk len F->F7 j (#[#[⟨#[]⟩,g,len,g-E,lt],F]:RH):=λF ok=>#[g1,g2,by show 1<=len;lia,by show len<=g;lia,by show 1<=g-E;lia,by show g-E<=g;lia,S.1,S.2,ok]
 have P:∀{U:ISt}{a:E1},a U (C++[IX.lst []])=.ok (.ref W) (C++[IX.lst []])->Jj asB (Jc cNe a<|Jx Je) U (C++[IX.lst []])=.ok (!ws.isEmpty) (C++[IX.lst []]++[IX.lst []]):=λea=>tofE<|(binE ea<|lstE rfl rfl).trans<|Jn0 (G.get<|u.get hW) hw grown
 refine xseq<|xset<|Jd (lstE rfl rfl)<|xseq ?_;rcases Q with rfl|Q
 .exact xiff (P rfl)<|xnil<|xret<|Jd (tupE rfl rfl) #[u.trans G,#[#[⟨#[]⟩,g,len,g-E,lt],[]],_,base [] #[03,03,λm n hm hn=>absurd hn 03],rfl,05,gE,λ_=>rfl]
 .have ne:ws.isEmpty=Zi:=by cases ws with|nil=>simp at Q|cons _ _=>rfl
  refine xift (okc (P rfl)<|by rw[ne];rfl)<|xset<|xb<|xb ?_;refine(YO ..).mpr<|Jd rfl (Jd rfl (Jd rfl ((Jpo ..).mpr #[_,G.get hiC,?_])));rw[show(J (8:Int))=J ((8:Nat):Int)from rfl,Joj,<-ZeP];have xE:Ex (C++[IX.lst []]++[IX.lst []]) (C++[IX.lst []]++[IX.lst []]++[IX.lst<|(xs.drop 8).map IV.int]):=.one _ _;refine xb (Jd (arg2 rfl rfl)<|Jd rfl (WR.mono (Jvf (k:=k) grown (by rw[ZcQ];lia) (xE.get<|G.get<|u.get hW) Q hw nd 05) ?_));rintro _ h3 ⟨q,F,rfl,hq,gq,ok,x3⟩;have l1:=(G.trans xE).len;exact xret (Jd (tupE rfl rfl) #[(u.trans<|G.trans xE).trans x3,#[#[⟨#[]⟩,g,len,g-E,lt],F],q,base F ok,rfl,05,gq,λe=>by rw[e]at ne;cases ne])
end
end
section
seal L4.run
abbrev tp6(r:RH)(q:Nat):IV:=.tup<|.str r.1.name::tp5 r q
structure RowT(h:IH)(lo:Nat)(ys:Tx)(rs:Ub):Prop where
 len:ys.length=rs.length
 at_:∀(i:Nat) y r,ys[i]?=J y->rs[i]?=J r->∃q,y=tp6 r q/\q≠lo/\h[q]?=J (.lst<|r.2.map tupH)
theorem RowT.kpb(k:KpB lo h h')(w:RowT h lo ys rs):RowT h' lo ys rs:=#[w.len,λi y r a b=>let ⟨q,e,n,g⟩:=w.at_ i y r a b;#[q,e,n,k _ _ n g]]
theorem RowT.kp(k:Kp h h')(w:RowT h lo ys rs):RowT h' lo ys rs:=w.kpb λ_ _ _ q=>k _ _ q
theorem RowT.get{lo:Nat}(w:RowT h lo ys rs){n:Nat}(e:rs[n]?=J r):∃q,ys[n]?=J (tp6 r q)/\h[q]?=J (.lst<|r.2.map tupH):=by
 have hn:n<ys.length:=by rw[w.len];exact(Zo.mp e).1
 obtain⟨q,j,_,g⟩:=w.at_ n _ r (Zd hn) e;exact#[q,by rw[Zd hn,j],g]
theorem RowT.snoc{r:RH}(w:RowT h lo ys rs)(n:q≠lo)(g:h[q]?=J (.lst<|r.2.map tupH)):RowT h lo (ys++[tp6 r q]) (rs++[r]):=by
 have j:=w.len;refine#[by simp[j],λi y s a b=>?_];by_cases k:i<ys.length
 .rw[Z8 k]at a;rw[Z8 05]at b;exact w.at_ i y s a b
 .have m:=(Zo.mp a).1;rw[Z0,ZaA]at m;obtain rfl:i=ys.length:=05;rw[ZK<|Zq _,Zev]at a;rw[j,ZK<|Zq _,Zev]at b;cases a;cases b;exact#[q,rfl,n,g]
structure Dr(c unit:Int)(rs:Ub):Prop where
 u1:1<=unit
 u2:unit<=10^40
 f:∀r∈rs,F7 unit r
 nm:(rs.map λr=>r.1.name)=(ZR rs.length).map (wd c)
theorem F7.to8(f:F7 unit r)(j:1<=unit)(hn:IsNm r.1.name):F8 unit r:=by have g1:=f.g1;have g2:=f.g2;have t2:=f.t2;exact#[hn,f.g1,05,f.l1,f.d1,f.d2,f.t1,05,f.ok]
theorem Dr.gd(D:Dr c unit rs)(u:rs.length<=7):Gd unit rs:=by
 refine#[D.u1,D.u2,u,λr m=>(D.f r m).to8 D.u1 ?_,?_]
 .have:r.1.name∈(ZR rs.length).map (wd c):=by rw[<-D.nm];exact List.mem_map_of_mem m
  obtain⟨j,_,e⟩:=Z6.mp this;rw[<-e];exact Jt8 c j
 .rw[D.nm,List.Nodup,ZdA];refine(ZdY).imp_of_mem λ{a b} ha B k e=>k ?_;exact Jyl (by have:=Zaw.mp ha;lia) (by have:=Zaw.mp B;lia) e
def SQ(h:IH)(held:Bool)(v:IV)(h':IH):Prop:=Ex h h'/\∃S lo ys rs c unit,v=.ref S/\h.length<=S/\h'[S]?=J (.lst ys)/\RowT h' lo ys rs/\Dr c unit rs/\rs.length<=5/\0<rs.length/\(held=Zi->∀r∈rs,r.2=[])
def wOf(c:Int)(v:IV):IV:=match v with|.int q=>.str<|wd c q.toNat|_=>.non
section
variable{k:Nat}{h:IH}
theorem e15(U:ISt)(h:IH):Jc JM (eC<|.int 10) (eC<|.int 15) U h=.ok (.int<|10^15) h:=Js (by rw[YL,VB,VB,Jpn];exact#[01,rfl,rfl])
theorem e40(U:ISt)(h:IH):Jc JM (eC<|.int 10) (eC<|.int 40) U h=.ok (.int<|10^40) h:=rfl
def SmI(h hB:IH)(C:Nat)(held:Bool)(x0 unit x1:Int)(W n:Nat)(U:ISt)(h':IH):Prop:=∃ys rs g a b,h'=hB++.lst ys::g/\U=[J<|.ref C,J<|.bl held,J<|.int x0,J<|.int unit,J<|.int x1,J<|.ref W,J<|.ref hB.length,a,b]/\RowT h' hB.length ys rs/\rs.length=n/\Dr (x1/7) unit rs/\(held=Zi->∀r∈rs,r.2=[])
theorem J08{ns:Tq}(gC:h[C]?=J (.lst<|ns.map .int))(m1:ns.getD 1 0%6≠0)(u:Bool):WR (Je8 (k+4) [.ref C,.bl u] h) (SQ h u):=by
 have hb:=J0;rw[Jnh];have c0:=Jju (k:=k+2) gC 0 01;have c1:=λ(h':IH)(x:Ex h h')=>Jju (k:=k+2) (x.get gC) 1 01;have m1:ns.getD (Zbx 1) 0%6≠0:=m1;generalize ns.getD (Zbx 0) 0=V at c0;generalize ns.getD (Zbx 1) 0=H at c1 m1;obtain⟨Z,Y,eU⟩:=pk (n:=4) (y:=V) [4,10^15,10^15,10^40] rfl 01;have Y:0<Z/\Z<=10^40:=by simp only[ZA,Zad,or_false]at Y;rcases Y with rfl|rfl|rfl|rfl<;>decide +kernel
 have u0:=ZQ (V/4) (b:=Z) 05;have u1:=ZG (V/4) Y.1;have hx:V/4%Z<10^40:=Int.lt_of_lt_of_le u1 Y.2;have E:∀{U:ISt}{P:IH},Jb '4' (Jb (Jc JM (eC<|.int 10)<|eC<|.int 15)<|Jb (Jc JM (eC<|.int 10)<|eC<|.int 15)<|Jb (Jc JM (eC<|.int 10)<|eC<|.int 40) Je) U P=.ok [IV.int 4,IV.int<|10^15,IV.int<|10^15,IV.int<|10^40] P:=λ{U P}=>arg4 rfl (e15 U P) (e15 U P) (e40 U P);refine xfin<|xseq<|xset<|Jd (Jn (arg2 rfl rfl) c0)<|xseq<|xset ?_;refine Jd (addE rfl (modE (JY rfl rfl 01 01) (pkE E rfl (modE rfl rfl 01) eU) Y.1)) ?_;refine xseq<|xset<|Jd (Jn (arg2 rfl rfl)<|c1 _<|.one _ _)<|xseq<|xset<|Jd (lstE rfl rfl)<|xseq ?_;generalize hu:1+V/4%Z=G;have S:1<=G:=05;have X:G<=10^40:=by clear eU;generalize (10:Int)^40=y at hx;lia
 have xA:Ex h (h++[IX.lst [IV.int 4,IV.int<|10^15,IV.int<|10^15,IV.int<|10^40]]++[IX.lst []]):=(Ex.one _ _).trans<|.one _ _;have gA:(h++[IX.lst [IV.int 4,IV.int<|10^15,IV.int<|10^15,IV.int<|10^40]]++[IX.lst []])[(h++[IX.lst [IV.int 4,IV.int<|10^15,IV.int<|10^15,IV.int<|10^40]]).length]?=J (.lst []):=grown;have Q:∀(B:IH)(W:Nat)(R:Tl),Ex h B->B[W]?=J (.lst<|R.map .str)->(∀x∈R,IsNm x)->R.Nodup->(R=[]\/R.length=3)->(u=Zi->R=[])->∀N:ISt->IH->Prop,
   WS (Jfr (k+3) [J<|.ref C,J<|.bl u,J<|.int V,J<|.int G,J<|.int H,J<|.ref W,Zc,Zc,Zc] B) N (SQ h u):=by
  intro B W R xB gW hw nd lw P N;obtain⟨m,em,pm⟩:∃m:Nat,H%6=m/\0<m:=#[(H%6).toNat,05,05];refine xseq<|xset<|Jd (lstE rfl rfl)<|xseq<|xrng (n:=m) (okc (modE rfl rfl 01)<|congrArg IV.int em) 05 ?_;refine Vb (SmI h B C u V G H W) (λ_ _ _ _=>trivial) ?_ ?_ #[[],[],[],Zc,Zc,rfl,rfl,#[rfl,λi y r a b=>by simp at a],rfl,#[S,X,03,rfl],03]
  .rintro n hn _ _ ⟨F,rs,g,a,b,rfl,rfl,w,ln,D,hr⟩;rw[V6];rw[Qp]at hn;have hn6:n<6:=05;rw[show(0+(n:Int))=(n:Int) by lia];have gC':(B++IX.lst F::g)[C]?=J (.lst<|ns.map .int):=grow<|xB.get gC;have gW':(B++IX.lst F::g)[W]?=J (.lst<|R.map .str):=grow gW;refine xnx rfl (xseq<|xset<|xb<|Jd (arg3 (addE (Jn (arg2 rfl (addE rfl rfl))<|Jju (k:=k+2) gC' (2+(n:Int)) 05)<|mulE rfl rfl (.inl 01)) rfl rfl)<|WR.mono (Jwc (k:=k+1) S X gW' hw nd lw) ?_);rintro _ h3 ⟨⟨I,rfl⟩,r,q,f,rfl,hq,gq,hz⟩;have e3:B++IX.lst F::g++I=B++IX.lst F::(g++I):=03;refine Qb (VC (i:=B.length) rfl (by rw[e3];exact J6) X5 (xb<|xb<|xtup<|xb<|xb<|Jd (arg2 (JY rfl rfl 01 01) rfl)<|WR.mono (Jua (k:=k+2) (H/7) n) ?_));rintro _ _ ⟨rfl,O,rfl⟩;have e4:B++IX.lst F::g++I++O=B++IX.lst F::(g++I++O):=03;have kB:KpB B.length (B++IX.lst F::g) (B++IX.lst F::(g++I++O)):=λj o _ z=>by rw[<-e4];exact grow<|grow z
   have w4:=w.kpb kB;have gq4:(B++IX.lst F::(g++I++O))[q]?=J (.lst<|r.2.map tupH):=by rw[<-e4];exact grow gq
   have hq':q≠B.length:=by rw[Z0,Zar]at hq;lia
   have ly:F.length<=6:=by have:=w.len;lia
   rw[e4];have ea:Jm (.tup [.str<|wd (H/7) n]) (.tup<|tp5 r q) (B++IX.lst F::(g++I++O))=.ok (tp6 #[{r.1 with name:=wd (H/7) n},r.2] q) (B++IX.lst F::(g++I++O)):=by simp only[Jm];rw[if_pos #[03,03,by simp;lia]];rfl
   refine xb (Jd rfl (Jd rfl #[by show(1:Nat)<=_;lia,xb<|Jd rfl (Jd ea<|xb<|Jd rfl (Jd rfl (xapp J6 05 ?_)))]));rw[VV];refine#[F++[tp6 #[{r.1 with name:=wd (H/7) n},r.2] q],rs++[#[{r.1 with name:=wd (H/7) n},r.2]],g++I++O,_,_,rfl,rfl,?_,by simp[ln],#[S,X,?_,?_],?_]
   .have kC:KpB B.length (B++IX.lst F::(g++I++O)) (B++IX.lst (F++[tp6 #[{r.1 with name:=wd (H/7) n},r.2] q])::(g++I++O)):=λj o hj z=>by rw[<-VV (IX.lst F),ZC<|ZP hj];exact z
    exact(w4.kpb kC).snoc hq'<|kC _ _ hq' gq4
   .intro s M;rw[ZZ,Z2]at M;rcases M with M|rfl
    .exact D.f s M
    .exact#[f.g1,f.g2,f.l1,f.l2,f.d1,f.d2,f.t1,f.t2,f.ok]
   .rw[ZbU,D.nm,Z0,ZaA,List.range_succ,ZbU,ln];rfl
   .intro z s M;rw[ZZ,Z2]at M;rcases M with M|rfl
    .exact hr z s M
    .exact hz<|P z
  .rintro _ _ ⟨F,rs,g,a,b,rfl,rfl,w,ln,D,hr⟩;rw[Qp]at ln;have:=xB.len;exact xret<|Jd rfl #[xB.trans<|.cons _ _ _,_,_,F,rs,H/7,G,rfl,this,J6,w,D,05,05,hr]
 cases u with|false=>exact xiff (truE rfl)<|xnil<|Q _ _ [] xA gA 03 03 (.inl rfl) (λ_=>rfl) _|true=>
  refine xift (truE rfl) (xset<|WR.mono (Qh (h:=h++[IX.lst [IV.int 4,IV.int<|10^15,IV.int<|10^15,IV.int<|10^40]]++[IX.lst []]) (xs:=rngI 0 3) (chk:=λ_=>True) (f:=wOf<|H/5) ?_ (by rw[Qp];lia) (λ_ _=>trivial) ?_) ?_)
  .rw[Xu];refine Jd (arg1 rfl) ?_;rw[Jkw];exact#[05,rfl,rfl,rfl]
  .intro x hx L q;obtain⟨n,hn,rfl⟩:=Zab.mp hx;rw[V6,show(0+(n:Int))=(n:Int) by lia];unfold Jdm;refine xb<|Jd (arg2 (JY rfl rfl 01 01) rfl)<|WR.mono (Jua (k:=k+2) (H/5) n) ?_;rintro _ h3 ⟨rfl,x3⟩;exact#[by simp[wOf],x3]
  .rintro _ _ ⟨rfl,g,rfl⟩;have em:(rngI 0 3).map (wOf<|H/5)=((ZR 3).map<|wd<|H/5).map IV.str:=by
    refine Zbl (by rw[Zj,Qp,Zj,Zj,Zbc];rfl) λi h1 L=>?_
    rw[ZX,V6,ZX,ZX,ZcA];simp[wOf]
   rw[em];refine Q _ _ ((ZR 3).map<|wd<|H/5) (xA.trans<|.cons _ _ _) J6 (λx hx=>?_) ?_ (.inr 03) (λz=>by cases z) _
   .obtain⟨j,_,rfl⟩:=Z6.mp hx;exact Jt8 _ j
   .rw[List.Nodup,ZdA];refine(ZdY (n:=3)).imp_of_mem λ{a b} ha hb hne e=>hne ?_;exact Jyl (by have:=Zaw.mp ha;lia) (by have:=Zaw.mp hb;lia) e
end
end
section
variable{k:Nat}{h h1:IH}{U:ISt}
theorem J1q(e:o U h=.ok (.ref i) h1)(j:h1[i]?=J (.dct kvs))(u:bmOf "dict" m n=J g):WR (Jq P m n o a U h) Q=WR (a U h1) λO L=>WR (g (.ref i) O L) Q:=by
 unfold Jq;rw[e];have k:VN (.ref i) h1=Zi:=by simp[VN,j]
 have B:tyS (.ref i) h1="dict":=by simp[tyS,j]
 dsimp only;rw[k,B,u];dsimp only;rw[if_neg Zt];unfold eBm;rw[e,J7,YN];have:tyOk "dict" (.ref i) h1=Zg:=by simp[tyOk,j]
 rw[if_pos this,J7]
theorem Jrb:bmOf "dict" "setdefault" 2=J VW:=02
theorem Jxa(hi:h[i]?=J (.dct kvs))(e:valI kvs (.inr x)=J w):WR (VW (.ref i) [.str x,v] h) Q=Q w h:=by unfold VW;simp only[hi,keyI,e];rfl
theorem Jw9(hi:h[i]?=J (.dct kvs))(e:valI kvs (.inr x)=Zc)(j:kvs.length<sizeLine):WR (VW (.ref i) [.str x,v] h) Q=Q v (h.set i<|.dct<|kvs++[(.inr x,v)]):=by unfold VW;simp only[hi,keyI,e,j];rfl
end
theorem Jt6(kvs:Wn)(k j:Key)(v:IV):valI (kvs++[(k,v)]) j=match valI kvs j with|some w=>J w|none=>if k=j then J v else Zc:=by
 induction kvs with
 |nil=>
  by_cases e:k=j
  .rw[Zav,QU e,if_pos e];rfl
  .rw[Zav,QH e,if_neg e];rfl
 |cons p r m=>
  by_cases e:p.1=j
  .rw[Zac,QU e,QU e]
  .rw[Zac,QH e,QH e,m]
noncomputable def has (x:Str)(hs:Ua):Bool:=hs.any λa=>decide (a.1=x)
def fstK(hss:Wk)(x:Str):Ta:=hss.findIdx?<|has x
def fV(o:Ta):IV:=match o with|some i=>.int (i:Int)|none=>.non
theorem Jr3(j:Wk)(hs:Ua)(x:Str):fstK (j++[hs]) x=match fstK j x with|some i=>J i|none=>if has x hs=Zg then J j.length else Zc:=by
 unfold fstK;rw[List.findIdx?_append];cases j.findIdx? (has x)with|some i=>rfl|none=>
  by_cases e:has x hs=Zg
  .simp
  .simp
theorem Jos(x:Str)(hs:Ua)(a:Hd):has x (hs++[a])=(has x hs||decide (a.1=x)):=by simp[has]
section
variable{k:Nat}{h:IH}
section
seal L4.run L4.WS
theorem dls:(([("works",a)]:Wm)).lookup ("size":Str)=Zc:=02
theorem Jg7(j:h[D]?=J (.ins "Duty"<|dfs O)):Jdp (k+1) [.ref D] h=.ok (.int O.length) h:=by exact Js<|by rw[Jln];exact xfin<|xret<|Jd ((cbE<|arg1<|fldE rfl j dl0).trans rfl) #[rfl,rfl]
def Told(kvs:Wn)(hss:Wk)(n:Nat)(hs:Ua):Prop:=∀x,valI kvs (.inr x)=match fstK hss x with|some i=>J<|.int (i:Int)|none=>if has x hs=Zg then J (.int (n:Int))else Zc
theorem Told.next(t:Told kvs hss n hs)(hn:hss.length=n):Told kvs (hss++[hs]) (n+1) []:=λx=>by
 subst hn;rw[t x,Jr3];cases fstK hss x with|some i=>rfl|none=>
  by_cases e:has x hs=Zg
  .simp only[e,if_true]
  .simp only[e];rfl
theorem Told.old{a:Hd}(t:Told kvs hss n hs)(e:valI kvs (.inr a.1)=J w):Told kvs hss n (hs++[a]):=λx=>by
 rw[t x];cases k:fstK hss x with|some i=>rfl|none=>
  dsimp only;rw[Jos];by_cases j:a.1=x
  .have:=t x;rw[<-j,e,j,k]at this;by_cases q:has x hs=Zg
   .simp[q]
   .lia
  .simp[j]
theorem Told.new{a:Hd}(t:Told kvs hss n hs)(e:valI kvs (.inr a.1)=Zc):Told (kvs++[(.inr a.1,.int (n:Int))]) hss n (hs++[a]):=λx=>by
 rw[Jt6,t x];cases j:fstK hss x with|some i=>rfl|none=>
  dsimp only;rw[Jos];by_cases q:has x hs=Zg
  .simp[q]
  .lia
theorem Jd0{O:Tx}{rs:Ub}{D:Nat}(H:h[D]?=J (.ins "Duty"<|dfs O))(w:AllH h O rs)(hl:rs.length<=12)(X:∀r∈rs,r.2.length<=6):
  WR (Jc4 (k+2) [.ref D] h) λv h'=>∃i kvs,v=.ref i/\h'[i]?=J (.dct kvs)/\(∀x,(valI kvs<|.inr x).getD .non=fV (fstK (rs.map (·.2)) x))/\((∀r∈rs,r.2=[])->kvs=[])/\Ex h h':=by
 have hb:=J0;have wl:=w.len;rw[Jne];refine xfin<|xseq<|xset<|Jd rfl (xseq<|xrng (n:=O.length) (dotE rfl (grow H) dls (Jcx _) rfl (Jg7<|grow H)) 05 ?_);refine Vb (λn U h'=>∃kvs g a b,h'=h++IX.dct kvs::g/\U=[J<|.ref D,J<|.ref h.length,a,b]/\kvs.length<=6*n/\Told kvs ((rs.map (·.2)).take n) n []/\((∀r∈rs,r.2=[])->kvs=[])) (λ_ _ _ _=>trivial) ?_ ?_ #[[],[],Zc,Zc,rfl,rfl,03,(λx=>by simp[valI,fstK,has]),λ_=>rfl]
 .rintro n hn _ _ ⟨kvs,g,a,b,rfl,rfl,ln,S,M⟩;rw[V6];rw[Qp]at hn;have C:n<rs.length:=05;have en:(0:Int)+(n:Int)=n:=05;obtain⟨j,ej,R⟩:=w.at_ n _ _ (Zd 05)<|Zd C;have av:atI O (n:Int)=J (.ref j):=JH<|by rw[Zd 05,ej]
  have G:=X _<|Z5 C;have hm:n<(rs.map (·.2)).length:=by rw[Zj];exact C
  have Z:(rs.map (·.2)).take (n+1)=(rs.map (·.2)).take n++[(rs[n]).2]:=by rw[Zbd hm,ZX]
  rw[Z];have Q:(∀r∈rs,r.2=[])->(rs[n]).2=[]:=λz=>z _<|Z5 C
  generalize rs[n]=r at R G Q;rw[en];have I:Ex h (h++IX.dct kvs::g):=.cons _ _ _;have Y:Jq (pg<|k+1) "work" 1 'a' (Jb 'c' Je) [J<|IV.ref D,J<|IV.ref h.length,J<|IV.int (n:Int),b] (h++IX.dct kvs::g)=.ok (.ref j) (h++IX.dct kvs::g):=by exact dotE rfl (I.get H) dlw (Jcy _) (arg1 rfl) (Jg8 (I.get H) av)
  refine xnx rfl (xfor ?_);rw[JZ];refine Jd (dotE Y (I.get R) flh (Jcz _) rfl (Jht<|I.get R))<|(Qa _).mpr #[_,grown,?_];generalize r.2=B at G Q;refine Vb (λm U h'=>∃u L,h'=h++IX.dct u::(g++[IX.lst<|B.map tupH])/\U=[J<|.ref D,J<|.ref h.length,J<|.int (n:Int),L]/\u.length<=6*n+m/\Told u ((rs.map (·.2)).take n) n (B.take m)/\(B=[]->u=kvs)) ?_ ?_ ?_ #[kvs,b,by rw[Zaa,Zac],rfl,05,S,λ_=>rfl]
  .rintro _ _ _ ⟨u,L,rfl,_⟩;rw[show h++IX.dct u::(g++[IX.lst<|B.map tupH])=(h++IX.dct u::g)++[IX.lst<|B.map tupH] by rw[Zaa,Zac],
    show(h++IX.dct kvs::g).length=(h++IX.dct u::g).length by simp]
   exact grown
  .rintro m hm _ _ ⟨u,L,rfl,rfl,V,F,_⟩;have E:m<B.length:=by simpa using hm
   have W:B≠[]:=λz=>by rw[z]at E;cases E
   rw[ZX,Zbd E];generalize B[m]=a at *;refine xnx rfl (Qb ?_);rw[J1q (i:=h.length) (h1:=h++IX.dct u::(g++[IX.lst<|B.map tupH])) rfl J6 Jrb];refine Jd (arg2 (ixtE rfl rfl JV) rfl) ?_;cases ev:valI u (.inr a.1)with|some w'=>rw[Jxa J6 ev];exact#[u,_,rfl,rfl,05,F.old ev,λz=>absurd z W]|none=>rw[Jw9 J6 ev 05,VV];exact#[_,_,rfl,rfl,by rw[Z0,ZaA];lia,F.new ev,λz=>absurd z W]
  .rintro _ _ ⟨u,L,rfl,rfl,V,F,ek⟩;rw[Zj]at V F;rw[Zba<|Zq _]at F;have P:((rs.map (·.2)).take n).length=n:=by rw[ZaH];lia
   exact#[u,_,_,_,rfl,rfl,05,F.next P,λz=>(ek<|Q z).trans<|M z]
 .rintro _ _ ⟨kvs,g,a,b,rfl,rfl,ln,S,M⟩;refine xret<|Jd rfl #[_,kvs,rfl,J6,λx=>?_,M,.cons _ _ _];have:=S x;rw[Qp,Zba<|by rw[Zj];lia]at this;rw[this];cases fstK (rs.map (·.2)) x with|some i=>rfl|none=>simp[has,fV]
end
theorem Jgo(kvs:Wn)(k m:Key)(v:IV):valI (putD kvs k v) m=if k=m then J v else valI kvs m:=by
 unfold putD;have j:∀l:Wn,(l.any λD=>decide (D.1=k))=(valI l k).isSome:=by
  intro l;induction l with|nil=>rfl|cons p r C=>
   rw[Zcr,C];by_cases e:p.1=k
   .rw[QU e];simp[e]
   .rw[QH e];simp[e]
 split
 .rename_i ha;have B:∀l:Wn,valI (l.map λD=>if D.1=k then(D.1,v)else D) m=if k=m then(if (valI l k).isSome then J v else Zc)else valI l m:=by
   intro l;induction l with|nil=>by_cases e:k=m<;>simp[valI]|cons p r C=>
    rw[ZL];by_cases e:p.1=k
    .rw[if_pos e];by_cases u:k=m
     .rw[QU (by rw[<-u];exact e),if_pos u,QU e];rfl
     .rw[QH (by rw[e];exact u),C,if_neg u,if_neg u,QH<|by rw[e];exact u]
    .rw[if_neg e];by_cases u:p.1=m
     .have:¬k=m:=λz=>e<|u.trans z.symm
      rw[QU u,if_neg this,QU u]
     .rw[QH u,C,QH e,QH u]
  rw[B,<-j,ha];simp
 .rename_i ha;have hn:valI kvs k=Zc:=by have:=j kvs;cases q:valI kvs k with|none=>rfl|some z=>rw[q]at this;exact absurd this ha
  have B:∀l:Wn,valI (l++[(k,v)]) m=match valI l m with|some w=>J w|none=>if k=m then J v else Zc:=by
   intro l;induction l with
   |nil=>
    by_cases e:k=m
    .rw[Zav,QU e,if_pos e];rfl
    .rw[Zav,QH e,if_neg e];rfl
   |cons p r C=>
    by_cases e:p.1=m
    .rw[Zac,QU e,QU e]
    .rw[Zac,QH e,QH e,C]
  rw[B];by_cases e:k=m
  .subst e;rw[hn,if_pos rfl]
  .rw[if_neg e,if_neg e];cases valI kvs m<;>rfl
theorem Juf(hi:h[i]?=J (.dct kvs)):WR (cInD (.int x) (.ref i) h) Q=Q (.bl (valI kvs<|.inl x).isSome) h:=by unfold cInD;simp only[hi];rfl
theorem Jug(hi:h[i]?=J (.dct kvs))(e:valI kvs (.inl x)=J v):WR (QQ (.ref i) (.int x) h) Q=Q v h:=by unfold QQ;simp only[hi,keyI,e];rfl
theorem Jn6(o i:E1)(v:IV):WS (gSbD o i v U h) N R=WR (o U h) λj h1=>WR (i U h1) λk L=>WS (YC j k v U L) N R:=by unfold gSbD;rw[Qw];congr 1;funext j h1;rw[Qw]
theorem Jkx(hi:h[i]?=J (.dct kvs))(j:kvs.length<sizeLine):WS (YC (.ref i) (.int x) v U h) N R=N U (h.set i<|.dct<|putD kvs (.inl x) v):=by unfold YC;simp only[hi,j];rfl
end
section
seal L4.run
theorem Jyt{α:Type}{x y z u v w:α}{xs:List α}:atI (x::y::z::u::v::w::xs) 5=J w:=JH rfl
def dH(a:Hd):Zco:=.tuple [.str a.1,.int a.2.1,.int a.2.2]
def dR(r:RH):Zco:=.tuple [.str r.1.name,.int r.1.gap,.int r.1.len,.int r.1.due,.int r.1.late,.list<|r.2.map dH]
theorem Jsx{x:Str}(q:IsNm x):ZH (.str x)=Zg:=by simp only[ZH];unfold Zfh;rw[<-ZdX,ZaY];intro c j;have:=q.2.2 c j;lia
theorem J3r{hs:Ua}(q:∀a∈hs,IsNm a.1):ZJ (hs.map dH)=Zg:=by
 induction hs with|nil=>rfl|cons a hs k=>
  have e:ZH (dH a)=Zg:=by have:=Jsx<|q a<|ZB ..;simp only[dH,ZH,ZJ]at this ⊢;rw[this];rfl
  rw[ZL,ZJ,e,k λb j=>q b<|Zr _ j];rfl
theorem J3s{rs:Ub}(q:∀r∈rs,IsNm r.1.name/\∀a∈r.2,IsNm a.1):ZJ (rs.map dR)=Zg:=by
 induction rs with|nil=>rfl|cons r rs k=>
  have e:ZH (dR r)=Zg:=by have j:=Jsx (q r<|ZB ..).1;have L:=J3r (q r<|ZB ..).2;simp only[dR,ZH,ZJ]at j ⊢;rw[j,L];rfl
  rw[ZL,ZJ,e,k λb m=>q b<|Zr _ m];rfl
theorem d_hs'{h:IH}{q n:Nat}{hs:Ua}(e:h[q]?=J (.lst<|hs.map tupH)):toD h (n+3) (.ref q)=J (.list<|hs.map dH):=by
 have:∀hs:Ua,(hs.map tupH).mapM (toD h<|n+2)=J (hs.map dH):=by intro hs;induction hs with|nil=>rfl|cons a r j=>rw[ZL,Za5,j];rfl
 rw[V9 e,this];rfl
theorem J6g{h:IH}{lo:Nat}{ys:Tx}{rs:Ub}(w:RowT h lo ys rs):ys.mapM (toD h 5)=J (rs.map dR):=by
 obtain⟨j,at_⟩:=w;induction ys generalizing rs with
 |nil=>cases rs with|nil=>rfl|cons _ _=>simp at j
 |cons y ys u=>
  cases rs with
  |nil=>simp at j
  |cons r rs=>
   obtain⟨q,e,_,g⟩:=at_ 0 y r rfl rfl;have B:toD h 5 y=J (dR r):=by rw[e];show((IV.str r.1.name::tp5 r q).mapM<|toD h 4).map Zdq=J (dR r);simp only[Za5,d_hs' g];rfl
   rw[Za5,B,u (by simpa using j) λi k m a b=>at_ (i+1) k m a b];rfl
structure Cm where
 at_:Nat
 come:Int
 late:Int
 len:Int
abbrev _root_.Uc:=List Cm
noncomputable abbrev tupC (c:Cm):IV:=.tup [.int c.at_,.int c.come,.int c.late,.int c.len]
structure COk(rs:Ub)(c:Cm):Prop where
 at_:c.at_<rs.length
 come:0<=c.come
 l0:0<=c.late
 l1:c.late<=(rs[c.at_]).1.late
 n1:1<=c.len
 n2:c.len<=(rs[c.at_]).1.len
structure Legal(rs:Ub)(cs:Uc):Prop where
 ok:∀c∈cs,COk rs c
 far:∀(i j:Nat)(a b:Cm),i<j->cs[i]?=J a->cs[j]?=J b->a.at_=b.at_->∀r,rs[a.at_]?=J r->a.come+r.1.gap<=b.come
structure Lst(kvs:Wn)(cs:Uc):Prop where
 no:∀n:Nat,valI kvs (.inl (n:Int))=Zc->∀c∈cs,c.at_≠n
 yes:∀(n:Nat) v,valI kvs (.inl (n:Int))=J v->∃x,v=.int x/\0<=x/\∀c∈cs,c.at_=n->c.come<=x
def gOf(v:IV):IV:=match v with|.tup (_::g::_)=>g|_=>.non
theorem RowT.mapG{h:IH}{lo:Nat}{ys:Tx}{rs:Ub}(w:RowT h lo ys rs){F:IV->IV}{g:RH->IV}(k:∀r q,F (tp6 r q)=g r):ys.map F=rs.map g:=by
 have m:=w.len;refine Zbl (by simp[m]) λi j L=>?_
 rw[Zj]at j L;rw[ZX,ZX];obtain⟨q,e,_,_⟩:=w.at_ i _ _ (Zd j)<|Zd L;rw[e];exact k _ q
structure RI(h h':IH)(cs:Uc)(kvs:Wn):Prop where
 r:h'[h.length]?=J (.lst<|cs.map tupC)
 d:h'[h.length+1]?=J (.dct kvs)
 kp:Kp h h'
theorem RI.ex{h h1 L:IH}{cs:Uc}{kvs:Wn}(R:RI h h1 cs kvs)(x:Ex h1 L):RI h L cs kvs:=#[x.get R.r,x.get R.d,R.kp.trans x.kp]
theorem Jzc{h h':IH}(k:Kp h h'):Ex h h':=by
 refine#[h'.drop h.length,Zbs λi=>?_];by_cases j:i<h.length
 .rw[Z8 j,Zd j];exact k i _<|Zd j
 .rw[ZK 05,List.getElem?_drop];congr 1;lia
theorem RI.ex0{h h1:IH}{cs:Uc}{kvs:Wn}(R:RI h h1 cs kvs):Ex h h1:=Jzc R.kp
section
variable{k:Nat}{h:IH}
theorem Jnq{S j lo:Nat}{ys:Tx}{rs:Ub}(D:h[S]?=J (.lst ys))(w:RowT h lo ys rs)(q:∀r∈rs,IsNm r.1.name/\∀a∈r.2,IsNm a.1)(u:h[j]?=J (.lst [])):cEq (.ref S) (.ref j) h=.ok (.bl rs.isEmpty) h:=by
 have C:toD h 6 (.ref S)=J (.list<|rs.map dR):=by rw[V9 D,J6g w];rfl
 have k:toD h 6 (.ref j)=J (.list []):=by rw[V9 u];rfl
 have B:Qm (.ref S) (.ref j) h=J rs.isEmpty:=by unfold Qm;rw[C,k];dsimp only;rw[if_pos #[by rw[ZH];exact J3s q,by rw[ZH,ZJ]],Zbz];cases rs with|nil=>rw[Zeu,Zbv];rfl|cons a E=>rw[ZL,Zbv];rfl;all_goals intros;simp_all
 unfold cEq;have m:Vt (.ref S) (.ref j)=Zc:=rfl;rw[m];dsimp only;rw[B]
theorem J1z{i:Nat}{j:Tq}{Q:IV->IH->Prop}(hi:h[i]?=J (.lst<|j.map .int))(hm:j≠[]):WR (XI (.ref i) h) Q=Q (.int<|JX (λi=>j.getD i 0) j.length) h:=by unfold XI;simp only[hi,Vl,hm];rfl
def RwI(h:IH)(C S:Nat)(T:Int)(rs:Ub)(n:Nat)(U:ISt)(h':IH):Prop:=∃cs kvs a5 a6 a7 a8 a9 a10 a11 a12 a13 a14 a15,RI h h' cs kvs/\U=[J<|.ref C,J<|.ref S,J<|.ref h.length,J<|.ref<|h.length+1,J<|.int<|3*T,a5,a6,a7,a8,a9,a10,a11,a12,a13,a14,a15]/\cs.length=n/\kvs.length<=n/\Legal rs cs/\Lst kvs cs
theorem Jwf{k:Nat}{h h1:IH}{S C n:Nat}{ys:Tx}{rs:Ub}{c unit T y:Int}{cs:Uc}{kvs:Wn}{a5 a6 a7 a8 a9 a10 a11 a12 a13 a14 a15:Tg}{P:IV->IH->Prop}(hS:h[S]?=J (.lst ys)){lo:Nat}(w:RowT h lo ys rs)(D:Dr c unit rs)(pos:0<rs.length)(hn:n<=64)(top:∀r∈rs,r.1.gap<=T)
  (R:RI h h1 cs kvs)(lc:cs.length=n)(lk:kvs.length<=n)(hJ:Legal rs cs)(Z_:Lst kvs cs):
  WS (Jfx (k+1) [J<|.ref C,J<|.ref S,J<|.ref h.length,J<|.ref<|h.length+1,J<|.int<|3*T,J<|.int y,a6,a7,a8,a9,a10,a11,a12,a13,a14,a15] h1) (RwI h C S T rs<|n+1) P:=by
 have hb:=J0;have wl:=w.len;have sl:=JC hS;refine xseq<|xset<|xb<|Jd (arg2 rfl rfl)<|WR.mono (Jmq (k:=k) y 6 01) ?_;rintro _ L ⟨X,xs,rfl,_,E,lx,hx,e2⟩;have R:=R.ex e2;match xs,lx,E,hx with
 |[y0,y1,y2,y3,y4,y5],_,E,hx=>
 clear hx;have E:L[X]?=J (.lst [.int y0,.int y1,.int y2,.int y3,.int y4,.int y5]):=E;have pl':(0:Int)<(ys.length:Int):=05;obtain⟨m,em⟩:∃m:Nat,y0%(ys.length:Int)=m:=#[(y0%(ys.length:Int)).toNat,by have:=ZQ y0 (b:=(ys.length:Int)) 05;lia];have H:m<rs.length:=by have:=ZG y0 pl';lia
 have er:=Zd H;have f:=D.f _<|Z5 H;have tg:=top _<|Z5 H;generalize hrr:rs[m]=r at er f tg;obtain⟨q,ey,_⟩:=w.get er;have ay:atI ys (m:Int)=J (tp6 r q):=JH ey;have gS2:=R.kp _ _ hS;have f1:=f.g1;have f2:=f.l1;have f3:=f.t1;have f4:=f.t2;have u1:=D.u1;have g0:0<r.1.gap:=05;have v1:=ZQ y1 (b:=r.1.late+1) 05;have v2:=ZG y1 (b:=r.1.late+1) 05;have v3:=ZQ y3 (b:=r.1.gap) 05;have v4:=ZG y3 g0;have v5:=ZQ y3 (b:=1+r.1.gap) 05;have v6:=ZQ y5 (b:=r.1.len) 05;have v7:=ZG y5 (b:=r.1.len) 05;obtain⟨Z,M,ew⟩:=pk (n:=3) (y:=y2) [r.1.late,0,y1%(r.1.late+1)] rfl 01;obtain⟨sh,sh1,es⟩:=pk (n:=3) (y:=y4) [0,y3%r.1.gap,0-y3%r.1.gap] rfl 01;obtain⟨mo,mo1,eo⟩:=pk (n:=2) (y:=y4) [0,y3%(1+r.1.gap)] rfl 01;obtain⟨ll,I,el⟩:=pk (n:=3) (y:=y4/6) [r.1.len,r.1.len,1+y5%r.1.len] rfl 01;simp only[ZA,Zad,or_false]at M sh1 mo1 I;have M:0<=Z/\Z<=r.1.late:=05;have sh1:0-r.1.gap<sh/\sh<r.1.gap:=05;have mo1:0<=mo:=05;have I:1<=ll/\ll<=r.1.len:=05;clear v1 v2 v3 v4 v5 v6 v7;refine xseq<|xset<|Jd (okc (modE (ixlE rfl rfl E JV) (lenE rfl gS2) pl')<|congrArg IV.int em)<|xseq<|(Ya ..).mpr<|Jd (ixlE rfl rfl gS2 ay)<|xnx rfl (xseq<|xset<|Jd (pkE (arg3 rfl rfl (modE (ixlE rfl rfl E JN) (addE rfl rfl) 05)) rfl (modE (ixlE rfl rfl (grow E) Qd) rfl 01) ew) ?_);refine xseq<|xset<|Jd (addE (subE rfl rfl)<|pkE (arg3 rfl (modE (ixlE rfl rfl (grow E) Ve) rfl g0) (subE rfl (modE (ixlE rfl rfl (grow E) Ve) rfl g0))) rfl (modE (ixlE rfl rfl (grow<|grow E) X4) rfl 01) es) ?_;have x5:Ex L (L++[IX.lst [IV.int r.1.late,IV.int 0,IV.int<|y1%(r.1.late+1)]]++[IX.lst [IV.int 0,IV.int<|y3%r.1.gap,IV.int<|0-y3%r.1.gap]]):=(Ex.one _ _).trans<|.one _ _;generalize L++[IX.lst [IV.int r.1.late,IV.int 0,IV.int<|y1%(r.1.late+1)]]++[IX.lst [IV.int 0,IV.int<|y3%r.1.gap,IV.int<|0-y3%r.1.gap]]=Y at x5 ⊢;have R5:=R.ex x5;have gX5:=x5.get E;have O:∀(h3:IH)(come:Int),Ex L h3->0<=come->(∀c∈cs,c.at_=m->c.come+r.1.gap<=come) ->
   WS (Jf (sAsg 'p'<|gSbD 'd' 'h') (JA<|Jq (pg<|k+1) "append" 1 'c'<|Jb (Jz<|Jb 'h'<|Jb 'p'<|Jb 'o'<|Jb (Jc Jg (Jx<|Jb 'k'<|Jb 'k'<|Jb (Jc Jm '1'<|Jc Ju (Jc Jg 'g' '5') 'k') Je)<|Jc Ju (Jc JG (Jc Jg 'g' '4') '6') '3') Je) Je)
    [J<|.ref C,J<|.ref S,J<|.ref h.length,J<|.ref<|h.length+1,J<|.int<|3*T,J<|.int y,J<|.ref X,J<|.int (m:Int),J<|.str r.1.name,J<|.int r.1.gap,J<|.int r.1.len,J<|.int r.1.due,J<|.int r.1.late,J<|.ref q,J<|.int Z,J<|.int come] h3)
    (RwI h C S T rs<|n+1) P:=by
   intro h3 come x3 c0 cf;have R3:=R.ex x3;have ld:h.length+1<h3.length:=JC R3.d;refine xseq<|(Ya ..).mpr<|Jd rfl ?_;rw[Jn6];refine Jd rfl (Jd rfl ?_);rw[Jkx R3.d<|show kvs.length<sizeLine by lia];generalize hh4:h3.set (h.length+1) (.dct<|putD kvs (.inl (m:Int))<|.int come)=h4;have kd:KpB (h.length+1) h3 h4:=λj o hj z=>by rw[<-hh4,ZC<|ZP hj];exact z
   have gd4:h4[h.length+1]?=J (.dct<|putD kvs (.inl (m:Int))<|.int come):=by rw[<-hh4,ZE ld]
   have W:=kd _ _ 05 R3.r;have gX4:h4[X]?=J (.lst [.int y0,.int y1,.int y2,.int y3,.int y4,.int y5]):=by refine kd _ _ (λz=>?_)<|x3.get E;have:=x3.get E;rw[z,R3.d]at this;cases this
   refine Qb (VC rfl W X5 (Jd (arg1<|tupE (arg4 rfl rfl rfl (pkE (arg3 rfl rfl (addE rfl (modE (ixlE rfl rfl gX4 Jyt) rfl 05))) rfl (modE (JY (ixlE rfl rfl (grow gX4) X4) rfl 01 01) rfl 01) el)) rfl)<|xapp (grow W) (by rw[Zj];lia) ?_));refine#[cs++[#[m,come,Z,ll]],putD kvs (.inl (m:Int))<|.int come,_,_,_,_,_,_,_,_,_,_,_,#[?_,?_,?_],rfl,by simp[lc],?_,#[?_,?_],#[?_,?_]]
   .rw[ZE (by rw[Z0];have:=JC W;lia)];simp
   .rw[ZC 05];exact grow gd4
   .intro j o z;have lj:=JC z;rw[ZC 05];exact grow<|kd _ _ 05<|R3.kp _ _ z
   .unfold putD;split
    .simp;lia
    .simp;lia
   .intro G u;rw[ZZ,Z2]at u;rcases u with u|rfl
    .exact hJ.ok G u
    .exact#[H,c0,M.1,by show Z<=(rs[m]).1.late;rw[hrr];exact M.2,I.1,by show ll<=(rs[m]).1.len;rw[hrr];exact I.2]
   .intro i j a b hij ha F U r' B;by_cases hj:j<cs.length
    .rw[Z8 hj]at F;rw[Z8 05]at ha;exact hJ.far i j a b hij ha F U r' B
    .have lj:=(Zo.mp F).1;rw[Z0,ZaA]at lj;obtain rfl:j=cs.length:=05;rw[ZK<|Zq _,Zev]at F;cases F;rw[Z8 05]at ha;have:r'=r:=by rw[U]at B;have B:rs[m]?=J r':=B;rw[er]at B;cases B;rfl
     rw[this];exact cf a (Zb9 ha) U
   .intro Q e G u;rw[Jgo]at e;split at e
    .cases e
    .rename_i V;rw[ZZ,Z2]at u;rcases u with u|rfl
     .exact Z_.no Q e G u
     .exact λz=>V (by rw[show m=Q from z])
   .intro Q v e;rw[Jgo]at e;split at e
    .rename_i heq;cases e;have en:(m:Int)=Q:=Sum.inl.inj heq;have en:m=Q:=05;refine#[come,rfl,c0,λG u ec=>?_];rw[ZZ,Z2]at u;rcases u with u|rfl
     .have:=cf G u<|by rw[ec,en]
      lia
     .exact ZcZ _
    .rename_i V;obtain⟨x,e1,e2,e3⟩:=Z_.yes Q v e;refine#[x,e1,e2,λG u ec=>?_];rw[ZZ,Z2]at u;rcases u with u|rfl
     .exact e3 G u ec
     .exact absurd (by rw[show m=Q from ec]) V
 cases ev:valI kvs (.inl (m:Int))with
 |none=>
  have eI:cInD (.int (m:Int)) (.ref<|h.length+1) Y=.ok (.bl Zi) Y:=Js<|by rw[Juf R5.d,ev];exact#[rfl,rfl]
  exact xseq<|xiff (tofE<|(binE rfl rfl).trans eI)<|xnil<|O Y (3*T-Z+sh) x5 05 λG u z=>absurd z<|Z_.no m ev G u
 |some v=>
  obtain⟨x,rfl,x0,xc⟩:=Z_.yes m v ev;have eI:cInD (.int (m:Int)) (.ref<|h.length+1) Y=.ok (.bl Zg) Y:=Js<|by rw[Juf R5.d,ev];exact#[rfl,rfl]
  have eX:QQ (.ref<|h.length+1) (.int (m:Int)) Y=.ok (.int x) Y:=Js<|by rw[Jug R5.d ev];exact#[rfl,rfl]
  refine xseq<|xift (tofE<|(binE rfl rfl).trans eI)<|xset<|Jd (addE (addE ((binE rfl rfl).trans eX) rfl)<|pkE (arg2 rfl (modE (ixlE rfl rfl gX5 Ve) (addE rfl rfl) 05)) rfl (modE (ixlE rfl rfl (grow gX5) X4) rfl 01) eo) ?_;exact O _ (x+r.1.gap+mo) (x5.trans<|.one _ _) 05 λG u z=>by have:=xc G u z;lia
theorem J4o{S C lo:Nat}{cells:Tq}{ys:Tx}{rs:Ub}{c B:Int}(Y:h[S]?=J (.lst ys))(w:RowT h lo ys rs)(D:Dr c B rs)(u:rs.length<=7)(hC:h[C]?=J (.lst<|cells.map .int))(hc:cells.length<=64):
  WR (Jgq (k+2) [.ref C,.ref S] h) λv h'=>∃R cs,v=.ref R/\h.length<=R/\h'[R]?=J (.lst<|cs.map tupC)/\Legal rs cs/\cs.length<=cells.length/\Ex h h':=by
 have hb:=J0;have wl:=w.len;have G:=D.gd u;have P:∀r∈rs,IsNm r.1.name/\∀a∈r.2,IsNm a.1:=λr u=>#[(G.f r u).nm,λa ha=>((G.f r u).ok.each a ha).1]
 have E:Ex h (h++[IX.lst []]++[IX.dct []]++[IX.lst []]):=(Ex.one _ _).trans<|(Ex.one _ _).trans<|.one _ _;rw[Jpz];refine xfin<|xseq<|xset<|Jd (lstE rfl rfl)<|xseq<|xset<|Jd rfl (xseq ?_);have e0:=Jnq (E.get Y) (w.kp E.kp) P grown;cases rs with|nil=>exact xift (tofE<|(binE rfl (lstE rfl rfl)).trans e0) (xret<|Jd rfl #[_,[],rfl,Zq _,grow<|grow grown,#[03,λi j a b _ e=>by simp at e],03,E])|cons r0 H=>
 have m:0<(r0::H).length:=03;refine xiff (tofE<|(binE rfl (lstE rfl rfl)).trans e0)<|xnil<|xseq<|xset ?_;generalize r0::H=rs at *;have gm:=w.mapG (F:=gOf) λr q=>rfl
 have I:=E.get Y;refine xb<|Jd rfl (xb<|xb<|xb ?_);refine WR.mono (Qh (xs:=ys) (f:=gOf) ?_ 05 (λL q=>q _ _ I) ?_) ?_
 .rw[JZ];exact Jd rfl ((Qa _).mpr #[_,I,rfl,rfl,rfl])
 .intro v hv L q;obtain⟨n,hn,rfl⟩:=Zab.mp hv;obtain⟨q,e,_,_⟩:=w.at_ n _ _ (Zd hn) (Zd<|show n<rs.length by lia);rw[e];exact Jd (ixtE rfl rfl JN) #[rfl,.refl _]
 rintro _ _ ⟨rfl,g,rfl⟩;have em:rs.map (λr=>IV.int r.1.gap)=(rs.map λr=>r.1.gap).map IV.int:=03;rw[gm,em];have hm:(rs.map λr=>r.1.gap)≠[]:=λe=>by rw[List.map_eq_nil_iff]at e;rw[e]at m;simp at m
 have M:Ex (h++[IX.lst []]++[IX.dct []]++[IX.lst []]) (h++[IX.lst []]++[IX.dct []]++[IX.lst []]++IX.lst ((rs.map λr=>r.1.gap).map IV.int)::g):=.cons _ _ _;refine xb<|Jd rfl (Jd rfl ?_);rw[Jym,J1z J6 hm];have top:∀r∈rs,r.1.gap<=JX (λi=>(rs.map λr=>r.1.gap).getD i 0) (rs.map λr=>r.1.gap).length:=λr u=>by
  obtain⟨j,hj,rfl⟩:=Zab.mp u;have:=Jya (λi=>(rs.map λr=>r.1.gap).getD i 0) (rs.map λr=>r.1.gap).length j<|by simpa using hj
  have e:(rs.map λr=>r.1.gap).getD j 0=(rs[j]).1.gap:=by rw[Zx,Z4,Zd hj];rfl
  rw[<-e];exact this
 generalize JX (λi=>(rs.map λr=>r.1.gap).getD i 0) (rs.map λr=>r.1.gap).length=T at top;have gR:=M.get<|grow<|grow grown;have gD:=M.get<|grow grown;have lD:(h++[IX.lst []]).length=h.length+1:=03;rw[lD]at gD ⊢;have k2:=(E.trans M).kp;generalize h++[IX.lst []]++[IX.dct []]++[IX.lst []]++IX.lst ((rs.map λr=>r.1.gap).map IV.int)::g=hA at gR gD k2 ⊢;refine xmul (.inl 01)<|xseq<|xfor ?_;rw[JZ];refine Jd rfl ((Qa _).mpr #[_,k2 _ _ hC,?_]);refine Vb (RwI h C S T rs)
  (λn U h' q=>by obtain⟨_,_,_,_,_,_,_,_,_,_,_,_,_,R,_⟩:=q;exact R.kp _ _ hC) ?_ ?_ #[[],[],Zc,Zc,Zc,Zc,Zc,Zc,Zc,Zc,Zc,Zc,Zc,#[gR,gD,k2],rfl,rfl,Zq _,#[03,λi j a b _ e=>by simp at e],#[03,λn v e=>by cases e]]
 .rintro n hn _ h1 ⟨cs,kvs,a5,a6,a7,a8,a9,O,Z,a12,X,V,W,R,rfl,Q,lk,hJ,Z_⟩;rw[Zj]at hn;rw[ZX];exact xnx rfl (Jwf (a5:=a5) Y w D m 05 top R Q lk hJ Z_)
 .rintro _ h1 ⟨cs,kvs,a5,a6,a7,a8,a9,O,Z,a12,X,V,W,R,rfl,Q,lk,hJ,Z_⟩;rw[Zj]at Q;exact xret<|Jd rfl #[_,cs,rfl,Zq _,R.r,hJ,05,R.ex0]
end
end
theorem Jxv(q:IsNm x):ZH (.str x)=Zg:=by rw[ZH];unfold Zfh;rw[<-ZdX,ZaY];intro c j;have:=q.2.2 c j;lia
noncomputable def actv (d:Int)(a:Hd):Bool:=decide (a.2.1<d)&&decide (d<a.2.2)
def act(hs:Ua)(d:Int):Tl:=(hs.filter<|actv d).map (·.1)
noncomputable def avV (d:Int)(v:IV):Bool:=match v with|.tup [.str _,.int s,.int e]=>decide (s<d)&&decide (d<e)|_=>Zi
noncomputable def frs (v:IV):IV:=match v with|.tup (x::_)=>x|_=>.non
theorem Jqx(d:Int):∀hs:Ua,((hs.map tupH).filter<|avV d).map frs=(act hs d).map IV.str
 |[]=>rfl
 |a::hs=>by
  have k:=Jqx d hs;unfold act at *;rw[ZL];by_cases q:actv d a=Zg
  .have j:avV d (tupH a)=Zg:=q;rw[ZdZ j,ZdZ q,ZL,ZL,ZL,k];rfl
  .have j:¬avV d (tupH a)=Zg:=q;rw[Zea j,Zea q,k]
theorem Jyq(hs:Ua)(d:Int):(act hs d).length<=hs.length:=by unfold act;rw[Zj];exact Zbk ..
theorem Jyr(h:x∈act hs d):∃a∈hs,a.1=x:=by obtain⟨a,ha,rfl⟩:=Z6.mp h;exact#[a,(Zbe.mp ha).1,rfl]
theorem Jxi(f:Nat->Int):∀(n j:Nat),j<n->QA f n<=f j
 |0,j,h=>05
 |1,j,h=>by have:j=0:=05;subst this;exact ZcZ _
 |n+2,j,h=>by
  rw[Jfd f (by lia:0<n+1)];by_cases e:j=n+1
  .subst e;split<;>lia
  .have:=Jxi f (n+1) j 05;split<;>lia
theorem Jrc(f:Nat->Int):∀(n:Nat),0<n->∃j,j<n/\QA f n=f j
 |0,h=>05
 |1,_=>#[0,05,rfl]
 |n+2,_=>by
  rw[Jfd f (by lia:0<n+1)];obtain⟨j,k,e⟩:=Jrc f (n+1) 05;split
  .lia
  .exact#[j,05,e]
def hit(zs:Tl)(hs:Ua):Bool:=hs.any λb=>zs.any λz=>decide (z=b.1)
def fZ(hss:Wk)(x:Str):Int:=match fstK hss x with|some j=>(j:Int)|none=>0
def rkNs(hss:Wk)(zs:Tl)(a:Nat):Tq:=(a:Int)::zs.map (fZ hss)
def rk(hss:Wk)(zs:Tl)(a:Nat):Int:=QA (λi=>(rkNs hss zs a).getD i 0) (rkNs hss zs a).length
def fstV(hss:Wk)(v:IV):IV:=match v with|.str t=>.int<|fZ hss t|_=>.non
section
variable{k:Nat}{h:IH}
theorem Juj{ns:Tq}(hi:h[i]?=J (.lst<|ns.map .int))(hn:ns≠[]):WR (VQ (.ref i) h) Q=Q (.int<|QA (λi=>ns.getD i 0) ns.length) h:=by unfold VQ;simp only[hi,Vl];rw[if_neg hn];rfl
theorem J1u(hi:h[i]?=J (.dct kvs))(e:valI kvs (.inr x)=J v):WR (QQ (.ref i) (.str x) h) Q=Q v h:=by unfold QQ;simp only[hi,keyI,e];rfl
theorem chTT(m:a U h=.ok (.int i) h)(k:b U h=.ok (.int j) h)(u:c U h=.ok (.int l) h):JJ cLt cLt a b c U h=.ok (.bl<|decide (i<j)&&decide (j<l)) h:=by unfold JJ;rw[m];dsimp only[Res.bind];rw[k];show(match IV.bl (decide (i<j))with|.bl Zg=>_|.bl Zi=>_|_=>_)=_;cases decide (i<j)with|false=>rfl|true=>show(c U h).bind _=_;rw[u];rfl
section
seal L4.run L4.WS
theorem Jmr{gap len due late d:Int}{hs:Ua}(j:h[w]?=J (.ins "Work"<|wfs name gap len due late<|hs.map tupH))(l6:hs.length<=6):WR (Ja1 (k+2) [.ref w,.int d] h) λv h'=>∃i,v=.ref i/\h.length<=i/\h'[i]?=J (.lst<|(act hs d).map .str)/\Ex h h':=by
 have m:=J0;rw[Jie];refine xfin (xret<|WR.mono (YM (h:=h++[IX.lst<|hs.map tupH]) (xs:=hs.map tupH) (chk:=λh'=>h'[h.length]?=J (.lst<|hs.map tupH)) (p:=avV d) (f:=frs) ?_ (by rw[Zj];lia) (λL q=>q _ _ grown) ?_ ?_) ?_)
 .rw[JZ];exact Jd (dotE rfl j flh (Jcz _) rfl (Jht j))<|(Qa _).mpr #[_,grown,rfl,rfl,rfl]
 .intro v hv L q;obtain⟨a,_,rfl⟩:=Z6.mp hv;exact Jd (tofE<|chTT (ixtE rfl rfl JN) rfl (ixtE rfl rfl Qd)) #[rfl,.refl _]
 .intro v hv _ L q;obtain⟨a,_,rfl⟩:=Z6.mp hv;exact Jd (ixtE rfl rfl JV) #[rfl,.refl _]
 .rintro _ _ ⟨rfl,g,rfl⟩;rw[Jqx];exact#[_,rfl,by rw[Z0];lia,J6,(Ex.one _ _).trans<|.cons _ _ _]
end
section
seal L4.run L4.WS
theorem Js0{a i t:Nat}{zs:Tl}(E:h[i]?=J (.lst<|zs.map .str))(gt:h[t]?=J (.dct kvs))(tv:∀x,(valI kvs<|.inr x).getD .non=fV (fstK hss x))(H:∀z∈zs,fstK hss z≠Zc)(I:zs.length<=6):WR (Ji6 (k+1) [.int (a:Int),.ref i,.ref t] h) λv h'=>v=.int (rk hss zs a)/\Ex h h':=by
 have L:=J0;have m:Ex h (h++[IX.lst [IV.int (a:Int)]]):=.one _ _;obtain⟨_,_,B,rfl,g,rfl⟩:=(Qh (it:=Jv 'b') (e:=Jft k) (js:=[2]) (U:=[J<|.int (a:Int),J<|.ref i,J<|.ref t]) (h0:=h++[IX.lst [IV.int (a:Int)]]) (h:=h++[IX.lst [IV.int (a:Int)]]) (xs:=zs.map IV.str) (chk:=λh'=>h'[i]?=J (.lst<|zs.map IV.str)) (f:=fstV hss) (by rw[JZ];exact Jd rfl ((Qa _).mpr #[_,m.get E,rfl,rfl,rfl])) (by rw[Zj];lia) (λG q=>q _ _<|m.get E) (by
  intro v hv G q;obtain⟨x,hx,rfl⟩:=Z6.mp hv;have j:=tv x;have ne:=H x hx;cases u:fstK hss x with|none=>exact absurd u ne|some D=>
   rw[u]at j;have F:valI kvs (.inr x)=J (.int (D:Int)):=by cases ev:valI kvs (.inr x)with|none=>rw[ev]at j;cases j|some v=>rw[ev]at j;rw[show v=.int (D:Int)from j]
   exact Jd ((binE rfl rfl).trans<|Js<|by rw[J1u (q _ _<|m.get gt) F];exact#[rfl,rfl]) #[by simp only[fstV,fZ,u],.refl _])).eq
 rw[show(zs.map IV.str).map (fstV hss)=(zs.map<|fZ hss).map IV.int by rw[Zah,Zah];rfl]at B;have C:Ex (h++[IX.lst [IV.int (a:Int)]]) (h++[IX.lst [IV.int (a:Int)]]++IX.lst ((zs.map<|fZ hss).map IV.int)::g):=.cons _ _ _;rw[Jr6];refine xfin<|xret ?_;rw[J5l];refine Jd (arg1<|(binE (lstE (arg1 rfl) rfl) B).trans<|Js<|(YK ..).mpr #[_,C.get grown,_,J6,by rw[Zj,Zj];show 1+_<=_;lia,rfl,rfl]) ?_;show WR (VQ (.ref _) _) _;rw[show[IV.int (a:Int)]++(zs.map<|fZ hss).map IV.int=(rkNs hss zs a).map IV.int from rfl,Juj (ns:=rkNs hss zs a) grown<|by simp[rkNs]];exact#[rfl,(m.trans C).trans<|.one _ _]
theorem Jyp{rs:Ub}{a:Nat}(ha:a<rs.length){d:Int}:∀z∈act (rs[a]).2 d,fstK (rs.map (·.2)) z≠Zc:=λz q=>by obtain⟨b,j,rfl⟩:=Jyr q;intro e;unfold fstK at e;rw[Zb5]at e;have:=e (rs[a]).2 (Z6.mpr #[rs[a],Z5 ha,rfl]);unfold has at this;have t2:((rs[a]).2.any λx=>decide (x.1=b.1))=Zg:=ZcU.mpr #[b,j,03];rw[t2]at this;cases this
abbrev ofs(D T:Nat):Wm:=[("duty",.ref D),("tops",.ref T)]
abbrev ofs1(D:Nat):Wm:=[("duty",.ref D)]
theorem op0:putI "duty" a ([]:Wm)=([("duty",a)]:Wm):=02
theorem op1:putI "tops" b ([("duty",a)]:Wm)=([("duty",a),("tops",b)]:Wm):=02
theorem ol0{D T:Nat}:(ofs D T).lookup ("duty":Str)=J (.ref D):=02
theorem ol1{D T:Nat}:(ofs D T).lookup ("tops":Str)=J (.ref T):=02
theorem olr{D T:Nat}:(ofs D T).lookup ("rank_of":Str)=Zc:=02
theorem olh{D T:Nat}:(ofs D T).lookup ("holds":Str)=Zc:=02
theorem ql0:(ofs1 D).lookup ("duty":Str)=J (.ref D):=02
theorem qlr:(ofs1 D).lookup ("rank_of":Str)=Zc:=02
theorem qlh:(ofs1 D).lookup ("holds":Str)=Zc:=02
def IsOr(h:IH)(kind:Int)(kD:Nat)(rs:Ub):Prop:=∃D,IsDu h D rs/\((kind=1/\h[kD]?=J (.ins "ByDue"<|ofs1 D))\/(kind=2/\h[kD]?=J (.ins "ByComing"<|ofs1 D)) \/ (kind=0/\∃T kvs,h[kD]?=J (.ins "ByRank"<|ofs D T)/\h[T]?=J (.dct kvs)/\∀x,(valI kvs<|.inr x).getD .non=fV (fstK (rs.map (·.2)) x)))
theorem IsOr.kp(k:Kp h h')(o:IsOr h kind kD rs):IsOr h' kind kD rs:=by obtain⟨D,d,o⟩:=o;refine#[D,d.kp k,o.imp (λ⟨a,b⟩=>#[a,k _ _ b])<|Or.imp (λ⟨a,b⟩=>#[a,k _ _ b]) λ⟨a,T,j,b,c,d⟩=>#[a,T,j,k _ _ b,k _ _ c,d]]
theorem Jfl(j:h[kD]?=J (.ins c [])):Yd (k+1) [.ref kD,.ref D] h=.ok .non (h.set kD<|.ins c<|ofs1 D):=by refine Js ?_;rw[Jj3];refine xfin<|QJ rfl rfl j 01 ?_;rw[op0];exact#[rfl,rfl]
theorem J3t(j:a U h=.ok (.ref i) h1)(g:h1[i]?=J (.dct kvs)):eCB (on1 Xm) (Jb a Je) U h=.ok (.int kvs.length) h1:=by refine(cbE<|arg1 j).trans ?_;show Xm (.ref i) h1=_;unfold Xm;simp only[g]
theorem Jho(d:IsDu h D rs)(j:rs.length<=12)(no:∀r∈rs,r.2=[]):WR (Ym (k+3) [.ref D] h) λv h'=>v=.non/\Ex h h':=by obtain⟨O,G,w⟩:=d;obtain⟨_,H,E,i,u,rfl,C,_,m,F⟩:=(Jd0 (k:=k) G w j λr B=>by rw[no r B];exact ZN _).eq;obtain rfl:=m no;rw[Jc1];exact xfin<|xiff (okc (gtE (J3t (Jn (arg1 rfl) E) C) rfl) rfl)<|xnil #[rfl,F]
theorem Ju0{kind:Int}(d:IsDu h D rs)(u:rs.length<=12)(no:∀r∈rs,r.2=[]):WR (Jbf (k+4) [.ref h.length,.ref D]<|h++[.ins "ByDue" []]) λv h'=>v=.non/\Ex h h'/\IsOr h' 1 h.length rs:=by obtain⟨_,_,m,rfl,g,rfl⟩:=(Jho (k:=k) (d.kp (Ex.one h<|IX.ins "ByDue" []).kp) u no).eq;have B:(h++[IX.ins "ByDue" []]++g)[h.length]?=J (.ins "ByDue" []):=grow grown;have j:=Jfl (k:=k+2) (D:=D) B;rw[Zaa,Zac,Zav,VV]at j;rw[Zaa,Zac,Zav]at m;rw[Je1];exact xfin<|xseq<|Qb<|Jd (Jn (arg1 rfl) m)<|Qb<|Jd (Jn (arg2 rfl rfl) j) #[rfl,.cons _ _ _,D,d.kp (Ex.cons _ _ _).kp,.inl #[rfl,J6]]
theorem Jna(d:IsDu h D rs)(u:rs.length<=12)(no:∀r∈rs,r.2=[]):WR (Jal (k+4) [.ref h.length,.ref D]<|h++[.ins "ByComing" []]) λv h'=>v=.non/\Ex h h'/\IsOr h' 2 h.length rs:=by obtain⟨_,_,m,rfl,g,rfl⟩:=(Jho (k:=k) (d.kp (Ex.one h<|IX.ins "ByComing" []).kp) u no).eq;have B:(h++[IX.ins "ByComing" []]++g)[h.length]?=J (.ins "ByComing" []):=grow grown;have j:=Jfl (k:=k+2) (D:=D) B;rw[Zaa,Zac,Zav,VV]at j;rw[Zaa,Zac,Zav]at m;rw[Jcn];exact xfin<|xseq<|Qb<|Jd (Jn (arg1 rfl) m)<|Qb<|Jd (Jn (arg2 rfl rfl) j) #[rfl,.cons _ _ _,D,d.kp (Ex.cons _ _ _).kp,.inr<|.inl #[rfl,J6]]
theorem Jtj(d:IsDu h D rs)(C:rs.length<=12)(G:∀r∈rs,r.2.length<=6):WR (Jby (k+4) [.ref h.length,.ref D]<|h++[.ins "ByRank" []]) λv h'=>v=.non/\Ex h h'/\IsOr h' 0 h.length rs:=by
 have P:Ex h (h++[IX.ins "ByRank"<|ofs1 D]):=.one _ _;have d1:=d.kp P.kp;obtain⟨O,M,w⟩:=id d1;obtain⟨_,_,E,t,u,rfl,m,L,_,g,rfl⟩:=(Jd0 (k:=k+1) M w C G).eq;have B:=Jfl (k:=k+2) (h:=h++[.ins "ByRank" []]) (D:=D) grown;rw[Xr]at B;rw[Jh9];refine xfin (xseq<|Qb<|Jd (Jn (arg2 rfl rfl) B)<|QJ (Jn (arg1 rfl) E) rfl (grow grown) (by show(1:Nat)<1000;decide) ?_);rw[op1];have e:(h++[IX.ins "ByRank"<|ofs1 D]++g).set h.length (.ins "ByRank"<|ofs D t)=h++.ins "ByRank" (ofs D t)::g:=by rw[Zaa,Zac,Zav,VV]
 rw[e];have I:KpB h.length (h++[IX.ins "ByRank"<|ofs1 D]++g) (h++IX.ins "ByRank" (ofs D t)::g):=λj o H z=>by rw[<-e,ZC<|ZP H];exact z
 have F:t≠h.length:=λz=>by rw[z]at m;have:(h++[IX.ins "ByRank"<|ofs1 D]++g)[h.length]?=J (.ins "ByRank"<|ofs1 D):=grow grown;rw[this]at m;cases m
 exact#[rfl,.cons _ _ _,D,d.kp (Ex.cons _ _ _).kp,.inr<|.inr #[rfl,t,u,J6,I _ _ F m,L]]
end
end
section
seal L4.run L4.WS
section
variable{k:Nat}{h:IH}
theorem argC(k:a U h=.ok x h1)(j:b U h1=.ok xs L):Jb a b U h=.ok (x::xs) L:=by show(a U h).bind (λx h1=>(b U h1).bind λxs L=>.ok (x::xs) L)=_;rw[k];show(b U h1).bind _=_;rw[j];rfl
theorem wkE(m:h[D]?=J (.ins "Duty"<|dfs O))(u:o U h=.ok (.ref D) h)(C:e U h=.ok (.int n) h)(B:atI O n=J (.ref j)):Jq (pg<|k+1) "work" 1 o (Jb e Je) U h=.ok (.ref j) h:=dotE u m dlw (Jcy _) (arg1 C)<|Jg8 m B
def DW(h1:IH)(x y:IV)(h':IH):Prop:=∀(r:RH)(q:Nat),x=tp6 r q->h1[q]?=J (.lst<|r.2.map tupH)->∃w:Nat,y=IV.ref w/\w≠h1.length/\h'[w]?=J (wo r)
theorem Jw4(G:Gd unit rs)(Q:h[S]?=J (.lst ys))(w:RowT h lo ys rs):∃h',J1 (Jv 'a') 1 [] (gNm 0) JF (Jat<|k+5) [J<|.ref S] h=.ok (.ref h.length) h'/\∃O,h'[h.length]?=J (.lst O)/\AllH h' O rs/\Kp h h':=by
 have hb:=J0;have few:=G.few;have wl:=w.len;obtain⟨v,P,ev,rfl,O,gv,lv,k3,dv⟩:=(Jw6 (it:=Jv 'a') (e:=Jat<|k+5) (U:=[J<|.ref S]) (h0:=h) (h:=h) (DW h) (by rw[JZ];exact Jd rfl ((Qa _).mpr #[_,Q,rfl,rfl,rfl])) 05 (by
   intro x y L P Y V r q e g;obtain⟨w,D,E,u⟩:=V r q e g;exact#[w,D,E,Y _ _ E u]) (λL q=>q _ _ Q) (by
   intro x hx L k2 l2;obtain⟨n,hn,rfl⟩:=Zab.mp hx;have C:n<rs.length:=05;obtain⟨q,I,_,B⟩:=w.at_ n _ _ (Zd hn)<|Zd C;have j:=G.f _<|Z5 C;have u1:=G.u1;rw[I];generalize rs[n]=r at B j;have f1:=j.g1;have M:=k2 _ _ B;have X:atI (IV.str r.1.name::tp5 r q) 5=J (.ref q):=Jyt;unfold Jat;rw[XZ];refine Jd (argC (ixtE rfl rfl JV)<|argC (ixtE rfl rfl JN)<|argC (ixtE rfl rfl Qd)<|argC (ixtE rfl rfl Ve)<|argC (ixtE rfl rfl X4)<|arg1<|XH (ixtE rfl rfl X) M) ?_;generalize m:r.2.map tupH=hs;refine WR.mono (J0a (k:=k) j.nm 05 j.l1 j.t1 (λZ=>Jqd j.d1 j.d2) λZ z=>m▸Jl4 (z _ _<|by rw[m];exact grown) j.ok) ?_;rintro _ P ⟨rfl,g,rfl⟩;refine#[rfl,(Ex.one _ _).trans<|.cons _ _ _,λR q' H F=>#[_,rfl,by rw[Z0];lia,?_]];have H:=H;simp at H;obtain⟨D,E,u,e4,e5,rfl⟩:=H;rw[B]at F;have F:r.2.map tupH=R.2.map tupH:=by simpa using F
   rw[<-m,F];unfold wo;rw[<-D,<-E,<-u,<-e4,<-e5];exact J6)).eq
 refine#[P,ev,O,gv,#[05,λi v r a b=>?_],k3];obtain⟨q,I,B⟩:=w.get b;obtain⟨W,D,_,u⟩:=dv i _ _ I a r q rfl B;exact#[W,D,u]
theorem Jnc(B:h[S]?=J (.lst ys))(w:RowT h lo ys rs)(G:Gd unit rs):WR (Xy (k+6) [.ref S] h) λv h'=>∃D,v=.ref D/\Ex h h'/\IsDu h' D rs:=by obtain⟨H,ev,O,m,u,E⟩:=Jw4 G B w;rw[Jng];refine xfin<|xret ?_;rw[XZ];refine Jd (arg1 ev)<|WR.mono (J6h m u G) ?_;rintro _ F ⟨rfl,C,j⟩;exact#[rfl,_,rfl,(Jzc E).trans C,j]
theorem Joy(E:h[S]?=J (.lst ys))(w:RowT h lo ys rs)(G:Gd unit rs)(F:kind=0\/kind=1\/kind=2)(no:kind≠0->∀r∈rs,r.2=[]):WR (Yj (k+7) [.int kind,.ref S] h) λv h'=>∃kD,v=.ref kD/\Ex h h'/\IsOr h' kind kD rs:=by
 have L:=G.few;obtain⟨_,I,u,D,rfl,B,m⟩:=(Jnc E w G).eq;rw[Jfw];rcases F with rfl|rfl|rfl
 .refine xfin<|xseq<|xiff rfl (xnil<|xseq<|xiff rfl (xnil<|xret ?_));rw[XZ];refine Jd (arg1<|Jn (arg1 rfl) u)<|WR.mono (Jtj m 05 λr H=>(G.f r H).ok.few) ?_;rintro _ C ⟨rfl,j,o⟩;exact#[rfl,_,rfl,B.trans j,o]
 .refine xfin<|xseq<|xift rfl (xret ?_);rw[XZ];refine Jd (arg1<|Jn (arg1 rfl) u)<|WR.mono (Ju0 (kind:=1) m 05<|no 01) ?_;rintro _ C ⟨rfl,j,o⟩;exact#[rfl,_,rfl,B.trans j,o]
 .refine xfin<|xseq<|xiff rfl (xnil<|xseq<|xift rfl (xret ?_));rw[XZ];refine Jd (arg1<|Jn (arg1 rfl) u)<|WR.mono (Jna m 05<|no 01) ?_;rintro _ C ⟨rfl,j,o⟩;exact#[rfl,_,rfl,B.trans j,o]
theorem Jrd{kD D T:Nat}{rs:Ub}{kvs:Wn}{c:Cm}{d:Int}(hd:IsDu h D rs)(C:h[kD]?=J (.ins "ByRank"<|ofs D T))(G:h[T]?=J (.dct kvs))(tv:∀x,(valI kvs<|.inr x).getD .non=fV (fstK (rs.map (·.2)) x))(ha:c.at_<rs.length)(l6:∀r∈rs,r.2.length<=6):WR (Jay (k+3) [.ref kD,tupC c,.int d] h) λv h'=>v=.int (rk (rs.map (·.2)) (act (rs[c.at_]).2 d) c.at_)/\Ex h h':=by obtain⟨O,I,w⟩:=hd;obtain⟨j,F,u⟩:=w.get<|Zd ha;have H:=JH F;have B:=Jyp ha (d:=d);have l:=l6 _<|Z5 ha;generalize rs[c.at_]=r at u B l;rw[Jfi];refine xfin<|xret<|xb<|xb ?_;refine Jd (ixtE rfl rfl JV)<|xb<|xb<|xb<|Jd (arg2 (wkE I (fldE rfl C ol0) (ixtE rfl rfl JV) H) rfl)<|WR.mono (Jmr u l) ?_;rintro _ R ⟨i,rfl,Q,M,m⟩;have P:=Jyq r.2 d;refine xb<|Jd (arg1<|fldE rfl (m.get C) ol1)<|Jd rfl (Jd rfl (WR.mono (Js0 M (m.get G) tv B 05) ?_));rintro _ L ⟨rfl,E⟩;exact#[rfl,m.trans E]
theorem Jla{kD D T:Nat}{c:Cm}{d:Int}(hd:IsDu h D rs)(C:h[kD]?=J (.ins "ByRank"<|ofs D T))(ha:c.at_<rs.length)(l6:∀r∈rs,r.2.length<=6):WR (Jbr (k+3) [.ref kD,tupC c,.int d] h) λv h'=>v=.bl (!(act (rs[c.at_]).2 d).isEmpty)/\Ex h h':=by obtain⟨O,E,w⟩:=hd;obtain⟨j,u,m⟩:=w.get<|Zd ha;have B:=JH u;have l:=l6 _<|Z5 ha;generalize rs[c.at_]=r at m l;rw[Jhc];obtain⟨_,L,F,i,rfl,I,H,G⟩:=(Jmr m l).eq;refine xfin<|xret<|Jd ((binE (lenE (Jn (arg2 (wkE E (fldE rfl C ol0) (ixtE rfl rfl JV) B) rfl) F) H) rfl).trans rfl) #[?_,G];rw[Zj];cases act r.2 d<;>simp
theorem dueE{c:Cm}(hd:IsDu h D rs)(ha:c.at_<rs.length):VD (k+2) [.ref D,tupC c] h=.ok (.int<|c.come+(rs[c.at_]).1.due) h:=by obtain⟨O,C,w⟩:=hd;obtain⟨j,m,u⟩:=w.get<|Zd ha;have B:=JH m;refine Js ?_;rw[Jr4];exact xfin<|xret<|Jd (addE (ixtE rfl rfl JN)<|fldE (wkE C rfl (ixtE rfl rfl JV) B) u fl3) #[rfl,rfl]
theorem Jut{c:Cm}(hd:IsDu h D rs)(j:h[kD]?=J (.ins "ByDue"<|ofs1 D))(ha:c.at_<rs.length):Jbd (k+3) [.ref kD,tupC c,.int d] h=.ok (.int<|c.come+(rs[c.at_]).1.due) h:=Js<|by rw[Jf4];exact xfin<|xret<|Jd (Jn (arg2 (fldE rfl j ql0) rfl)<|dueE hd ha) #[rfl,rfl]
theorem Jm5:Jam (k+1) [.ref kD,tupC c,.int d] h=.ok (.int c.come) h:=Js<|by rw[Jd4];exact xfin<|xret<|Jd (ixtE rfl rfl JN) #[rfl,rfl]
theorem Jhl:Ja0 (k+1) [.ref kD,v,w] h=.ok (.bl Zi) h:=Js<|by rw[Jia];exact xfin<|xret<|Jd rfl #[rfl,rfl]
def Xg(kind:Int)(rs:Ub)(c:Cm)(d:Int):Int:=if kind=1 then c.come+(rs.getD c.at_ rd).1.due else if kind=2 then c.come else rk (rs.map (·.2)) (act (rs.getD c.at_ rd).2 d) c.at_
def VG(kind:Int)(rs:Ub)(c:Cm)(d:Int):Bool:=if kind=1 then Zi else if kind=2 then Zi else !(act (rs.getD c.at_ rd).2 d).isEmpty
theorem XD{rs:Ub}(hn:n<rs.length):rs.getD n rd=rs[n]:=by simp_all
theorem Jps{kind:Int}{kD:Nat}{d:Int}{B e1 u:E1}(o:IsOr h kind kD rs)(m:B U h=.ok (.ref kD) h)(h1:e1 U h=.ok (tupC c) h)(L:u U h=.ok (.int d) h)(ha:c.at_<rs.length)(l6:∀r∈rs,r.2.length<=6):WR (Jq (pg<|k+3) "rank_of" 2 B (Jb e1<|Jb u Je) U h) λv h'=>v=.int (Xg kind rs c d)/\Ex h h':=by
 obtain⟨D,hd,⟨rfl,j⟩|⟨rfl,j⟩|⟨rfl,T,F,j,C,E⟩⟩:=o
 .exact Qr m j qlr (Jf3 _) (Jd (arg2 h1 L)<|Jd (Jut hd j ha) #[by rw[Xg,if_pos rfl,XD ha],.refl _])
 .exact Qr m j qlr (Jd2 _) (Jd (arg2 h1 L)<|Jd Jm5 #[by rw[Xg,if_neg 01,if_pos rfl],.refl _])
 .refine Qr m j olr (Jfg _)<|Jd (arg2 h1 L)<|WR.mono (Jrd hd j C E ha l6) ?_;rintro _ H ⟨rfl,G⟩;exact#[by rw[Xg,if_neg 01,if_neg 01,XD ha],G]
theorem Jmy(o:IsOr h kind kD rs)(m:oe U h=.ok (.ref kD) h)(h1:e1 U h=.ok (tupC c) h)(L:e2 U h=.ok (.int d) h)(ha:c.at_<rs.length)(l6:∀r∈rs,r.2.length<=6):WR (Jq (pg<|k+3) "holds" 2 oe (Jb e1<|Jb e2 Je) U h) λv h'=>v=.bl (VG kind rs c d)/\Ex h h':=by
 obtain⟨D,hd,⟨rfl,j⟩|⟨rfl,j⟩|⟨rfl,T,u,j,C,E⟩⟩:=o
 .exact Qr m j qlh (Jh5 _) (Jd (arg2 h1 L)<|Jd Jhl #[by rw[VG,if_pos rfl],.refl _])
 .exact Qr m j qlh (Jfe _) (Jd (arg2 h1 L)<|Jd Jhl #[by rw[VG,if_neg 01,if_pos rfl],.refl _])
 .refine Qr m j olh (Jg6 _)<|Jd (arg2 h1 L)<|WR.mono (Jla hd j ha l6) ?_;rintro _ F ⟨rfl,B⟩;exact#[by rw[VG,if_neg 01,if_neg 01,XD ha],B]
end
end
def cd:Cm:=#[0,0,0,0]
def keyN(kind:Int)(rs:Ub)(cs:Uc)(ds:Tq)(n:Nat):Tq:=[Xg kind rs (cs.getD n cd)<|ds.getD n 0,if VG kind rs (cs.getD n cd) (ds.getD n 0)=Zg then 0 else 1,(n:Int)]
def keyV(kind:Int)(rs:Ub)(cs:Uc)(ds:Tq)(v:IV):Tq:=match v with|.int x=>keyN kind rs cs ds x.toNat|_=>[0,0,0]
theorem Jxz:∀{a b:Tq},a.length=b.length->ltL a b=Zi->ltL b a=Zi->a=b
 |[],[],_,_,_=>rfl
 |a::as,b::bs,l,h1,L=>by
  unfold ltL at h1 L;by_cases e:a=b
  .subst e;rw[if_pos rfl]at h1 L;rw[Jxz (by simpa using l) h1 L]
  .lia
 |[],_::_,l,_,_=>by simp at l
 |_::_,[],l,_,_=>by simp at l
section
variable{k:Nat}{h:IH}
theorem J1o(hx:xs≠[])(k:ys≠[])(j:xs.length+ys.length<=sizeLine):WR (Jm (.tup xs) (.tup ys) h) Q=Q (.tup<|xs++ys) h:=by unfold Jm;dsimp only;rw[if_pos #[hx,k,j]];rfl
theorem ols{D T:Nat}:(ofs D T).lookup ("standing":Str)=Zc:=02
theorem qls:(ofs1 D).lookup ("standing":Str)=Zc:=02
theorem olp{D T:Nat}:(ofs D T).lookup ("pick":Str)=Zc:=02
theorem qlp:(ofs1 D).lookup ("pick":Str)=Zc:=02
abbrev stv(kind:Int)(rs:Ub)(c:Cm)(d:Int):IV:=.tup [.int<|Xg kind rs c d,.int (if VG kind rs c d=Zg then 0 else 1)]
section
seal L4.run L4.WS
theorem Jnz{c:Cm}{d:Int}(o:IsOr h kind kD rs)(ha:c.at_<rs.length)(l6:∀r∈rs,r.2.length<=6):WR (Ye (k+4) [.ref kD,tupC c,.int d] h) λv h'=>v=stv kind rs c d/\Ex h h':=by have B:=J0;rw[Jfj];refine xfin<|xret<|xtup<|xb<|WR.mono (Jps (k:=k) (c:=c) (d:=d) o rfl rfl rfl ha l6) ?_;rintro _ u ⟨rfl,j⟩;refine xb<|xb<|xeif<|xb<|WR.mono (Jmy (k:=k) (c:=c) (d:=d) (o.kp j.kp) rfl rfl rfl ha l6) ?_;rintro _ L ⟨rfl,m⟩;have x:=j.trans m;unfold stv;have l2:(2:Nat)<=sizeLine:=05;cases VG kind rs c d with|true=>exact#[λ_=>#[l2,rfl,x],λz=>by cases z]|false=>exact#[(λz=>by cases z),λ_=>#[l2,rfl,x]]
theorem Jhv{kind:Int}{kD:Nat}{d:Int}{C e1 B:E1}(o:IsOr h kind kD rs)(u:C U h=.ok (.ref kD) h)(h1:e1 U h=.ok (tupC c) h)(L:B U h=.ok (.int d) h)(ha:c.at_<rs.length)(l6:∀r∈rs,r.2.length<=6):WR (Jq (pg<|k+4) "standing" 2 C (Jb e1<|Jb B Je) U h) λv h'=>v=stv kind rs c d/\Ex h h':=by
 have m:=Jnz (k:=k) (d:=d) o ha l6;obtain⟨D,hd,⟨rfl,j⟩|⟨rfl,j⟩|⟨rfl,T,E,j,F,G⟩⟩:=o
 .exact Qr u j qls (Jff _)<|Jd (arg2 h1 L) m
 .exact Qr u j qls (Jdh _)<|Jd (arg2 h1 L) m
 .exact Qr u j ols (Jey _)<|Jd (arg2 h1 L) m
theorem J0n{kD R W N:Nat}{ps:Tr}{ds:Tq}(h0:h[2]?=J (.tab "Order.pick"))(o:IsOr h kind kD rs)(l6:∀r∈rs,r.2.length<=6)(I:∀c∈cs,c.at_<rs.length)
  (G:h[R]?=J (.lst<|cs.map tupC))(O:h[W]?=J (.lst (ps.map λp:Nat=>.int p)))(gN:h[N]?=J (.lst<|ds.map .int))(ld:ds.length=cs.length)(ne:ps≠[])(hp:∀p∈ps,p<cs.length):
  WR (Xx (k+5) [.ref kD,.ref R,.ref W,.ref N] h) λv h'=>∃p∈ps,v=.int (p:Int)/\(∀p'∈ps,ltL (keyN kind rs cs ds p') (keyN kind rs cs ds p)=Zi)/\Ex h h':=by
 have P:=J0;rw[Jj4];refine xfin<|xret ?_;rw[J10 h0 rfl];refine WR.mono (Juh (kf:=keyV kind rs cs ds) (n:=3) O (by simpa using ne) ?_ ?_) ?_
 .intro y C H u;obtain⟨p,j,rfl⟩:=Z6.mp C;have B:=hp p j;have E:atI (cs.map tupC) (p:Int)=J (tupC cs[p]):=JH<|by rw[Z4,Zd B];rfl
  have D:atI (ds.map IV.int) (p:Int)=J (.int<|ds[p]' 05):=JH<|by rw[Z4,Zd];rfl
  have M:keyV kind rs cs ds (.int (p:Int))=[Xg kind rs cs[p]<|ds[p]' 05,if VG kind rs cs[p] (ds[p]' 05)=Zg then 0 else 1,(p:Int)]:=by show keyN kind rs cs ds (Zbx (p:Int))=_;rw[ZaP];unfold keyN;rw[Zx,Zx,Zd B,Zd<|show p<ds.length by lia];rfl
  have m:=I _<|Z5 B;rw[M];generalize cs[p]=c at E m;generalize ds[p]' 05=d at D;refine xb<|WR.mono (Jhv (k:=k) (o.kp u.kp) rfl (ixlE rfl rfl (u.get G) E) (ixlE rfl rfl (u.get gN) D) m l6) ?_;rintro _ L ⟨rfl,F⟩;refine xb<|Jd (tupE (arg1 rfl) rfl) ?_;rw[J1o 03 03<|by simp;lia];exact#[rfl,F]
 .intro y C;obtain⟨p,j,rfl⟩:=Z6.mp C;rfl
 .rintro v H ⟨hv,le,u⟩;obtain⟨p,j,rfl⟩:=Z6.mp hv;refine#[p,j,rfl,λp' q=>?_,u];have:=le _<|Z6.mpr #[p',q,rfl];simpa only[keyV,ZaP]using this
theorem Jpr{kind:Int}{kD:Nat}{B:E1}{a:A1}{E C u:IV}(o:IsOr h kind kD rs)(m:B U h=.ok (.ref kD) h)(h1:a U h=.ok [E,C,u] h)(q:WR (Xx k [.ref kD,E,C,u] h) P):
  WR (Jq (pg k) "pick" 3 B a U h) P:=by
 obtain⟨D,hd,⟨rfl,j⟩|⟨rfl,j⟩|⟨rfl,T,F,j,G,H⟩⟩:=o
 .exact Qr m j qlp (Jjz _)<|Jd h1 q
 .exact Qr m j qlp (Jf2 _)<|Jd h1 q
 .exact Qr m j olp (Jh6 _)<|Jd h1 q
end
end
section
seal L4.run L4.WS
noncomputable def rdC (c:Cm):Int:=c.come+c.late
def duC(rs:Ub)(c:Cm):Int:=c.come+(rs.getD c.at_ rd).1.due
section
variable{k:Nat}{h:IH}
theorem chL(m:a U h=.ok (.int i) h1)(k:b U h1=.ok (.int j) L)(u:c U L=.ok (.int l) h3)(t1:i<=j)(t2:j<=l):JJ cLe cLe a b c U h=.ok (.bl Zg) h3:=by unfold JJ;rw[m];dsimp only[Res.bind];rw[k];show(match IV.bl (decide (i<=j))with|.bl Zg=>_|.bl Zi=>_|_=>_)=_;rw[decide_eq_true t1];rw[u];show Res.ok (IV.bl<|decide (j<=l)) h3=_;rw[decide_eq_true t2]
theorem Jvr(hd:IsDu h D rs)(ok:COk rs c):WR (Jb3 (k+3) [.ref D,tupC c] h) λv h'=>v=.bl Zg/\Ex h h':=by
 have S:=J0;obtain⟨O,M,w⟩:=hd;have R:=w.len;obtain⟨a,b,c,d⟩:=c;obtain⟨C,H,Q,u,G,m⟩:=ok;have C:=C;obtain⟨j,ev,E⟩:=w.get<|Zd C;have P:=JH ev;have u:=u;have m:=m;generalize rs[a]=r at E u m;rw[Jbp];refine xfin<|xseq<|xiff rfl (xnil<|xseq ?_);obtain⟨_,_,I,rfl,g,rfl⟩:=(Qh (it:=Jv 'b') (e:=Jan<|k+2) (U:=[J<|.ref D,J<|tupC #[a,b,c,d],Zc]) (f:=λ_=>.bl Zg) #[rfl,rfl,rfl] (by simp;lia) (λ_ _=>trivial) (by
  intro v hv L q;obtain⟨i,rfl⟩:∃i,v=.int i:=by simp at hv;rcases hv with rfl|rfl|rfl|rfl<;>exact#[_,rfl]
  exact Jd (Jn (arg1 rfl)<|Jc2 _) #[rfl,.refl _])).eq
 refine xiff (notE (c:=Zg)<|truE<|(cbE<|arg1 I).trans<|all_map J6)<|xnil ?_;have B:Ex h (h++IX.lst ([IV.int (a:Int),IV.int b,IV.int c,IV.int d].map λ_=>.bl Zg)::g):=.cons _ _ _;have F:=B.get M;refine xseq (xiff (orF (notE<|tofE<|chT rfl (ixtE rfl rfl JV) (dotE rfl F dls (Jcx _) rfl (Jg7 F)) (Int.natCast_nonneg a) (by rw[R];lia))<|okc (ltE (ixtE rfl rfl JN) rfl)<|decide_eq_false<|Int.not_lt.mpr H)<|xnil<|xseq<|xset<|Jd (wkE F rfl (ixtE rfl rfl JV) P) ?_);exact xret<|Jd (Jy9 (chL rfl (ixtE rfl rfl Qd) (fldE rfl (B.get E) fl4) Q u)<|chL rfl (ixtE rfl rfl Ve) (fldE rfl (B.get E) fl2) G m) #[rfl,B]
def BadV(k:Nat)(h:IH)(D:Nat)(v:IV):Prop:=∀h1,Kp h h1->WR (Jb3 (k+3) [.ref D,v] h1) λu h'=>u=.bl Zi/\Ex h1 h'
theorem J2p{cs:Uc}(hd:IsDu h D rs)(gR:h[R]?=J (.lst<|cs.map tupC++t))(hJ:Legal rs cs)(hl:cs.length<=1000)(hl2:t.length<=1000)(ht:∀v∈t.head?,BadV k h D v):
  WR (Jb1 (k+4) [.ref D,.ref R] h) λv h'=>v=(if t=[]then .non else .int cs.length)/\Ex h h':=by
 have hb:=J0;obtain⟨O,hD,w⟩:=id hd;rw[Jib];refine xfin<|xseq<|xset<|Jd rfl (xseq<|xfor ?_);rw[Xu];refine Jd (arg1 rfl)<|(Jn5 _).mpr #[_,grow gR,?_];refine Vb (λn U h'=>∃m g a b c,h'=h++IX.dct m::g/\U=[J<|.ref D,J<|.ref R,J<|.ref h.length,a,b,c]/\m.length<=n/\n<=cs.length/\∀(a:Nat) v,valI m (.inl (a:Int))=J v->∃i c,i<n/\cs[i]?=J c/\c.at_=a/\v=.int c.come) ?_ ?_ ?_ #[[],[],Zc,Zc,Zc,rfl,rfl,Zq _,ZN _,λa v e=>by cases e]
 .rintro _ _ _ ⟨m,g,a,b,c,rfl,_⟩;exact grow gR
 .rintro n hn _ _ ⟨m,g,a,b,c,rfl,rfl,ln,lc,Z⟩;rw[Jrx];have M:Ex h (h++IX.dct m::g):=.cons _ _ _;have hn:n<cs.length+t.length:=by simpa[VL]using hn
  by_cases F:n<cs.length;case neg=>obtain rfl:n=cs.length:=05;cases t with|nil=>exact absurd hn<|ZbV _|cons v t=>rw[List.getElem_append_right<|by rw[Zj];lia];simp only[Zj,Zev,List.getElem_cons_zero];obtain⟨_,L,H,rfl,E⟩:=(ht v rfl _ M.kp).eq;exact xnx rfl (xseq<|xift (notE<|truE<|Jn (arg2 rfl rfl) H)<|xret<|Jd rfl #[by rw[if_neg<|List.cons_ne_nil _ _],M.trans E])
  rw[List.getElem_append_left (by rw[Zj];exact F),ZX];have V:=Zd F;have ok:=hJ.ok _<|Z5 F;generalize cs[n]=B at V ok;obtain⟨_,_,H,rfl,g2,rfl⟩:=(Jvr (k:=k) (c:=B) (hd.kp M.kp) ok).eq;refine xnx rfl (xseq<|xiff (notE<|truE<|Jn (arg2 rfl rfl) H)<|xnil<|xseq<|xset<|Jd (ixtE rfl rfl JV)<|xseq ?_);have eh:h++IX.dct m::g++g2=h++IX.dct m::(g++g2):=by rw[Zaa,Zac]
  rw[eh];have E:Ex h (h++IX.dct m::(g++g2)):=.cons _ _ _;have Q:=ok.at_;have S:=Zd Q;obtain⟨j,ev,Y⟩:=w.get S;have av:=JH ev;generalize rs[B.at_]=r at S Y;have fin:∀{U:ISt}(a b c),U=[J<|.ref D,J<|.ref R,J<|.ref h.length,a,b,c]->∃u I a b c,List.set (h++IX.dct m::(g++g2)) h.length (IX.dct<|putD m (.inl (B.at_:Int))<|.int B.come)=h++IX.dct u::I/\U=[J<|.ref D,J<|.ref R,J<|.ref h.length,a,b,c]/\u.length<=n+1/\n+1<=cs.length/\∀(a:Nat) v,valI u (.inl (a:Int))=J v->∃i c,i<n+1/\cs[i]?=J c/\c.at_=a/\v=.int c.come:=by
   intro U a b c hZ;refine#[_,_,_,_,_,VV _ _ _,hZ,?_,F,λa v e=>?_]
   .unfold putD;split
    .rw[Zj];lia
    .rw[Z0,ZaA];lia
   .rw[Jgo]at e;split at e
    .rename_i z;cases e;exact#[n,B,05,V,by have:=Sum.inl.inj z;lia,rfl]
    .obtain⟨i,c,h1,L⟩:=Z a v e;exact#[i,c,05,L]
  have C:∀{U:ISt}(a b:Tg),U=[J<|.ref D,J<|.ref R,J<|.ref h.length,a,J<|tupC B,J<|.int (B.at_:Int)]->∀P,WS (sAsg (Jc Jg 'e' '1') (gSbD 'c' 'f') U<|h++IX.dct m::(g++g2)) (λU h'=>∃m g a b c,h'=h++IX.dct m::g/\U=[J<|.ref D,J<|.ref R,J<|.ref h.length,a,b,c]/\m.length<=n+1/\n+1<=cs.length/\∀(a:Nat) v,valI m (.inl (a:Int))=J v->∃i c,i<n+1/\cs[i]?=J c/\c.at_=a/\v=.int c.come) P:=by rintro U a b rfl P;refine(Ya ..).mpr<|Jd (ixtE rfl rfl JN) ?_;rw[Jn6];refine Jd rfl (Jd rfl ?_);rw[Jkx (J6 (h:=h))<|show m.length<sizeLine by lia];exact fin _ _ _ rfl
  have X:∀{U:ISt}(a b:Tg),U=[J<|.ref D,J<|.ref R,J<|.ref h.length,a,J<|tupC B,J<|.int (B.at_:Int)]->Jj asB (Jc cInD 'f' 'c') U (h++IX.dct m::(g++g2))=.ok (valI m<|.inl (B.at_:Int)).isSome (h++IX.dct m::(g++g2)):=by rintro U a b rfl;exact tofE ((binE rfl rfl).trans<|Js<|by rw[Juf J6];exact#[rfl,rfl])
  cases G:valI m (.inl (B.at_:Int))with|none=>exact xiff (andF<|(X _ Zc rfl).trans<|by rw[G];rfl)<|xnil<|C _ Zc rfl _|some l=>
   obtain⟨i,c0,hi,e0,W,rfl⟩:=Z _ _ G;have far:=hJ.far i n c0 B hi e0 V W r<|by rw[W];exact S
   exact xiff (andT ((X _ Zc rfl).trans<|by rw[G];rfl)<|okc (ltE (subE (ixtE rfl rfl JN)<|(binE rfl rfl).trans<|Js<|by rw[Jug J6 G];exact#[rfl,rfl])<|fldE (wkE (E.get hD) rfl rfl av) (E.get Y) fl1)<|decide_eq_false 05)<|xnil<|C _ Zc rfl _
 .rintro _ _ ⟨m,g,a,b,c,rfl,rfl,_,le,_⟩;have le:cs.length+t.length<=cs.length:=by simpa[VL]using le
  have:t=[]:=ZbQ.mp 05;exact xret (Jd rfl #[by rw[if_pos this],.cons _ _ _])
theorem Jxj{cs:Uc}(hd:IsDu h D rs)(j:h[R]?=J (.lst<|cs.map tupC))(hJ:Legal rs cs)(u:cs.length<=200):
  WR (Yf (k+5) [.ref D,.ref R] h) λv h'=>v=.non/\Ex h h':=by
 rw[Jiw];refine xfin (xseq<|xiff (okc (gtE (lenE rfl j) rfl)<|decide_eq_false<|by rw[Zj];lia)<|xnil<|xseq<|xset<|xb<|Jd (arg2 rfl rfl)<|WR.mono (J2p (k:=k) (t:=[]) hd (by simp_all) hJ 05 (ZN _) λv hv=>by cases hv) ?_);rintro _ B ⟨rfl,m⟩;exact xiff rfl (xnil #[rfl,m])
theorem Jgm:Xz (k+1) [tupC c] h=.ok (.int<|rdC c) h:=Js<|by rw[Jvb];exact xfin<|xret<|Jd (addE (ixtE rfl rfl JN)<|ixtE rfl rfl Qd) #[rfl,rfl]
theorem Jon{c:Cm}(hd:IsDu h D rs)(ha:c.at_<rs.length):VD (k+2) [.ref D,tupC c] h=.ok (.int<|duC rs c) h:=by unfold duC;rw[XD ha];exact dueE hd ha
end
end
theorem Jpp{t:T1}{b:S1}{U:ISt}{h:IH}{N:ISt->IH->Prop}{R:IV->IH->Prop}(I:Nat->ISt->IH->Prop) (j:∀m U h,I m U h->WR (t U h) λc h1=>(c=Zg->∃k,m=k+1/\WS (b U h1) (I k) R)/\(c=Zi->N U h1)){m:Nat}(hm:m<1000000)(start:I m U h):WS (YB t b U h) N R:=by
 have B:∀(n m:Nat)(U:ISt)(h:IH),m<n->I m U h->WS (Xb t b n U h) N R:=by
  intro n;induction n with|zero=>intro m U h hn _;lia|succ n D=>
   intro m U h hn H;obtain⟨c,h1,e,G,E⟩:=(j m U h H).eq;unfold Xb;rw[e];cases c with|false=>exact E rfl|true=>obtain⟨k,rfl,w⟩:=G rfl;simp only[if_true];cases u:b U h1 with|next C L=>rw[u]at w;exact D k C L 05 w|ret v L=>rw[u]at w;exact w|_=>rw[u]at w;exact w.elim
 have F:YJ=1000000:=by unfold YJ;rfl
 rw[Jl7];exact B _ m U h (by rw[F];exact hm) start
structure Bs where
 ds:Tq
 lr:Tr
 wa:Tr
 t:Int
 sr:Wa
def rdN(cs:Uc)(p:Nat):Int:=rdC<|cs.getD p cd
def lnN(cs:Uc)(p:Nat):Int:=(cs.getD p cd).len
def hsN(rs:Ub)(cs:Uc)(p:Nat):Ua:=(rs.getD (cs.getD p cd).at_ rd).2
def pops(cs:Uc)(t:Int):Tr->Tr->List Nat×Tr|[],wa=>([],wa)|p::lr,wa=>if rdN cs p<=t then pops cs t lr (wa++[p])else(p::lr,wa)
def tIn(cs:Uc)(s:Bs):Int:=match s.wa,s.lr with|[],p::_=>if rdN cs p>s.t then rdN cs p else s.t|_,_=>s.t
def letM(cs:Uc)(s:Bs):Bs:=#[s.ds,(pops cs (tIn cs s) s.lr s.wa).1,(pops cs (tIn cs s) s.lr s.wa).2,tIn cs s,s.sr]
def VE(kind:Int)(rs:Ub)(cs:Uc)(ds:Tq)(wa:Tr)(p:Nat):Prop:=p∈wa/\∀q∈wa,ltL (keyN kind rs cs ds q) (keyN kind rs cs ds p)=Zi
def XM(kind:Int)(rs:Ub)(cs:Uc)(ds:Tq)(wa:Tr):Nat:=(wa.find? λp=>wa.all λq=>!ltL (keyN kind rs cs ds q) (keyN kind rs cs ds p)).getD 0
theorem VE.uniq(a:VE kind rs cs ds wa p)(b:VE kind rs cs ds wa q):p=q:=by have:=Jxz (a:=keyN kind rs cs ds p) (b:=keyN kind rs cs ds q) rfl (b.2 p a.1) (a.2 q b.1);simp only[keyN]at this;lia
theorem VE.eq(a:VE kind rs cs ds wa p):XM kind rs cs ds wa=p:=by unfold XM;cases e:wa.find? λp=>wa.all λq=>!ltL (keyN kind rs cs ds q) (keyN kind rs cs ds p)with|none=>have:=List.find?_eq_none.mp e p a.1;simp only[ZaY,ZbD]at this;exact absurd a.2 this|some q=>have j:=List.find?_some e;simp at j;exact VE.uniq #[List.mem_of_find?_eq_some e,j] a
noncomputable def QZ (hs:Ua)(d len:Int):Tq:=len::(hs.filter λa=>decide (d<a.2.2)).map (·.2.2)
def Vv(hs:Ua)(d len:Int):Int:=QA (λi=>(QZ hs d len).getD i 0) (QZ hs d len).length
def Qv(rs:Ub)(cs:Uc)(s:Bs)(p:Nat):Int:=match s.lr with|[]=>Vv (hsN rs cs p) (s.ds.getD p 0) (lnN cs p)-s.ds.getD p 0|q::_=>if rdN cs q-s.t<Vv (hsN rs cs p) (s.ds.getD p 0) (lnN cs p)-s.ds.getD p 0 then rdN cs q-s.t else Vv (hsN rs cs p) (s.ds.getD p 0) (lnN cs p)-s.ds.getD p 0
noncomputable def V8 (p:Nat)(t u:Int):Wa->Wa|[]=>[(p,t,u)]|a::r=>if a.1=p then(p,a.2.1,u)::r else(p,t,u)::a::r
def doM(rs:Ub)(cs:Uc)(s:Bs)(p:Nat)(n:Int):Bs:=#[s.ds.set p<|s.ds.getD p 0+n,s.lr,if s.ds.getD p 0+n=lnN cs p then s.wa.erase p else s.wa,s.t+n,V8 p s.t (s.t+n) s.sr]
def goM(kind:Int)(rs:Ub)(cs:Uc)(s:Bs):Bs:=doM rs cs s (XM kind rs cs s.ds s.wa)<|Qv rs cs s<|XM kind rs cs s.ds s.wa
def Vu(kind:Int)(rs:Ub)(cs:Uc)(s:Bs):Bs:=goM kind rs cs<|letM cs s
def runM(kind:Int)(rs:Ub)(cs:Uc):Nat->Bs->Bs|0,s=>s|m+1,s=>if s.lr=[]/\s.wa=[]then s else runM kind rs cs m (Vu kind rs cs s)
def lr0(cs:Uc):Tr:=(ordK (cs.map rdC).reverse cs.length).map λi=>cs.length-1-i
def s0(cs:Uc):Bs:=#[cs.map λ_=>0,lr0 cs,[],0,[]]
def finM(kind:Int)(rs:Ub)(cs:Uc):Bs:=runM kind rs cs (8*cs.length)<|s0 cs
theorem Jpd(hs:Ua)(d len:Int):Vv hs d len=len\/∃a∈hs,d<a.2.2/\Vv hs d len=a.2.2:=by
 obtain⟨j,u,e⟩:=Jrc (λi=>(QZ hs d len).getD i 0) (QZ hs d len).length<|by simp[QZ]
 unfold Vv;rw[e];cases j with|zero=>exact .inl rfl|succ j=>
  refine .inr ?_;have k:j<(hs.filter λa=>decide (d<a.2.2)).length:=by simpa[QZ]using u
  have m:=Z5 k;rw[Zbe]at m;refine#[_,m.1,of_decide_eq_true m.2,?_];simp[QZ,Zd k]
theorem J1b(hs:Ua)(d len:Int):Vv hs d len<=len:=Jxi (λi=>(QZ hs d len).getD i 0) _ 0<|by simp[QZ]
theorem J1a(h:d<len):d<Vv hs d len:=by rcases Jpd hs d len with e|⟨a,_,l,e⟩<;>lia
structure Wf(cs:Uc)(s:Bs):Prop where
 ld:s.ds.length=cs.length
 mem:∀p∈s.lr++s.wa,p<cs.length
 nd:(s.lr++s.wa).Nodup
 z:∀p∈s.lr++s.wa,s.ds.getD p 0<lnN cs p
 dn:∀p,p<cs.length->p∉s.lr++s.wa->p∈s.sr.map (·.1)
theorem Jhn(cs:Uc)(t:Int):∀(lr wa:Tr),((pops cs t lr wa).1++(pops cs t lr wa).2).Perm (lr++wa)
 |[],wa=>.refl _
 |p::lr,wa=>by
  unfold pops;split
  .refine(Jhn cs t lr<|wa++[p]).trans ?_;rw[<-Zaa];exact List.perm_append_singleton p<|lr++wa
  .exact .refl _
theorem Jgk(cs:Uc)(t:Int):∀(lr wa:Tr),∃a,lr=a++(pops cs t lr wa).1/\(pops cs t lr wa).2=wa++a/\(∀p∈a,rdN cs p<=t)/\∀q r,(pops cs t lr wa).1=q::r->t<rdN cs q
 |[],wa=>#[[],rfl,by simp[pops],03,by simp[pops]]
 |p::lr,wa=>by
  unfold pops;split
  .rename_i c;obtain⟨a,B,k,u,m⟩:=Jgk cs t lr<|wa++[p];exact#[p::a,congrArg (p:: ·) B,by rw[k];simp,λq j=>by rcases ZA.mp j with rfl|j;exact c;exact u q j,m]
  .simp_all
theorem J5a(cs:Uc)(s:Bs):s.t<=tIn cs s:=by
 unfold tIn;split
 .split<;>lia
 .lia
theorem Wf.let(w:Wf cs s):Wf cs (letM cs s):=by have j:=Jhn cs (tIn cs s) s.lr s.wa;exact#[w.ld,λp hp=>w.mem p<|j.mem_iff.mp hp,j.nodup_iff.mpr w.nd,λp hp=>w.z p<|j.mem_iff.mp hp,λp l hp=>w.dn p l λz=>hp<|j.mem_iff.mpr z]
theorem Jxw{s:Bs}(ne:¬(s.lr=[]/\s.wa=[])):(letM cs s).wa≠[]:=by
 obtain⟨a,D,m,E,C⟩:=Jgk cs (tIn cs s) s.lr s.wa;intro e;have e:(pops cs (tIn cs s) s.lr s.wa).2=[]:=e;rw[m]at e;obtain⟨k,u⟩:=List.append_eq_nil_iff.mp e;cases j:s.lr with|nil=>exact ne #[j,k]|cons p r=>
  have:=C p r<|by rw[<-j];simpa[u]using D.symm
  have B:tIn cs s=if rdN cs p>s.t then rdN cs p else s.t:=by unfold tIn;rw[k,j]
  rw[B]at this;split at this<;>lia
def Hl(cs:Uc)(s:Bs):Prop:=∀q r,s.lr=q::r->s.t<rdN cs q
theorem J3u(cs:Uc)(s:Bs):Hl cs (letM cs s):=by obtain⟨_,_,_,_,e⟩:=Jgk cs (tIn cs s) s.lr s.wa;exact e
theorem Jmu(gt:Hl cs s)(l:s.ds.getD p 0<lnN cs p):0<Qv rs cs s p/\s.ds.getD p 0+Qv rs cs s p<=Vv (hsN rs cs p) (s.ds.getD p 0) (lnN cs p):=by
 have:=J1a (hs:=hsN rs cs p) l;unfold Qv;split
 .lia
 .rename_i q r e;have:=gt q r e;split<;>lia
theorem Jgi{α:Type}{l:List α}{i j:Nat}{x z:α}:(l.set i x).getD j z=if i=j/\j<l.length then x else l.getD j z:=by
 simp;by_cases e:i=j
 .subst e;by_cases k:i<l.length
  .simp[k]
  .simp[k]
 .simp[e]
theorem J1g{p q:Nat}{t u:Int}{l:Wa}(h:q=p\/q∈l.map (·.1)):q∈(V8 p t u l).map (·.1):=by
 cases l with|nil=>simpa[V8]using h|cons a r=>
  show q∈List.map _ (if a.1=p then _ else _);by_cases e:a.1=p
  .simp_all
  .simp_all
theorem Wf.do{rs:Ub}{cs:Uc}{s:Bs}(w:Wf cs s){p:Nat}(hp:p∈s.wa){n:Int}(C:s.ds.getD p 0+n<=lnN cs p):Wf cs (doM rs cs s p n):=by
 have B:=w.mem p<|Zp _ hp;obtain⟨_,u,k⟩:=List.pairwise_append.mp w.nd;have sub:(s.lr++(doM rs cs s p n).wa).Sublist (s.lr++s.wa):=by
  refine List.Sublist.append_left ?_ _;show List.Sublist (if _ then _ else _) _;split
  .exact List.erase_sublist
  .exact List.Sublist.refl _
 refine#[by show(s.ds.set _ _).length=_;rw[Zbg];exact w.ld,λq j=>w.mem q<|sub.subset j,w.nd.sublist sub,λq j=>?_,λq m j=>J1g ?_]
 .show(s.ds.set p _).getD q 0<_;rw[Jgi];split
  .rename_i e;obtain rfl:=e.1;rcases ZZ.mp j with j|j
   .exact absurd rfl (k p j p hp)
   .have j:p∈if s.ds.getD p 0+n=lnN cs p then s.wa.erase p else s.wa:=j
    split at j
    .exact absurd j<|List.Nodup.not_mem_erase u
    .lia
  .exact w.z q<|sub.subset j
 .by_cases e:q=p
  .exact .inl e
  .refine .inr<|w.dn q m λz=>j ?_
   show q∈s.lr++if s.ds.getD p 0+n=lnN cs p then s.wa.erase p else s.wa
   split
   .simp_all
   .exact z
theorem Jtc:∀{wa:Tr},wa≠[]->∃p,VE kind rs cs ds wa p
 |[],h=>absurd rfl h
 |[p],_=>#[p,03,λq k=>by rw[Z2.mp k];exact Y3 _]
 |p::q::r,_=>by
  obtain⟨m,hm,j⟩:=Jtc (wa:=q::r) 03;cases c:ltL (keyN kind rs cs ds p) (keyN kind rs cs ds m)with
  |true=>
   refine#[p,03,λx hx=>?_];rcases ZA.mp hx with rfl|hx
   .exact Y3 _
   .cases z:ltL (keyN kind rs cs ds x) (keyN kind rs cs ds p)with
    |false=>rfl
    |true=>exact absurd (Jhk z c)<|by rw[j x hx];exact Zt
  |false=>
   refine#[m,Zr _ hm,λx hx=>?_];rcases ZA.mp hx with rfl|hx
   .exact c
   .exact j x hx
def VJ(rs:Ub)(cs:Uc)(ds:Tq)(p:Nat):Nat:=((hsN rs cs p).filter λa=>decide (ds.getD p 0<a.2.2)).length
def mea(rs:Ub)(cs:Uc)(s:Bs):Nat:=(s.lr++s.wa).length+((ZR cs.length).map<|VJ rs cs s.ds).sum+(s.lr.filter λp=>decide (s.t<rdN cs p)).length
theorem Yy{α:Type}{f g:α->Bool}:∀{l:List α},(∀x∈l,f x=Zg->g x=Zg)->(l.filter f).length<=(l.filter g).length
 |[],_=>03
 |x::l,h=>by
  have k:=Yy λy j=>h y<|Zr _ j
  have:=h x 03;simp only[ZcV];split
  .simp_all
  .split
   .simp;lia
   .exact k
theorem Jnd{α:Type}{f g:α->Bool}{a:α}:∀{l:List α},a∈l->f a=Zi->g a=Zg->(∀x∈l,f x=Zg->g x=Zg)->(l.filter f).length<(l.filter g).length
 |x::l,ha,fa,ga,h=>by
  have le:=Yy λy j=>h y<|Zr _ j
  have hx:=h x 03;rcases ZA.mp ha with rfl|ha
  .simp only[ZcV,fa,ga,if_true,Zar];lia
  .have k:=Jnd ha fa ga λy j=>h y<|Zr _ j
   simp only[ZcV];split
   .simp_all
   .split
    .simp;lia
    .exact k
theorem Jo8{f g:Nat->Nat}:∀{l:Tr},(∀x∈l,f x<=g x)->(l.map f).sum<=(l.map g).sum
 |[],_=>Zq _
 |x::l,h=>by
  have:=h x 03;have:=Jo8 λy j=>h y<|Zr _ j
  simp;lia
theorem Jx7{f g:Nat->Nat}{a:Nat}:∀{l:Tr},a∈l->f a<g a->(∀x∈l,f x<=g x)->(l.map f).sum<(l.map g).sum
 |x::l,ha,la,h=>by
  have hx:=h x 03;have le:=Jo8 λy j=>h y<|Zr _ j
  simp;rcases ZA.mp ha with rfl|ha
  .lia
  .have:=Jx7 ha la λy j=>h y<|Zr _ j
   lia
theorem J0b(rs:Ub)(cs:Uc)(s:Bs):mea rs cs (letM cs s)<=mea rs cs s:=by
 obtain⟨a,k,u,D,C⟩:=Jgk cs (tIn cs s) s.lr s.wa;have j:=(Jhn cs (tIn cs s) s.lr s.wa).length_eq;have m:=J5a cs s;show((pops cs (tIn cs s) s.lr s.wa).1++(pops cs (tIn cs s) s.lr s.wa).2).length+_+((pops cs (tIn cs s) s.lr s.wa).1.filter λp=>decide (tIn cs s<rdN cs p)).length<=_;rw[j];unfold mea;have B:=Yy (g:=λp=>decide (s.t<rdN cs p)) (l:=(pops cs (tIn cs s) s.lr s.wa).1) λx _ c=>decide_eq_true<|Int.lt_of_le_of_lt m<|of_decide_eq_true c
 have L:(s.lr.filter λp=>decide (s.t<rdN cs p)).length=(a.filter λp=>decide (s.t<rdN cs p)).length+((pops cs (tIn cs s) s.lr s.wa).1.filter λp=>decide (s.t<rdN cs p)).length:=by
  conv=>lhs;rw[k]
  rw[List.filter_append,Z0]
 have E:((ZR cs.length).map<|VJ rs cs (letM cs s).ds).sum=((ZR cs.length).map<|VJ rs cs s.ds).sum:=rfl;lia
theorem J3z(w:Wf cs s)(gt:Hl cs s){p:Nat}(hp:p∈s.wa):mea rs cs (doM rs cs s p<|Qv rs cs s p)<mea rs cs s:=by
 have u:=w.mem p<|Zp _ hp;obtain⟨B,C⟩:=Jmu gt<|w.z p<|Zp _ hp;have j:(s.ds.getD p 0+Qv rs cs s p=lnN cs p)\/(∃a∈hsN rs cs p,s.ds.getD p 0<a.2.2/\s.ds.getD p 0+Qv rs cs s p=a.2.2)\/∃q∈s.lr,s.t<rdN cs q/\s.t+Qv rs cs s p=rdN cs q:=by
  unfold Qv;have:=Jpd (hsN rs cs p) (s.ds.getD p 0)<|lnN cs p;split
  .rcases this with e|⟨a,ha,l,e⟩
   .exact .inl 05
   .exact .inr<|.inl #[a,ha,l,05]
  .rename_i q r e;split
   .exact .inr (.inr #[q,by rw[e];simp,gt q r e,05])
   .rcases this with e|⟨a,ha,l,e⟩
    .exact .inl 05
    .exact .inr<|.inl #[a,ha,l,05]
 generalize Qv rs cs s p=n at B C j;have gd:∀q,(s.ds.set p<|s.ds.getD p 0+n).getD q 0=if p=q then s.ds.getD p 0+n else s.ds.getD q 0:=λq=>by
  rw[Jgi];by_cases e:p=q
  .subst e;rw[if_pos #[rfl,by rw[w.ld];exact u],if_pos rfl]
  .rw[if_neg λz=>e z.1,if_neg e]
 have k:∀q∈ZR cs.length,VJ rs cs (s.ds.set p<|s.ds.getD p 0+n) q<=VJ rs cs s.ds q:=λq _=>Yy λx _ c=>by
  have c:=of_decide_eq_true c;rw[gd]at c;refine decide_eq_true ?_;split at c
  .rename_i e;subst e;lia
  .exact c
 have m:∀x∈s.lr,decide (s.t+n<rdN cs x)=Zg->decide (s.t<rdN cs x)=Zg:=λx _ c=>decide_eq_true (by have:=of_decide_eq_true c;lia)
 have l2:=Jo8 k;have E:=Yy m;have D:(s.lr++if s.ds.getD p 0+n=lnN cs p then s.wa.erase p else s.wa).length<=(s.lr++s.wa).length:=by
  rw[Z0,Z0];split
  .have:=ZdJ hp;lia
  .lia
 show(s.lr++if s.ds.getD p 0+n=lnN cs p then s.wa.erase p else s.wa).length+((ZR cs.length).map<|VJ rs cs<|s.ds.set p<|s.ds.getD p 0+n).sum+(s.lr.filter λx=>decide (s.t+n<rdN cs x)).length<(s.lr++s.wa).length+((ZR cs.length).map<|VJ rs cs s.ds).sum+(s.lr.filter λx=>decide (s.t<rdN cs x)).length;rcases j with e|⟨a,ha,la,e⟩|⟨q,hq,lq,e⟩
 .rw[if_pos e,Z0,Z0];have:=ZdJ hp;have:=List.length_pos_of_mem hp;lia
 .have:=Jx7 (Zaw.mpr u) (Jnd ha (decide_eq_false<|by simp_all) (decide_eq_true la) λx _ c=>by have c:=of_decide_eq_true c;rw[gd,if_pos rfl]at c;exact decide_eq_true 05) k;lia
 .have:=Jnd hq (decide_eq_false 05) (decide_eq_true lq) m;lia
section
seal L4.run
abbrev nI(n:Nat):IV:=.int (n:Int)
noncomputable abbrev tupS (a:Nat×Int×Int):IV:=.tup [.int (a.1:Int),.int a.2.1,.int a.2.2]
noncomputable def bfs (kD R D hJ W:Nat)(t:Int)(S:Nat):Wm:=[("order",.ref kD),("row",.ref R),("dones",.ref D),("later",.ref hJ),("waiting",.ref W),("turn",.int t),("stretches",.ref S)]
section
variable{kD R D hJ W S:Nat}{t u:Int}
theorem bf0:(bfs kD R D hJ W t S).lookup ("order":Str)=J (.ref kD):=02
theorem bf1:(bfs kD R D hJ W t S).lookup ("row":Str)=J (.ref R):=02
theorem bf2:(bfs kD R D hJ W t S).lookup ("dones":Str)=J (.ref D):=02
theorem bf3:(bfs kD R D hJ W t S).lookup ("later":Str)=J (.ref hJ):=02
theorem bf4:(bfs kD R D hJ W t S).lookup ("waiting":Str)=J (.ref W):=02
theorem bf5:(bfs kD R D hJ W t S).lookup ("turn":Str)=J (.int t):=02
theorem bf6:(bfs kD R D hJ W t S).lookup ("stretches":Str)=J (.ref S):=02
theorem bn0:(bfs kD R D hJ W t S).lookup ("next_ready":Str)=Zc:=02
theorem bn1:(bfs kD R D hJ W t S).lookup ("let_in":Str)=Zc:=02
theorem bn2:(bfs kD R D hJ W t S).lookup ("turns_for":Str)=Zc:=02
theorem bn3:(bfs kD R D hJ W t S).lookup ("tell":Str)=Zc:=02
theorem bn4:(bfs kD R D hJ W t S).lookup ("go_on":Str)=Zc:=02
theorem bft:putI "turn" (.int u) (bfs kD R D hJ W t S)=bfs kD R D hJ W u S:=02
end
structure Bg(h0:IH)(kind:Int)(rs:Ub)(cs:Uc)(kD R:Nat):Prop where
 o:IsOr h0 kind kD rs
 r:h0[R]?=J (.lst<|cs.map tupC)
 c:∀c∈cs,c.at_<rs.length
 l6:∀r∈rs,r.2.length<=6
 p1:h0[2]?=J (.tab "Order.pick")
 n:cs.length<=200
structure Bn(h0 h:IH)(cS kD R D hJ W S:Nat)(s:Bs):Prop where
 x:Ex h0 h
 ap:h0.length<=cS/\cS<D/\D<hJ/\hJ<W/\W<S
 b:h[cS]?=J (.ins "Bench"<|bfs kD R D hJ W s.t S)
 d:h[D]?=J (.lst<|s.ds.map .int)
 l:h[hJ]?=J (.lst<|s.lr.reverse.map nI)
 w:h[W]?=J (.lst<|s.wa.map nI)
 s:h[S]?=J (.lst<|s.sr.reverse.map tupS)
theorem Vj{h0 h:IH}{i:Nat}{o:IX}(x:Ex h0 h)(l:h0.length<=i):Ex h0 (h.set i o):=by obtain⟨g,rfl⟩:=x;exact#[g.set (i-h0.length) o,by rw[List.set_append_right _ _ l]]
theorem JB{h:IH}{i j:Nat}{o o':IX}(e:h[j]?=J o)(n:i≠j):(h.set i o')[j]?=J o:=by rw[ZC n];exact e
theorem QE{h:IH}{i:Nat}{o o':IX}(e:h[i]?=J o):(h.set i o')[i]?=J o':=ZE<|JC e
section
variable{h0 h h':IH}{cS kD R D hJ W S:Nat}{s:Bs}
theorem Bn.ex(b:Bn h0 h cS kD R D hJ W S s)(x:Ex h h'):Bn h0 h' cS kD R D hJ W S s:=#[b.x.trans x,b.ap,x.get b.b,x.get b.d,x.get b.l,x.get b.w,x.get b.s]
theorem Bn.setT(b:Bn h0 h cS kD R D hJ W S s)(u:Int):Bn h0 (h.set cS<|.ins "Bench"<|bfs kD R D hJ W u S) cS kD R D hJ W S #[s.ds,s.lr,s.wa,u,s.sr]:=
 have ap:=b.ap
 #[Vj b.x 05,ap,QE b.b,JB b.d 05,JB b.l 05,JB b.w 05,JB b.s 05]
theorem Bn.setD(b:Bn h0 h cS kD R D hJ W S s)(ds:Tq):Bn h0 (h.set D<|.lst<|ds.map .int) cS kD R D hJ W S #[ds,s.lr,s.wa,s.t,s.sr]:=
 have ap:=b.ap
 #[Vj b.x 05,ap,JB b.b 05,QE b.d,JB b.l 05,JB b.w 05,JB b.s 05]
theorem Bn.setL(b:Bn h0 h cS kD R D hJ W S s)(lr:Tr):Bn h0 (h.set hJ<|.lst<|lr.reverse.map nI) cS kD R D hJ W S #[s.ds,lr,s.wa,s.t,s.sr]:=
 have ap:=b.ap
 #[Vj b.x 05,ap,JB b.b 05,JB b.d 05,QE b.l,JB b.w 05,JB b.s 05]
theorem Bn.setW(b:Bn h0 h cS kD R D hJ W S s)(wa:Tr):Bn h0 (h.set W<|.lst<|wa.map nI) cS kD R D hJ W S #[s.ds,s.lr,wa,s.t,s.sr]:=
 have ap:=b.ap
 #[Vj b.x 05,ap,JB b.b 05,JB b.d 05,JB b.l 05,QE b.w,JB b.s 05]
theorem Bn.setS(b:Bn h0 h cS kD R D hJ W S s)(sr:Wa):Bn h0 (h.set S<|.lst<|sr.reverse.map tupS) cS kD R D hJ W S #[s.ds,s.lr,s.wa,s.t,sr]:=
 have ap:=b.ap
 #[Vj b.x 05,ap,JB b.b 05,JB b.d 05,JB b.l 05,JB b.w 05,QE b.s]
end
theorem Jq5{α:Type}{f:α->IV}{p:α}{lr:List α}:atI ((p::lr).reverse.map f) (-1)=J (f p):=by have e:(-1+((lr.length:Int)+1)).toNat=lr.length:=05;have l:(1:Int)<=(lr.length:Int)+1:=05;simp[atI,ixN,e,l]
theorem Joa{cs:Uc}{p:Nat}(j:p<cs.length):atI (cs.map tupC) (p:Int)=J (tupC<|cs.getD p cd):=JH<|by simp_all
theorem Jyu{ds:Tq}{p:Nat}(j:p<ds.length):atI (ds.map IV.int) (p:Int)=J (.int<|ds.getD p 0):=JH<|by simp_all
section
variable{k:Nat}{h0 h:IH}{kind:Int}{rs:Ub}{cs:Uc}{cS kD R D hJ W S:Nat}{s:Bs}{P:IV->IH->Prop}
theorem J61(g:Bg h0 kind rs cs kD R)(b:Bn h0 h cS kD R D hJ W S s){p:Nat}{lr:Tr}(e:s.lr=p::lr)(j:p<cs.length):Jak (k+2) [.ref cS] h=.ok (.int<|rdN cs p) h:=by have bl:=b.l;rw[e]at bl;refine Js ?_;rw[Jd3];exact xfin<|xret<|Jd (Jn (arg1<|ixlE (fldE rfl b.b bf1) (ixlE (fldE rfl b.b bf3) rfl bl Jq5) (b.x.get g.r)<|Joa j) Jgm) #[rfl,rfl]
theorem nrE{j:List (Tg)}(g:Bg h0 kind rs cs kD R)(b:Bn h0 h cS kD R D hJ W S s){p:Nat}{lr:Tr}(e:s.lr=p::lr)(m:p<cs.length):Jq (pg<|k+2) "next_ready" 0 'a' Je (J (.ref cS)::j) h=.ok (.int<|rdN cs p) h:=dotE rfl b.b bn0 (Jd1 _) rfl (J61 g b e m)
theorem Jtf{cs:Uc}{t:Int}{p:Nat}{lr wa:Tr}:pops cs t (p::lr) wa=if rdN cs p<=t then pops cs t lr (wa++[p])else(p::lr,wa):=rfl
theorem Jxx(g:Bg h0 kind rs cs kD R)(u:∀p∈s.lr,p<cs.length)(C:s.lr.length+s.wa.length<=1000)(b:Bn h0 h cS kD R D hJ W S s):WS (Jcl (k+2) [J<|.ref cS] h) (λ_ h'=>Bn h0 h' cS kD R D hJ W S #[s.ds,(pops cs s.t s.lr s.wa).1,(pops cs s.t s.lr s.wa).2,s.t,s.sr]) P:=by
 have H:=J0;refine Jpp (λm U h'=>∃lr wa,U=[J<|.ref cS]/\Bn h0 h' cS kD R D hJ W S #[s.ds,lr,wa,s.t,s.sr]/\lr.length=m/\lr.length+wa.length<=1000/\(∀p∈lr,p<cs.length)/\pops cs s.t lr wa=pops cs s.t s.lr s.wa) ?_ (show s.lr.length<1000000 by lia) #[s.lr,s.wa,rfl,b,rfl,C,u,rfl];rintro m _ G ⟨lr,wa,rfl,b,E,l2,u,j⟩;refine J54<|Jd (gtE (lenE (fldE rfl b.b bf3) b.l) rfl)<|xdec (λc=>?_) λc=>?_
 .cases lr with|nil=>exact absurd c 03|cons p lr=>
   rw[Jtf]at j;refine Jd (leE (nrE g b rfl (u p 03))<|fldE rfl b.b bf5)<|xdec (λc=>?_) λc=>?_
   .refine#[lr.length,by simpa using E.symm,?_];refine Qb<|VC (fldE rfl b.b bf4) b.w X5<|xb<|VC (fldE rfl b.b bf3) b.l Jq9<|Jd rfl (xpop (y:=nI p) b.l 03 ?_);have e:(((p::lr).reverse.map nI).dropLast)=lr.reverse.map nI:=03;rw[e];have B:=b.setL lr;refine xb (Jd rfl (Jd rfl (xapp B.w (by simp at l2 ⊢;lia) #[lr,wa++[p],rfl,?_,rfl,by simp at l2 ⊢;lia,λq F=>u q<|Zr _ F,by rw[<-j,if_pos c]])));have:=B.setW<|wa++[p];rw[ZbU]at this;exact this
   .rw[if_neg c]at j;rw[<-j];exact b
 .cases lr with|nil=>exact#[(λz=>by cases z),λ_=>by rw[<-j];exact b]|cons p lr=>exact absurd 03 c
theorem J6z(g:Bg h0 kind rs cs kD R)(u:∀p∈s.lr,p<cs.length)(B:s.lr.length+s.wa.length<=1000)(ne:¬(s.lr=[]/\s.wa=[]))(b:Bn h0 h cS kD R D hJ W S s):
  WR (Jbq (k+3) [.ref cS] h) λv h'=>v=.non/\Bn h0 h' cS kD R D hJ W S (letM cs s):=by
 rw[Jhb];refine xfin<|xseq<|xifd (eqE (lenE (fldE rfl b.b bf4) b.w) rfl) (λc=>?_) λc=>?_
 .have C:s.wa=[]:=ZbQ.mp<|by simpa using c
  cases j:s.lr with|nil=>exact absurd #[j,C] ne|cons p lr=>
   have m:tIn cs s=if rdN cs p>s.t then rdN cs p else s.t:=by unfold tIn;rw[C,j]
   refine QJ (maxE (fldE rfl b.b bf5)<|nrE g b j<|u p<|by rw[j];simp) rfl b.b (by show(7:Nat)<1000;decide) ?_;rw[bft];have E:=b.setT (if rdN cs p>s.t then rdN cs p else s.t);refine WS.mono (Jxx (s:=#[s.ds,s.lr,s.wa,if rdN cs p>s.t then rdN cs p else s.t,s.sr]) g u B E) (λ_ h' q=>#[rfl,?_]) λ_ _ z=>z
   unfold letM;rw[m];exact q
 .have m:tIn cs s=s.t:=by
   unfold tIn;split
   .rename_i e _;rw[e]at c;exact absurd rfl c
   .rfl
  refine xnil<|WS.mono (Jxx g u B b) (λ_ h' q=>#[rfl,?_]) λ_ _ z=>z
  unfold letM;rw[m];exact q
end
end
section
seal L4.run
noncomputable def enP (d:Int):IV->Bool|.tup [_,_,.int e]=>decide (d<e)|_=>Zi
noncomputable def enF:IV->IV|.tup [_,_,e]=>e|_=>.non
theorem J2l(hs:Ua)(d:Int):((hs.map tupH).filter<|enP d).map enF=((hs.filter λa=>decide (d<a.2.2)).map (·.2.2)).map .int:=by
 induction hs with|nil=>rfl|cons a hs j=>
  simp only[ZL,ZcV];rw[show enP d (tupH a)=decide (d<a.2.2)from rfl];split
  .simp only[ZL,j];rfl
  .exact j
section
variable{k:Nat}{h0 h:IH}{kind:Int}{rs:Ub}{cs:Uc}{cS kD R D hJ W S:Nat}{s:Bs}{P:IV->IH->Prop}
theorem J62{gap B due late d len:Int}{hs:Ua}(u:h[w]?=J (.ins "Work"<|wfs name gap B due late<|hs.map tupH))(l6:hs.length<=6):WR (Jdv (k+2) [.ref w,.int d,.int len] h) λv h'=>v=.int (Vv hs d len)/\Ex h h':=by
 have D:=J0;rw[Jlv];have j:Ex h (h++[.lst [.int len]]):=.one _ _;refine xfin (xret<|xb<|xb<|xb<|xlst<|Jd (arg1 rfl) #[by simp;lia,xb ?_]);refine WR.mono (YM (h:=h++[.lst [.int len]]++[.lst<|hs.map tupH]) (xs:=hs.map tupH) (p:=enP d) (f:=enF) ?_ (by rw[Zj];lia) (λL q=>q _ _ grown) ?_ ?_) ?_
 .rw[JZ];exact Jd (dotE rfl (j.get u) flh (Jcz _) rfl (Jht<|j.get u))<|(Qa _).mpr #[_,grown,rfl,rfl,rfl]
 .intro v hv L q;obtain⟨a,_,rfl⟩:=Z6.mp hv;exact Jd (gtE (ixtE rfl rfl Qd) rfl) #[rfl,.refl _]
 .intro v hv _ L q;obtain⟨a,_,rfl⟩:=Z6.mp hv;exact Jd (ixtE rfl rfl Qd) #[rfl,.refl _]
 .rintro _ _ ⟨rfl,g,rfl⟩;rw[J2l];have C:=Zbk (λa:Hd=>decide (d<a.2.2)) hs;have m:Ex (h++[.lst [.int len]]) (h++[.lst [.int len]]++[.lst<|hs.map tupH]++.lst (((hs.filter λa=>decide (d<a.2.2)).map (·.2.2)).map .int)::g):=(Ex.one _ _).trans<|.cons _ _ _;refine(YK ..).mpr #[_,m.get grown,_,J6,by simp;lia,?_];refine xb<|Jd rfl (Jd rfl ?_);rw[Jym,show[IV.int len]++((hs.filter λa=>decide (d<a.2.2)).map (·.2.2)).map .int=(QZ hs d len).map .int from rfl,Juj grown<|by simp[QZ]];exact#[rfl,(j.trans m).trans<|.one _ _]
theorem Jkg(o:IsOr h kind kD rs):∃m,IsDu h m rs/\∀(e:E1) (U:ISt),e U h=.ok (.ref kD) h->Jp "duty" e U h=.ok (.ref m) h:=by
 obtain⟨D,hd,⟨_,k⟩|⟨_,k⟩|⟨_,T,u,k,_⟩⟩:=o
 .exact#[D,hd,λe U j=>fldE j k ql0]
 .exact#[D,hd,λe U j=>fldE j k ql0]
 .exact#[D,hd,λe U j=>fldE j k ol0]
theorem J7v(g:Bg h0 kind rs cs kD R)(L:∀p∈s.lr,p<cs.length)(b:Bn h0 h cS kD R D hJ W S s)(I:p<cs.length)(ld:s.ds.length=cs.length):WR (Jar (k+3) [.ref cS,nI p] h) λv h'=>v=.int (Qv rs cs s p)/\Ex h h':=by
 obtain⟨P,⟨O,F,w⟩,G⟩:=Jkg<|g.o.kp b.x.kp;have ca:(cs.getD p cd).at_<rs.length:=g.c _<|by simp_all
 have l6:=g.l6 _<|Z5 ca;obtain⟨j,H,B⟩:=w.get<|Zd ca;have M:=JH H;have E:hsN rs cs p=(rs[(cs.getD p cd).at_]).2:=by unfold hsN;rw[XD ca]
 rw[<-E]at l6;rw[Je0];refine xfin<|xseq<|xset<|Jd (ixlE (fldE rfl b.b bf1) rfl (b.x.get g.r) (Joa I))<|xseq<|xset<|Jd (ixlE (fldE rfl b.b bf2) rfl b.d (Jyu 05)) ?_;refine xseq<|xset<|xb<|xb<|xb<|Jd (dotE (G _ _<|fldE rfl b.b bf0) F dlw (Jcy _) (arg1<|ixtE rfl rfl JV)<|Jg8 F M)<|xb<|Jd (arg2 rfl (ixtE rfl rfl Ve))<|Jd rfl ?_;have B:h[j]?=J (.ins "Work"<|wfs _ _ _ _ _<|(rs[(cs.getD p cd).at_]).2.map tupH):=B;rw[<-E]at B;refine WR.mono (J62 (k:=k) B l6) ?_;rintro _ Q ⟨rfl,C⟩;have u:=b.ex C;refine xb<|Jd rfl (Jd rfl (xseq<|xifd (gtE (lenE (fldE rfl u.b bf3) u.l) rfl) (λc=>?_) λc=>?_))
 .cases m:s.lr with|nil=>rw[m]at c;exact absurd c 03|cons q lr=>refine xset (Jd (minE rfl (subE (nrE g u m<|L q<|by rw[m];simp)<|fldE rfl u.b bf5))<|xret<|Jd rfl #[?_,C]);unfold Qv;rw[m];rfl
 .refine xnil<|xret<|Jd rfl #[?_,C];have m:s.lr=[]:=by cases m:s.lr with|nil=>rfl|cons q lr=>rw[m]at c;exact absurd 03 c
  unfold Qv;rw[m];rfl
theorem J7u(b:Bn h0 h cS kD R D hJ W S s)(sl:s.sr.length<100000):WR (Jcq (k+1) [.ref cS,nI p,.int u] h) λv h'=>v=.non/\Bn h0 h' cS kD R D hJ W S #[s.ds,s.lr,s.wa,s.t,V8 p s.t u s.sr]:=by
 have F:=J0;have fin:∀{C:IH}{B:Int}{r:Wa},Bn h0 C cS kD R D hJ W S #[s.ds,s.lr,s.wa,s.t,r]->r.length<=s.sr.length->V8 p s.t u s.sr=(p,B,u)::r ->WS (Jdj k [J<|.ref cS,J<|nI p,J<|.int u,J<|.int B] C) (λ_ h'=>IV.non=.non/\Bn h0 h' cS kD R D hJ W S #[s.ds,s.lr,s.wa,s.t,V8 p s.t u s.sr]) λv h'=>v=.non/\Bn h0 h' cS kD R D hJ W S #[s.ds,s.lr,s.wa,s.t,V8 p s.t u s.sr]:=by intro C B r m lr E;refine Qb (VC (fldE rfl m.b bf6) m.s X5<|xb<|xtup<|xb<|Jd rfl (xb<|Jd (arg2 rfl rfl)<|Jd rfl #[by simp;lia,xb<|Jd rfl (Jd rfl (xapp m.s (by simp;lia) #[rfl,?_]))]));have:=m.setS<|(p,B,u)::r;rw[Zca,ZbU]at this;rw[E];exact this
 rw[Jj2];refine xfin<|xseq<|xset<|Jd (fldE rfl b.b bf5)<|xseq<|xif<|J54<|Jd (gtE (lenE (fldE rfl b.b bf6) b.s) rfl)<|xdec (λc=>?_) λc=>?_
 .cases j:s.sr with|nil=>rw[j]at c;exact absurd c 03|cons a r=>
   have bs:=b.s;rw[j]at bs;refine Jd (eqE (ixtE (ixlE (fldE rfl b.b bf6) rfl bs Jq5) rfl JV) rfl)<|xdec (λc=>?_) λc=>?_
   .refine xset<|xb<|VC (fldE rfl b.b bf6) bs Jq9<|Jd rfl (xpop (y:=tupS a) bs 03<|xb<|Jd rfl (xixt JN ?_));have e:((a::r).reverse.map tupS).dropLast=r.reverse.map tupS:=03;rw[e];rw[<-j];refine fin (r:=r) (b.setS r) (by rw[j];simp) ?_;rw[j];exact if_pos 05
   .refine xnil ?_;rw[<-j];refine fin (r:=s.sr) b (Zq _) ?_;rw[j];exact if_neg λz=>c<|by rw[z]
 .refine#[(λz=>by cases z),λ_=>xnil<|fin (r:=s.sr) b (Zq _) ?_];cases j:s.sr with|nil=>rfl|cons a r=>rw[j]at c;exact absurd 03 c
theorem Js2{α β:Type}{f:α->β}:∀(l:List α)(j:Nat),(l.map f).eraseIdx j=(l.eraseIdx j).map f|[],_=>rfl|_::_,0=>rfl|a::l,j+1=>congrArg (f a:: ·)<|Js2 l j
theorem Jry{wa:Tr}{p j:Nat}(e:(wa.map λn:Nat=>(n:Int)).findIdx? (· ==(p:Int))=J j):wa.eraseIdx j=wa.erase p:=by
 rw[List.findIdx?_map]at e;have e:wa.findIdx? (· ==p)=J j:=by rw[<-e];congr 1;funext x;show(x==p)=((x:Int)==(p:Int));lia
 rw[List.erase_eq_eraseIdx,show List.idxOf? p wa=J j from e]
theorem J6o(g:Bg h0 kind rs cs kD R)(w:Wf cs s)(ne:¬(s.lr=[]/\s.wa=[]))(sl:s.sr.length<100000)(b:Bn h0 h cS kD R D hJ W S s):WR (Jbx (k+6) [.ref cS] h) λv h'=>v=.non/\Bn h0 h' cS kD R D hJ W S (Vu kind rs cs s):=by
 have Z:(s.lr++s.wa).length<=cs.length:=by
  have:=w.nd.length_le_of_subset λp hp=>Zaw.mpr<|w.mem p hp
  rwa [Zbc]at this
 rw[Z0]at Z;have cn:=g.n;have C:=w.let;have n1:=Jxw (cs:=cs) ne;rw[Jh8];refine xfin<|xseq<|Qb<|Qr rfl b.b bn1 (Jg5 _) (Jd rfl (WR.mono (J6z (k:=k+2) g (λp hp=>w.mem p<|Zax _ hp) 05 ne b) ?_));rintro _ E ⟨rfl,m⟩;have X:=g.o.kp m.x.kp;unfold Vu;have G:(letM cs s).sr.length<100000:=sl;generalize letM cs s=u at *;refine xseq (xset<|Jpr X (fldE rfl m.b bf0) (by rw[show ∀(a b c:E1)(U:ISt),Jb a (Jb b<|Jb c Je) U E=(a U E).bind λx E=>((Jb b<|Jb c Je) U E).bind λxs L=>.ok (x::xs) L from λ_ _ _ _=>rfl,fldE rfl m.b bf1];exact congrArg (λr=>Res.bind r _)<|arg2 (fldE rfl m.b bf4)<|fldE rfl m.b bf2)<|WR.mono (J0n (k:=k) (m.x.get g.p1) X g.l6 g.c (m.x.get g.r) m.w m.d C.ld n1 λp hp=>C.mem p<|Zp _ hp) ?_);rintro _ L ⟨p,hp,rfl,lm,Y⟩;have ep:=VE.eq #[hp,lm];have O:=C.mem p<|Zp _ hp;have ld:=C.ld;have H:=m.ex Y;refine xseq<|xset<|Qr rfl H.b bn2 (Jex _) (Jd (arg1 rfl)<|WR.mono (J7v (k:=k+2) g (λq hq=>C.mem q<|Zax _ hq) H O ld) ?_);rintro _ h3 ⟨rfl,x3⟩;have I:=H.ex x3;unfold goM;rw[ep];generalize Qv rs cs u p=n;refine xseq<|Qb<|Qr rfl I.b bn3 (Jjy _) (Jd (arg2 rfl (addE (fldE rfl I.b bf5) rfl))<|WR.mono (J7u (k:=k+4) I G) ?_);rintro _ h4 ⟨rfl,M⟩;refine xseq (J76 rfl M.b bf5 rfl M.b (by show(7:Nat)<1000;decide) ?_);rw[bft];have F:=M.setT<|u.t+n;refine xseq (J77 (fldE rfl F.b bf2) rfl F.d (Jyu (by show p<u.ds.length;lia)) 05 rfl F.d (j:=p) (by rw[Zj];simp[ixN];lia) ?_);have B:=F.setD<|u.ds.set p<|u.ds.getD p 0+n;rw[<-List.map_set];refine xifd (eqE (ixlE (fldE rfl B.b bf2) rfl B.d (Jyu<|by rw[Zbg];lia))<|ixtE (ixlE (fldE rfl B.b bf1) rfl (B.x.get g.r) (Joa O)) rfl Ve) (λc=>?_) λc=>?_
 .rw[Jgi,if_pos #[rfl,05]]at c;have P:u.wa.map nI=(u.wa.map λn:Nat=>(n:Int)).map .int:=by rw[Zah];rfl
  have Q:=B.w;obtain⟨j,V⟩:∃j,(u.wa.map λn:Nat=>(n:Int)).findIdx? (· ==(p:Int))=J j:=by cases z:(u.wa.map λn:Nat=>(n:Int)).findIdx? (· ==(p:Int))with|none=>have:=Zb5.mp z p<|Z6.mpr #[p,hp,rfl];simp at this|some j=>exact#[j,rfl]
  refine Qb (VC (fldE rfl B.b bf4) Q Jra<|Jd (arg1 rfl)<|xrem (by rw[<-P];exact Q) V #[rfl,?_]);have b7:=B.setW<|u.wa.erase p;unfold doM;rw[if_pos<|show _=lnN cs p from c,<-P,Js2,Jry V];exact b7
 .rw[Jgi,if_pos #[rfl,05]]at c;refine xnil #[rfl,?_];unfold doM;rw[if_neg<|show ¬_=lnN cs p from c];exact B
end
end
section
seal L4.run
section
variable{kD R D hJ W S:Nat}
theorem bp0:putI "order" (.ref kD) ([]:Wm)=(bfs kD 0 0 0 0 0 0).take 1:=02
theorem bp1:putI "row" (.ref R) ((bfs kD 0 0 0 0 0 0).take 1)=(bfs kD R 0 0 0 0 0).take 2:=02
theorem bp2:putI "dones" (.ref D) ((bfs kD R 0 0 0 0 0).take 2)=(bfs kD R D 0 0 0 0).take 3:=02
theorem bp3:putI "later" (.ref hJ) ((bfs kD R D 0 0 0 0).take 3)=(bfs kD R D hJ 0 0 0).take 4:=02
theorem bp4:putI "waiting" (.ref W) ((bfs kD R D hJ 0 0 0).take 4)=(bfs kD R D hJ W 0 0).take 5:=02
theorem bp5:putI "turn" (.int 0) ((bfs kD R D hJ W 0 0).take 5)=(bfs kD R D hJ W 0 0).take 6:=02
theorem bp6:putI "stretches" (.ref S) ((bfs kD R D hJ W 0 0).take 6)=bfs kD R D hJ W 0 S:=02
end
theorem Jsu:∀{ys:Tx}{ks:Tq},(∀y∈ys,mk y h=.ok (.int<|kf y) h)->Q5 mk ys ks h=.ok (ks++ys.map kf) h|[],ks,_=>by simp[Q5]|y::ys,ks,q=>by unfold Q5;rw[q y 03];show Q5 mk ys (ks++[kf y]) h=_;rw[Jsu λz j=>q z<|Zr _ j];simp
theorem Jxy:∀p∈lr0 cs,p<cs.length:=λp hp=>by obtain⟨i,j,rfl⟩:=Z6.mp hp;have:=Jkh _ i j;lia
theorem J3v(cs:Uc):(ordK (cs.map rdC).reverse cs.length).map (λi=>(rngI 0 (cs.length:Int)).reverse.getD i .non)=(lr0 cs).map nI:=by
 unfold lr0;rw[Zah];refine Zdl λi j=>?_
 have m:=Jkh _ i j;rw[XQ];have l2:i<(((ZR cs.length).map λk=>((k:Nat):Int)).map IV.int).reverse.length:=by simpa using m
 rw[ZaP,Zx,Zd l2,List.getElem_reverse];simp
theorem Jov(cs:Uc):(lr0 cs).Perm (ZR cs.length):=by
 by_cases j:cs.length=0
 .unfold lr0;rw[j,Jv9];exact .refl _
 have:=(Je4 (cs.map rdC).reverse<|Nat.pos_of_ne_zero j).map λi=>cs.length-1-i
 refine this.trans ?_;have e:(ZR cs.length).map (λi=>cs.length-1-i)=(ZR cs.length).reverse:=by
  refine Zbl 03 λi k L=>?_
  simp
 rw[e];exact List.reverse_perm _
theorem ds0(cs:Uc)(p:Nat):(s0 cs).ds.getD p 0=0:=by show(cs.map λ_=>(0:Int)).getD p 0=0;rw[Zx,Z4];cases cs[p]?<;>rfl
theorem wf0(l1:∀c∈cs,1<=c.len):Wf cs (s0 cs):=by
 have k:=Jov cs;have e:(s0 cs).lr++(s0 cs).wa=lr0 cs:=ZbS _;refine#[by simp[s0],λp hp=>Jxy p<|e▸hp,by rw[e];exact k.nodup_iff.mpr ZdY,λp hp=>?_,λp j hp=>absurd (k.mem_iff.mpr<|Zaw.mpr j)<|e▸hp];have j:=Jxy p<|e▸hp;rw[ds0];have:1<=lnN cs p:=l1 _<|by simp_all
 lia
theorem Wf.step(w:Wf cs s)(ne:¬(s.lr=[]/\s.wa=[])):Wf cs (Vu kind rs cs s)/\mea rs cs (Vu kind rs cs s)<mea rs cs s:=by have k:=w.let;have m:=J3u cs s;have le:=J0b rs cs s;obtain⟨p,j⟩:=Jtc<|Jxw ne;unfold Vu goM;rw[j.eq];obtain⟨_,b⟩:=Jmu (rs:=rs) m<|k.z p<|Zp _ j.1;have u:=J1b (hsN rs cs p) ((letM cs s).ds.getD p 0)<|lnN cs p;exact#[k.do j.1 05,ZF (J3z k m j.1) le]
theorem Jpf(p:Nat)(t u:Int)(sr:Wa):(V8 p t u sr).length<=sr.length+1:=by
 unfold V8;split
 .simp
 .split<;>simp
theorem Jo2{s:Bs}(h:s.lr=[]/\s.wa=[]):runM kind rs cs m s=s:=by cases m with|zero=>rfl|succ m=>exact if_pos h
theorem Jx3:∀(m:Nat)(s:Bs),Wf cs s->mea rs cs s<=m->Wf cs (runM kind rs cs m s)/\(runM kind rs cs m s).lr=[]/\(runM kind rs cs m s).wa=[]
 |m,s,w,lm=>by
  by_cases ne:s.lr=[]/\s.wa=[]
  .rw[Jo2 ne];exact#[w,ne]
  .obtain⟨j,lt⟩:=w.step (rs:=rs) ne;cases m with
   |zero=>lia
   |succ m=>rw[show runM kind rs cs (m+1) s=runM kind rs cs m (Vu kind rs cs s)from if_neg ne];exact Jx3 m _ j 05
theorem mea0(l6:∀r∈rs,r.2.length<=6)(j:∀c∈cs,c.at_<rs.length):mea rs cs (s0 cs)<=8*cs.length:=by
 have m:((ZR cs.length).map<|VJ rs cs (s0 cs).ds).sum<=((ZR cs.length).map λ_=>6).sum:=Jo8 λp hp=>by
  have B:=Zaw.mp hp;have ca:(cs.getD p cd).at_<rs.length:=j _<|by simp_all
  have:=l6 _<|Z5 ca;refine ZM (Zbk _ _) ?_;unfold hsN;rw[XD ca];exact this
 have u:=Zbk (λp=>decide ((s0 cs).t<rdN cs p)) (s0 cs).lr;have k:(s0 cs).lr.length=cs.length:=by have:=(Jov cs).length_eq;rwa [Zbc]at this
 have C:((s0 cs).lr++(s0 cs).wa).length=cs.length:=by rw[show(s0 cs).lr++(s0 cs).wa=(s0 cs).lr from ZbS _];exact k
 rw[List.map_const',List.sum_replicate_nat,Zbc]at m;unfold mea;lia
theorem Jzg:(finM kind rs cs).sr.length<=8*cs.length:=by
 have:∀(m:Nat)(s:Bs),(runM kind rs cs m s).sr.length<=s.sr.length+m:=by
  intro m;induction m with|zero=>intro s;exact Zq _|succ m j=>
   intro s;unfold runM;split
   .lia
   .have k:=j<|Vu kind rs cs s;have L:(Vu kind rs cs s).sr.length<=s.sr.length+1:=Jpf _ _ _ _;lia
 have:=this (8*cs.length)<|s0 cs;have e:(s0 cs).sr.length=0:=rfl;unfold finM;lia
section
variable{k:Nat}{h:IH}{kind:Int}{rs:Ub}{cs:Uc}{kD R:Nat}
theorem Jz0(g:Bg h kind rs cs kD R)(Y:h[1]?=J (.tab "Bench.__init__"))(O:cs.length<64):WR (Jcp (k+2) [.ref h.length,.ref kD,.ref R]<|h++[.ins "Bench" []]) λv h'=>v=.non/\∃D hJ W S,Bn h h' h.length kD R D hJ W S (s0 cs):=by
 have hb:=J0;rw[Jj1];refine xfin<|xseq<|QJ rfl rfl grown 01 ?_;rw[bp0,Xr];refine xseq (QJ rfl rfl grown (by show(1:Nat)<1000;decide) ?_);rw[bp1,Xr];have C:Ex h (h++[.ins "Bench"<|(bfs kD R 0 0 0 0 0).take 2]):=.one _ _;have g1:(h++[IX.ins "Bench"<|(bfs kD R 0 0 0 0 0).take 2])[h.length]?=J (.ins "Bench"<|(bfs kD R 0 0 0 0 0).take 2):=grown;generalize h++[IX.ins "Bench"<|(bfs kD R 0 0 0 0 0).take 2]=j at C g1;refine xseq ?_;rw[YQ];refine WR.mono (Qh (h:=j) (xs:=cs.map tupC) (f:=λ_=>.int 0) ?_ (by rw[Zj];lia) (λL q=>q _ _<|C.get g.r) λv hv L q=>Jd rfl #[rfl,.refl _]) ?_
 .rw[JZ];exact Jd rfl ((Qa _).mpr #[_,C.get g.r,rfl,rfl,rfl])
 rintro _ _ ⟨rfl,E,rfl⟩;have P:=JC g1;refine Jd rfl #[_,_,_,rfl,grow g1,by show(2:Nat)<1000;decide,?_];rw[bp2];have m:=Vj (i:=h.length) (o:=.ins "Bench"<|(bfs kD R j.length 0 0 0 0).take 3) (C.trans<|Ex.cons j (.lst<|(cs.map tupC).map λ_=>.int 0) E)<|Zq _;have g2:=QE (o':=.ins "Bench"<|(bfs kD R j.length 0 0 0 0).take 3)<|grow g1 (g:=.lst ((cs.map tupC).map λ_=>.int 0)::E);have d2:=JB (i:=h.length) (o':=.ins "Bench"<|(bfs kD R j.length 0 0 0 0).take 3) (J6 (h:=j) (o:=.lst<|(cs.map tupC).map λ_=>.int 0) (g:=E)) 05;generalize j.length=D at *;generalize (j++IX.lst ((cs.map tupC).map λ_=>.int 0)::E).set h.length (.ins "Bench"<|(bfs kD R D 0 0 0 0).take 3)=L at m g2 d2;have ks:Q5 (λv h'=>X7 (k+1) [J v,J<|.ref R] h') (rngI 0 (cs.length:Int)) [] L=.ok (cs.map rdC) L:=by
  have:=Jsu (mk:=λv h'=>X7 (k+1) [J v,J<|.ref R] h') (kf:=λv=>match v with|.int p=>rdN cs p.toNat|_=>0) (h:=L) (ys:=rngI 0 (cs.length:Int)) (ks:=[]) λy I=>by rw[XQ,ZaP,Zah]at I;obtain⟨p,hp,rfl⟩:=Z6.mp I;have V:=Zaw.mp hp;show X7 (k+1) [J<|nI p,J<|.ref R] L=.ok (.int<|rdN cs<|Zbx (p:Int)) L;rw[ZaP];exact Jn (arg1<|ixlE rfl rfl (m.get g.r) (Joa V)) Jgm
  rw[this,Zav,XQ,ZaP,Zah,Zah];congr 1;refine Zbl 03 λi j L=>?_
  have U:i<cs.length:=by simpa using L
  simp only[ZX,ZcA,Function.comp,ZaP,rdN];rw[Zx,Zd U];rfl
 have Z:Yw "Bench.__init__" 1 [2] (Jb (eCB (on1 lenI)<|Jb 'c' Je) Je) (X7<|k+1) [J<|.ref h.length,J<|.ref kD,J<|.ref R] L=.ok (.ref L.length) (L++[.lst<|(lr0 cs).reverse.map nI]):=by unfold Yw;rw[arg1<|lenE rfl (m.get g.r),Zj];show(match [IV.int (cs.length:Int)],L[1]? with|[.int n],J (.tab q')=>_|_,_=>_)=_;rw[m.get Y];show(if _ then _ else _)=_;rw[if_pos #[rfl,05,05]];show(Q5 (λv h'=>X7 (k+1) [J v,J<|.ref R] h') (rngI 0 (cs.length:Int)) [] L).bind _=_;rw[ks];show YE Zg (rngI 0 (cs.length:Int)).reverse (cs.map rdC).reverse L=_;unfold YE;rw[show(rngI 0 (cs.length:Int)).reverse.length=cs.length by rw[Zdk,XQ];simp,J3v,List.map_reverse];rfl
 refine xseq (QJ Z rfl (grow g2) (by show(3:Nat)<1000;decide) ?_);rw[bp3];have lt2:=JC d2;have H:=Vj (i:=h.length) (o:=.ins "Bench"<|(bfs kD R D L.length 0 0 0).take 4) (m.trans<|Ex.one L<|.lst<|(lr0 cs).reverse.map nI)<|Zq _;have B:=QE (o':=.ins "Bench"<|(bfs kD R D L.length 0 0 0).take 4)<|grow g2 (g:=[.lst<|(lr0 cs).reverse.map nI]);have G:=JB (i:=h.length) (o':=.ins "Bench"<|(bfs kD R D L.length 0 0 0).take 4) (grow d2 (g:=[.lst<|(lr0 cs).reverse.map nI])) 05;have F:=JB (i:=h.length) (o':=.ins "Bench"<|(bfs kD R D L.length 0 0 0).take 4) (grown (h:=L) (o:=.lst<|(lr0 cs).reverse.map nI)) 05;generalize L.length=hJ at *;generalize (L++[IX.lst<|(lr0 cs).reverse.map nI]).set h.length (.ins "Bench"<|(bfs kD R D hJ 0 0 0).take 4)=u at H B G F;have X:=JC F;refine xseq ?_;rw[YQ];refine xlst (Jd rfl #[ZN _,Jd rfl #[_,_,_,rfl,grow B,by show(4:Nat)<1000;decide,?_]]);rw[bp4];refine xseq (QJ rfl rfl (QE<|grow B) (by show(5:Nat)<1000;decide) ?_);rw[bp5,Zet];unfold Jdi;rw[YQ];refine xlst (Jd rfl #[ZN _,Jd rfl #[_,_,_,rfl,grow<|QE<|grow B,by show(6:Nat)<1000;decide,rfl,?_]]);rw[bp6];have M:=grown (h:=u) (o:=.lst []);have Q:=JC M;rw[Z0,ZaA]at Q;have ln:(List.set (u++[IX.lst []]) h.length<|.ins "Bench"<|(bfs kD R D hJ u.length 0 0).take 6).length=u.length+1:=by rw[Zbg,Z0,ZaA]
 refine#[D,hJ,u.length,_,Vj ((Vj (H.trans<|.one _ _)<|Zq _).trans<|.one _ _)<|Zq _,#[Zq _,05,05,05,05],QE<|grow<|QE<|grow B,JB (grow<|JB (grow ?_) 05) 05,JB (grow<|JB (grow F) 05) 05,JB (grow<|JB M 05) 05,JB grown 05];rw[G];simp[s0]
theorem Jx2(g:Bg h kind rs cs kD R)(V:h[1]?=J (.tab "Bench.__init__"))(hJ:Legal rs cs)(C:cs.length<64):
  WR (X1 (k+7) [.ref kD,.ref R] h) λv h'=>∃j,v=.ref j/\h.length<=j/\h'[j]?=J (.lst<|(finM kind rs cs).sr.reverse.map tupS)/\Ex h h':=by
 obtain⟨Du,I,Q⟩:=Jkg g.o;have O:Wf cs (s0 cs):=wf0 λc G=>(hJ.ok c G).n1
 rw[Jxp];refine xfin<|xseq<|Qb<|xb<|Jd (arg2 (Q _ _ rfl) rfl)<|WR.mono (Jxj (k:=k+1) I g.r hJ g.n) ?_;rintro _ B ⟨rfl,u⟩;have g1:Bg B kind rs cs kD R:=#[g.o.kp u.kp,u.get g.r,g.c,g.l6,u.get g.p1,g.n];refine xseq<|xset ?_;rw[XZ];refine Jd (arg2 rfl rfl)<|WR.mono (Jz0 (k:=k+4) g1 (u.get V) C) ?_;rintro _ L ⟨rfl,D,H,W,S,F⟩;refine#[rfl,xseq ?_];have M:=mea0 g.l6 g.c;have cn:=g.n;refine Jpp (λm U h'=>∃s,U=[J<|.ref kD,J<|.ref R,J<|.ref B.length]/\Bn B h' B.length kD R D H W S s/\Wf cs s/\mea rs cs s<=m/\s.sr.length+m<=8*cs.length/\runM kind rs cs m s=finM kind rs cs) ?_ (show 8*cs.length<1000000 by lia) #[s0 cs,rfl,F,O,M,by simp[s0],rfl];rintro m _ h3 ⟨s,rfl,b,w,Z,Y,E⟩;refine Jd (gtE (addE (lenE (fldE rfl b.b bf3) b.l)<|lenE (fldE rfl b.b bf4) b.w) rfl)<|xdec (λc=>?_) λc=>?_
 .have ne:¬(s.lr=[]/\s.wa=[]):=λ⟨a,z⟩=>by rw[a,z]at c;exact absurd c 03
  obtain⟨P,lt⟩:=w.step (rs:=rs) ne;cases m with|zero=>lia|succ m=>
   refine#[m,rfl,Qb<|Qr rfl b.b bn4 (Jh4 _) (Jd rfl (WR.mono (J6o (k:=k) g1 w ne 05 b) ?_))];rintro _ h4 ⟨rfl,X⟩;refine#[_,rfl,X,P,05,?_,?_]
   .have:=Jpf (XM kind rs cs (letM cs s).ds (letM cs s).wa) (letM cs s).t ((letM cs s).t+Qv rs cs (letM cs s) (XM kind rs cs (letM cs s).ds (letM cs s).wa)) s.sr;have:(Vu kind rs cs s).sr.length<=s.sr.length+1:=this;lia
   .rw[<-E];exact(if_neg ne).symm
 .have ne:s.lr=[]/\s.wa=[]:=by simp at c;exact#[ZbQ.mp 05,ZbQ.mp 05]
  rw[Jo2 ne]at E;refine xret<|Jd (fldE rfl b.b bf6) #[S,rfl,?_,?_,u.trans b.x]
  .have:=b.ap;have:=JC F.b;obtain⟨gg,rfl⟩:=u;rw[Z0]at *;lia
  .rw[<-E];exact b.s
end
end
noncomputable def gI (v:IV):Zco:=match v with|.int x=>.int x|.tup xs=>.tuple (xs.map λv=>match v with|.int x=>.int x|_=>.none)|_=>.none
theorem Jvw(ns:Tq):ZJ (ns.map PyData.int)=Zg:=by induction ns with|nil=>rfl|cons n ns j=>rw[ZL,ZJ,j];rfl
def Pl(v:IV):Prop:=(∃x,v=.int x)\/∃ns:Tq,v=.tup (ns.map .int)
section
variable{k:Nat}{h:IH}
theorem Jx0(n:Nat):∀ns:Tq,(ns.map IV.int).mapM (toD h<|n+1)=J (ns.map PyData.int)|[]=>rfl|x::ns=>by rw[ZL,Za5,Jx0 n ns];rfl
theorem Jzh(ns:Tq):gI (.tup<|ns.map .int)=.tuple (ns.map PyData.int):=by show Zdq _=_;rw[Zah];rfl
theorem J8e(n:Nat)(q:Pl v):toD h (n+2) v=J (gI v)/\(gI v).canLay0=Zg:=by
 rcases q with⟨x,rfl⟩|⟨ns,rfl⟩
 .exact#[rfl,rfl]
 .rw[Jzh];refine#[?_,by rw[ZH];exact Jvw ns];show((ns.map IV.int).mapM<|toD h<|n+1).map Zdq=_;rw[Jx0];rfl
theorem J2j(hi:h[i]?=J (.lst xs))(q:∀x∈xs,Pl x):toD h (n+3) (.ref i)=J (.list<|xs.map gI):=by rw[V9 hi,Y4 λx hx=>(J8e n<|q x hx).1];rfl
theorem Jz8{xs:Tx}(q:∀x∈xs,Pl x):ZJ (xs.map gI)=Zg:=Jou λx hx=>(J8e (h:=[]) 0<|q x hx).2
theorem Jzb{i j:Nat}{xs:Tx}(hi:h[i]?=J (.lst xs))(m:h[j]?=J (.lst xs))(q:∀x∈xs,Pl x):cEq (.ref i) (.ref j) h=.ok (.bl Zg) h:=by
 have l:(Zd6<|xs.map gI).canLay0=Zg:=by rw[ZH];exact Jz8 q
 have k:Qm (.ref i) (.ref j) h=J Zg:=by unfold Qm;rw[J2j hi q,J2j m q];dsimp only;rw[if_pos #[l,l],Jj0 _ l]
 unfold cEq;rw[show Vt (.ref i) (.ref j)=Zc from rfl];dsimp only;rw[k]
end
section
seal L4.run L4.WS
abbrev St3:=Nat×Int×Int
abbrev _root_.Tu:=List St3
def endP(p:Nat):Tu->Wz|[]=>Zc|a::l=>match endP p l with|some e=>J e|none=>if a.1=p then J a.2.2 else Zc
theorem Jlj:∀{l:Tu},endP p (l++[a])=if a.1=p then J a.2.2 else endP p l
 |[]=>by simp[endP]
 |b::l=>by
  rw[Zac,endP,Jlj,endP];by_cases e:a.1=p
  .rw[if_pos e,if_pos e]
  .rw[if_neg e,if_neg e]
theorem Jrt{l:Tu}{n p:Nat}(e:l[n]?=J a):endP p (l.take<|n+1)=if a.1=p then J a.2.2 else endP p (l.take n):=by have hn:=(Zo.mp e).1;rw[Zbd hn,Jlj,(Zo.mp e).2]
theorem Jlk{p:Nat}:∀{l:Tu},p∈l.map (·.1)->(endP p l).isSome=Zg
 |a::l,e=>by
  rw[endP];cases q:endP p l with
  |some z=>rfl
  |none=>
   rcases ZA.mp e with e|e
   .rw[if_pos e.symm];rfl
   .have:=Jlk e;rw[q]at this;cases this
def Vo(kind:Int)(rs:Ub)(cs:Uc):Tq:=(ZR cs.length).map λp=>(endP p (finM kind rs cs).sr.reverse).getD 0
theorem J4p(hJ:Legal rs cs)(k:∀r∈rs,r.2.length<=6)(B:p<cs.length):(endP p (finM kind rs cs).sr.reverse).isSome=Zg:=by
 obtain⟨u,C,m⟩:=Jx3 (8*cs.length) (s0 cs) (wf0 λc j=>(hJ.ok c j).n1)<|mea0 k λc j=>(hJ.ok c j).at_
 refine Jlk ?_;rw[List.map_reverse,List.mem_reverse];exact u.dn p B<|by rw[C,m];simp
theorem Jwd(kvs:Wn)(k:Key)(v:IV):(putD kvs k v).length<=kvs.length+1:=by unfold putD;split<;>simp
def endF(ss:Tu)(v:IV):IV:=match v with|.int x=>.int<|(endP x.toNat ss).getD 0|_=>.non
theorem Ju4(j:Tu)(n:Nat):(rngI 0 (n:Int)).map (endF j)=((ZR n).map λp=>(endP p j).getD 0).map .int:=by
 rw[Zah];refine Zbl (by rw[Zj,Qp,Zj,Zbc];lia) λi k L=>?_
 rw[ZX,V6,ZX,ZcA];simp[endF]
section
variable{k:Nat}{h:IH}{kind:Int}{rs:Ub}{cs:Uc}{kD R:Nat}
theorem Jru(g:Bg h kind rs cs kD R)(W:h[1]?=J (.tab "Bench.__init__"))(hJ:Legal rs cs)(E:cs.length<64):
  WR (Yg (k+8) [.ref kD,.ref R] h) λv h'=>∃j,v=.ref j/\h.length<=j/\h'[j]?=J (.lst<|(Vo kind rs cs).map .int)/\Ex h h':=by
 have X:=J0;have sp:=λp (V:p<cs.length)=>J4p (kind:=kind) hJ g.l6 V
 have M:=Jzg (kind:=kind) (rs:=rs) (cs:=cs);rw[<-Zdk]at M;rw[Jr5];refine xfin<|xseq<|xset<|Jd rfl (xseq<|xfor ?_);rw[JZ];have B:Ex h (h++[IX.dct []]):=.one _ _;have g1:(h++[IX.dct []])[h.length]?=J (.dct []):=grown;have l1:(h++[IX.dct []]).length=h.length+1:=03;generalize h++[IX.dct []]=Y at B g1 l1;refine xb<|Jd (arg2 rfl rfl)<|WR.mono (Jx2 (k:=k) #[g.o.kp B.kp,B.get g.r,g.c,g.l6,B.get g.p1,g.n] (B.get W) hJ E) ?_;rintro _ L ⟨F,rfl,Z,H,D⟩;unfold Vo;generalize (finM kind rs cs).sr.reverse=u at sp M H ⊢;refine(Qa _).mpr #[_,H,?_];have G:=D.get<|B.get g.r;have lR:=JC g.r;refine Vb (λn U h'=>∃a m,U=[J<|.ref kD,J<|.ref R,J<|.ref h.length,a]/\h'[h.length]?=J (.dct m)/\m.length<=n/\KpB h.length L h'/\∀p:Nat,valI m (.inl (p:Int))=(endP p<|u.take n).map .int) (λn U h' ⟨_,_,_,_,_,C,_⟩=>C _ _ 05 H) ?_ ?_ #[_,[],rfl,D.get g1,Zq _,λ_ _ _ e=>e,λp=>rfl]
 .rintro n hn _ h3 ⟨a,m,rfl,gd,ld,C,ev⟩;have hn:n<u.length:=by simpa using hn
  have en:u[n]?=J u[n]:=Zd hn;have st:∀p,endP p (u.take<|n+1)=_:=λp=>Jrt en
  rw[ZX];generalize u[n]=b at en st;refine xnx rfl ((Ya ..).mpr<|Jd (ixtE rfl rfl Qd) ?_);rw[Jn6];refine Jd rfl (Jd (ixtE rfl rfl JV) ?_);rw[Jkx gd 05];refine#[_,_,rfl,QE gd,ZM (Jwd ..) 05,λj o Q e=>JB (C j o Q e)<|ZP Q,λp=>?_];rw[Jgo,st,ev];by_cases e:b.1=p
  .rw[if_pos e,if_pos<|by rw[e]];rfl
  .rw[if_neg e,if_neg λz=>e (by cases z;rfl)]
 .rintro _ O ⟨a,m,rfl,gd,ld,C,ev⟩;rw[Zj,ZdW]at ev;have I:=C _ _ (show R≠h.length by lia) G;have S:Ex h O:=Jzc λj o e=>C j o (by have:=JC e;lia)<|D.get<|B.get e
  refine xret (WR.mono (Qh (h:=O) (xs:=rngI 0 (cs.length:Int)) (f:=endF u) ?_ (by rw[Qp];lia) (λ_ _=>trivial) ?_) ?_)
  .rw[Xu];refine Jd (arg1<|lenE rfl I) ?_;rw[Jkw,Zj];exact#[05,rfl,rfl,rfl]
  .intro x hx h5 q;obtain⟨n,hn,rfl⟩:=Zab.mp hx;rw[V6,show(0+(n:Int))=(n:Int) by lia];rw[Qp]at hn;have P:=sp n 05;cases eq:endP n u with|none=>rw[eq]at P;cases P|some e=>have ev:=ev n;rw[eq]at ev;unfold Jit;refine Jd ((binE rfl rfl).trans<|Js<|by rw[Jug (q _ _ gd) ev];exact#[rfl,rfl]) #[?_,.refl _];show _=IV.int ((endP (Zbx n) u).getD 0);rw[show Zbx (n:Int)=n by lia,eq];rfl
  .rintro _ _ ⟨rfl,gg,rfl⟩;exact#[_,rfl,S.len,by rw[J6,Ju4],S.trans<|.cons _ _ _]
def J0c(kind:Int)(rs:Ub)(cs:Uc):Tq:=((ZR cs.length).filter λp=>decide (duC rs (cs.getD p cd)<(Vo kind rs cs).getD p 0)).map λ(n:Nat)=>(n:Int)
def cmE(cs:Uc)(n:Nat):IV:=.tup [.int (n:Int),tupC<|cs.getD n cd]
theorem Jgh(cs:Uc):Q3 0 (cs.map tupC)=(ZR cs.length).map (cmE cs):=by
 refine Zbs λi=>?_
 rw[Jez,Z4,Z4];by_cases j:i<cs.length
 .rw[Zd j,Zdi j];simp[cmE,j]
 .simp_all
noncomputable def stE (v:IV):ISt:=match v with|.tup [i,c]=>[J i,J c]|_=>[]
def fsE(v:IV):IV:=match v with|.tup [i,_]=>i|_=>.non
def J6y(kind:Int)(rs:Ub)(cs:Uc)(v:IV):Bool:=match v with|.tup [.int i,_]=>decide (duC rs (cs.getD i.toNat cd)<(Vo kind rs cs).getD i.toNat 0)|_=>Zi
theorem Jza(hn:n<cs.length):atI ((Vo kind rs cs).map IV.int) (n:Int)=J (.int<|(Vo kind rs cs).getD n 0):=by
 have l:n<(Vo kind rs cs).length:=by simpa[Vo]using hn
 exact JH<|by simp_all
theorem Js4(g:Bg h kind rs cs kD R)(F:h[1]?=J (.tab "Bench.__init__"))(hJ:Legal rs cs)(B:cs.length<64):
  WR (Jga (k+9) [.ref kD,.ref R] h) λv h'=>∃j,v=.ref j/\h.length<=j/\h'[j]?=J (.lst<|(J0c kind rs cs).map .int)/\Ex h h':=by
 have S:=J0;rw[Jlu];refine xfin<|xseq<|xset<|xb<|Jd (arg2 rfl rfl)<|WR.mono (Jru (k:=k) g F hJ B) ?_;rintro _ L ⟨E,rfl,P,D,u⟩;have m:=u.get g.r;refine xret (WR.mono (Jw7 (h:=L) (xs:=Q3 0<|cs.map tupC) (n:=2) (st:=stE) (p:=J6y kind rs cs) (f:=fsE) ?_ (by rw[VL,Zj];lia) (λC q=>q _ _ m) ?_ ?_ ?_) ?_)
 .rw[Xu];exact Jd (arg1 rfl)<|(Jn5 _).mpr #[_,m,rfl,rfl,rfl]
 .intro x hx G C l2;rw[Jgh]at hx;obtain⟨n,_,rfl⟩:=Z6.mp hx;match G,l2 with|[a,b],_=>exact#[rfl,rfl]
 .intro x hx C q;rw[Jgh]at hx;obtain⟨n,hn,rfl⟩:=Z6.mp hx;have hn:=Zaw.mp hn;obtain⟨O,M,H⟩:=Jkg<|(g.o.kp u.kp).kp q;have I:cs.getD n cd∈cs:=by rw[Zx,Zd hn];exact Z5 hn
  unfold Jfu;refine Jd (gtE (ixlE rfl rfl (q _ _ D) (Jza hn))<|Jn (arg2 (H _ _ rfl) rfl)<|Jon M<|g.c _ I) #[?_,.refl _];show _=decide (duC rs (cs.getD (Zbx n) cd)<(Vo kind rs cs).getD (Zbx n) 0);rw[show Zbx (n:Int)=n by lia]
 .intro x hx _ C q;rw[Jgh]at hx;obtain⟨n,_,rfl⟩:=Z6.mp hx;exact Jd rfl #[rfl,.refl _]
 .rintro _ _ ⟨rfl,Q,rfl⟩;refine#[_,rfl,u.len,?_,u.trans<|.cons _ _ _];rw[J6,Jgh,List.filter_map,Zah,J0c,Zah];rfl
end
end
section
seal L4.run L4.WS
section
variable{k:Nat}{h:IH}
theorem Jze:∀p:Nat,p<206->(ZW<|toString (p:Int)).length<=1000:=by decide +kernel
theorem Jur{n p:Nat}(e:h[n]?=J (.exc "BadRow" []))(hp:p<206):Jaz (k+1) [.ref n,.int (p:Int)] h=.ok .non (h.set n<|.exc "BadRow" [("place",.int (p:Int))]):=by
 have F:=J0;have l1:=Jze p hp;have l0:(ZW "the row is wrong at place ").length=26:=by decide +kernel
 have E:((p:Int)).natAbs.log2<1920:=by
  have:(p:Int).natAbs.log2<=p:=by rw[Int.natAbs_natCast];exact Nat.log2_le_self p
  lia
 have xo:((pg k).xo "BadRow").isSome=Zg:=02;have xf:xfOf T "place" "BadRow"=Zg:=02;obtain⟨t,u⟩:∃t,eFst [eC<|.str "the row is wrong at place ",eUn fmtI 'b'] [J<|.ref n,J<|.int (p:Int)] h=.ok (.str t) h:=by
  have j:eUn fmtI 'b' [J<|.ref n,J<|.int (p:Int)] h=.ok (.str<|toString (p:Int)) h:=by show(if ((p:Int)).natAbs.log2<1920 then Res.ok (IV.str<|toString (p:Int)) h else .stuck)=_;rw[if_pos E]
  refine#[Zb7++"the row is wrong at place "++toString (p:Int),?_];have B:(Zb7++ZW "the row is wrong at place ").length<=sizeLine:=by rw[ZdC,l0];show 0+26<=_;lia
  have m:(Zb7++ZW "the row is wrong at place "++ZW (toString (p:Int))).length<=sizeLine:=by rw[ZdC,ZdC,l0];show 0+26+_<=_;lia
  show(if (Zb7++ZW "the row is wrong at place ").length<=sizeLine then Y0 [eUn fmtI 'b'] (Zb7++ZW "the row is wrong at place ") [J<|.ref n,J<|.int (p:Int)] h else .stuck)=_;rw[if_pos B];show(eUn fmtI 'b' [J<|.ref n,J<|.int (p:Int)] h).bind _=_;rw[j];show(if (Zb7++ZW "the row is wrong at place "++ZW (toString (p:Int))).length<=sizeLine then Y0 [] (Zb7++ZW "the row is wrong at place "++ZW (toString (p:Int))) [J<|.ref n,J<|.int (p:Int)] h else .stuck)=_;rw[if_pos m];show(if (Zb7++ZW "the row is wrong at place "++ZW (toString (p:Int))).length<=sizeLine then Res.ok (IV.str _) h else .stuck)=_;rw[if_pos m]
 have D:Jb 'a' (Jb (eFst [eC<|.str "the row is wrong at place ",eUn fmtI 'b']) Je) [J<|.ref n,J<|.int (p:Int)] h=.ok [.ref n,.str t] h:=by exact arg2 rfl u
 have j:Yt (λc=>((pg k).xo c).isSome) (Jb 'a'<|Jb (eFst [eC<|.str "the row is wrong at place ",eUn fmtI 'b']) Je) [J<|.ref n,J<|.int (p:Int)] h=.ok .non h:=by unfold Yt;rw[D];show(match h[n]? with|some (.exc c _)=>if ((pg k).xo c).isSome then Res.ok IV.non h else .stuck|_=>.stuck)=_;rw[e];show(if ((pg k).xo "BadRow").isSome then Res.ok IV.non h else .stuck)=_;rw[if_pos xo]
 have C:Jwh (xfOf T "place") "place" 'a' 'b' [J<|.ref n,J<|.int (p:Int)] h=.next [J<|.ref n,J<|.int (p:Int)] (h.set n<|.exc "BadRow" [("place",.int (p:Int))]):=by show(match h[n]? with|some (.exc c [])=>if xfOf T "place" c&&Zg then SRes.next _ (h.set n<|.exc c [("place",.int (p:Int))])else .stuck|_=>.stuck)=_;rw[e];show(if xfOf T "place" "BadRow"&&Zg then _ else SRes.stuck)=_;rw[if_pos<|by rw[xf];rfl]
 refine Js ?_;rw[Jh7];exact xfin<|xseq<|Qb<|Jd j<|xnx C #[rfl,rfl]
theorem Jqu(e:m U h=.ok (.ref n) h1)(hn:h1[n]?=J (.exc c fs))(r:rz c=Zg)(y:YY n U h1):WSE (YA rz m U h) N R YY:=by unfold YA;rw[Xw,e,J7z];dsimp only;rw[hn];dsimp only;rw[if_pos r];exact y
def xcV(b:Bool)(p:Nat):IX:=if b=Zg then .exc "BadRow" [("place",.int (p:Int))]else .exc "TooMany" []
theorem Jun:∃c fs,xcV b p=.exc c fs:=by cases b<;>exact#[_,_,rfl]
def Wr(k:Nat)(h:IH)(D R:Nat)(rs:Ub)(b:Bool)(p:Nat):Prop:=∃xs,h[R]?=J (.lst xs)/\xs.length<=1000/\if b=Zg then xs.length<=200/\∃cs v t,xs=cs.map tupC++v::t/\Legal rs cs/\BadV k h D v/\cs.length=p else 200<xs.length
theorem chkX{D R p:Nat}{rs:Ub}{b:Bool}(d:IsDu h D rs)(w:Wr k h D R rs b p):WE (Yf (k+5) [.ref D,.ref R] h) (λ_ _=>False) λn h'=>h'[n]?=J (xcV b p)/\Ex h h':=by
 have L:=J0;obtain⟨xs,j,F,q⟩:=w;rw[Jiw];refine Vw ?_;rw[Jgw,Q7,Xc];refine WE.of<|Jd (gtE (lenE rfl j) rfl)<|xdec (λz=>?_) λz=>?_
 .cases b with|true=>rw[if_pos rfl]at q;have:=q.1;lia|false=>rw[Jmx];exact WE.of (Jd (arg1 rfl) #[by show 1<=sizeLine;lia,#[_,_,grown],grown,.one _ _])
 .cases b with|false=>rw[if_neg Zt]at q;lia|true=>rw[if_pos rfl]at q;obtain⟨l2,C,v,t,rfl,H,E,rfl⟩:=q;rw[Z0,Zj]at l2 F;obtain⟨_,m,B,rfl,I⟩:=(J2p (k:=k) d j H 05 05 λu G=>by cases G;exact E).eq;rw[if_neg<|List.cons_ne_nil _ _]at B;rw[YS,Jgx,Q7,Jn7];refine WE.of<|Jd (Jn (arg2 rfl rfl) B) ?_;rw[Jgy,Xc];refine WE.of (Jd (tofE<|(binE rfl rfl).trans rfl) #[λ_=>?_,λz=>by cases z]);refine Jqu ?_ grown 02 #[#[_,_,grown],grown,I.trans<|.one _ _];show((Jaz (k+4) [.ref m.length,.int (C.length:Int)]<|m++[.exc "BadRow" []]).bind _)=_;rw[Jur grown (by rw[Zar]at l2;lia),Xr];rfl
theorem runX{kD R p:Nat}{rs:Ub}{kind:Int}{b:Bool}(o:IsOr h kind kD rs)(w:∀D,IsDu h D rs->Wr k h D R rs b p):WE (X1 (k+6) [.ref kD,.ref R] h) (λ_ _=>False) λn h'=>h'[n]?=J (xcV b p)/\Ex h h':=by
 obtain⟨D,d,f⟩:=Jkg o;rw[Jxp];refine Vw ?_;rw[Jq8,Q7,Xv,QI];refine WE.of<|Jd (arg2 (f _ _ rfl) rfl)<|WE.mono (chkX d<|w D d) (λ_ _ z=>z.elim) λn h' z=>#[?_,z]
 obtain⟨c,fs,e⟩:=Jun;exact#[c,fs,by rw[z.1,e]]
theorem xz{b:Bool}{p n:Nat}{h':IH}(z:h'[n]?=J (xcV b p)):∃c fs,h'[n]?=J (.exc c fs):=by obtain⟨c,fs,e⟩:=Jun;exact#[c,fs,by rw[z,e]]
theorem J2m{kD R p:Nat}{rs:Ub}{kind:Int}{b:Bool}(o:IsOr h kind kD rs)(w:∀h1 D,Kp h h1->IsDu h1 D rs->Wr k h1 D R rs b p):WE (Yg (k+7) [.ref kD,.ref R] h) (λ_ _=>False) λn h'=>h'[n]?=J (xcV b p)/\Ex h h':=by
 have j:Ex h (h++[IX.dct []]):=.one _ _;rw[Jr5];refine Vw ?_;rw[Job,Q7,Jn7];refine WE.of<|Jd rfl ?_;rw[Joc,Q7,J18];have:WE (Ji (X1<|k+6) [] (Jb 'a'<|Jb 'b' Je) [J<|.ref kD,J<|.ref R,J<|.ref h.length,Zc]<|h++[IX.dct []]) (λ_ _=>False) λn h'=>h'[n]?=J (xcV b p)/\Ex h h':=by rw[QI];exact WE.of<|Jd (arg2 rfl rfl)<|WE.mono (runX (o.kp j.kp) λD d=>w _ D j.kp d) (λ_ _ z=>z) λn h' z=>#[z.1,j.trans z.2]
 unfold Jv;rw[Jkv];exact WE.mono this (λ_ _ z=>z.elim) λn h' z=>#[xz z.1,z]
theorem J0d{kD R p:Nat}{rs:Ub}{kind:Int}{b:Bool}(o:IsOr h kind kD rs)(w:∀h1 D,Kp h h1->IsDu h1 D rs->Wr k h1 D R rs b p):WE (Jga (k+8) [.ref kD,.ref R] h) (λ_ _=>False) λn h'=>h'[n]?=J (xcV b p)/\Ex h h':=by rw[Jlu];refine Vw ?_;rw[Jir,Q7,Jn7,QI];exact WE.of<|Jd (arg2 rfl rfl)<|WE.mono (J2m o w) (λ_ _ z=>z.elim) λn h' z=>#[xz z.1,z]
theorem J6k{D R p:Nat}{rs:Ub}{b:Bool}(d:IsDu h D rs)(w:Wr k h D R rs b p):WE (Jc6 (k+6) [.ref D,.ref R] h) (λ_ _=>False) λn h'=>h'[n]?=J (xcV b p)/\Ex h h':=by rw[Jhe];refine Vw ?_;rw[Jfs,Q7,Xv,QI];exact WE.of<|Jd (arg2 rfl rfl)<|WE.mono (chkX d w) (λ_ _ z=>z.elim) λn h' z=>#[xz z.1,z]
end
end
section
seal L4.run L4.WS
section
variable{k:Nat}{h:IH}
theorem Jw3(b:Bool):Yh (k+1) [.bl b] h=.ok (.bl Zi) h:=by rw[Jhd];rfl
def whV:IV->Bool|.bl _=>Zi|_=>Zg
theorem bad3:BadV k h D (.tup [.int a,.int b,.int c]):=λj _=>by rw[Jbp];exact xfin<|xseq<|xift rfl (xret<|Jd rfl #[rfl,.refl _])
theorem four(hv:(∃i,v=.int i)\/∃t,v=.bl t):∃g,J1 (Jv 'b') 1 [] (gNm 0) JF (Jan<|k+2) [J<|.ref D,J<|.tup [.int a,.int b,.int c,v],Zc] h=.ok (.ref h.length) (h++IX.lst ([IV.int a,IV.int b,IV.int c,v].map λx=>.bl<|whV x)::g):=by
 have B:=J0;obtain⟨_,_,m,rfl,g,rfl⟩:=(Qh (it:=Jv 'b') (e:=Jan<|k+2) (U:=[J<|.ref D,J<|.tup [.int a,.int b,.int c,v],Zc]) (f:=λx=>.bl<|whV x) #[rfl,rfl,rfl] (by simp;lia) (λ_ _=>trivial) (by
  intro u j L q;have:(∃i,u=.int i)\/∃t,u=.bl t:=by
   simp at j;rcases j with rfl|rfl|rfl|rfl
   .exact .inl #[_,rfl]
   .exact .inl #[_,rfl]
   .exact .inl #[_,rfl]
   .exact hv
  rcases this with⟨i,rfl⟩|⟨t,rfl⟩
  .exact Jd (Jn (arg1 rfl)<|Jc2 _) #[rfl,.refl _]
  .exact Jd (Jn (arg1 rfl)<|Jw3 _) #[rfl,.refl _])).eq
 exact#[g,m]
theorem badB:BadV k h D (.tup [.int a,.int b,.int c,.bl t]):=λm _=>by obtain⟨g,j⟩:=four<|.inr #[t,rfl];rw[Jbp];exact xfin<|xseq<|xiff rfl (xnil<|xseq<|xift (notE (c:=Zi)<|truE<|(cbE<|arg1 j).trans<|all_map J6)<|xret<|Jd rfl #[rfl,.cons _ _ _])
theorem bad4{D:Nat}{a b c d:Int}(hd:IsDu h D rs)(no:∀n:Nat,a=n->∀r,rs[n]?=J r->0<=b->0<=c->c<=r.1.late->1<=d->d<=r.1.len->False):BadV k h D (.tup [.int a,.int b,.int c,.int d]):=λB S=>by
 obtain⟨g,Q⟩:=four (k:=k) (h:=B) (D:=D) (a:=a) (b:=b) (c:=c) (v:=.int d)<|.inl #[d,rfl];rw[Jbp];refine xfin<|xseq<|xiff rfl (xnil<|xseq<|xiff (notE (c:=Zg)<|truE<|(cbE<|arg1 Q).trans<|all_map (f:=whV) J6)<|xnil ?_);have m:Ex B (B++IX.lst ([IV.int a,IV.int b,IV.int c,IV.int d].map λx=>.bl<|whV x)::g):=.cons _ _ _;generalize B++IX.lst ([IV.int a,IV.int b,IV.int c,IV.int d].map λx=>.bl<|whV x)::g=L at m;obtain⟨O,E,w⟩:=hd.kp<|S.trans m.kp;have U:=w.len;have H:JJ cLe cLt '0' (Jc Jg 'b' '0') (Jq (pg<|k+2) "size" 0 'a' Je) [J<|.ref D,J<|.tup [.int a,.int b,.int c,.int d],Zc] L=.ok (.bl<|decide (0<=a)&&decide (a<O.length)) L:=chV (q:=λx y=>decide (x<y)) (λ_ _ _=>rfl) rfl (ixtE rfl rfl JV) (dotE rfl E dls (Jcx _) rfl (Jg7 E));by_cases q:(0<=a/\a<O.length)/\0<=b
 .obtain⟨⟨I,P⟩,G⟩:=q;obtain⟨n,rfl⟩:∃n:Nat,a=n:=#[a.toNat,05];have hn:n<rs.length:=05;obtain⟨j,ev,C⟩:=w.get<|Zd hn;have F:=no n rfl _ (Zd hn) G;generalize rs[n]=r at C F;refine xseq (xiff (orF (okc (notE<|tofE H)<|by rw[decide_eq_true I,decide_eq_true P];rfl)<|okc (ltE (ixtE rfl rfl JN) rfl)<|decide_eq_false<|Int.not_lt.mpr G)<|xnil<|xseq<|xset<|Jd (wkE E rfl (ixtE rfl rfl JV) (JH ev)) ?_);have R:JJ cLe cLe '0' (Jc Jg 'b' '2') (Jp "late" 'c') [J<|.ref D,J<|.tup [.int n,.int b,.int c,.int d],J<|.ref j] L=.ok (.bl<|decide (0<=c)&&decide (c<=r.1.late)) L:=chV (q:=λx y=>decide (x<=y)) (λ_ _ _=>rfl) rfl (ixtE rfl rfl Qd) (fldE rfl C fl4);have M:JJ cLe cLe '1' (Jc Jg 'b' '3') (Jp "length" 'c') [J<|.ref D,J<|.tup [.int n,.int b,.int c,.int d],J<|.ref j] L=.ok (.bl<|decide (1<=d)&&decide (d<=r.1.len)) L:=chV (q:=λx y=>decide (x<=y)) (λ_ _ _=>rfl) rfl (ixtE rfl rfl Ve) (fldE rfl C fl2);refine xret ?_;show WR (eAnd _ _ _ _ _) _;unfold eAnd;refine xb<|Jd R ?_;by_cases z:0<=c/\c<=r.1.late
  .rw[decide_eq_true z.1,decide_eq_true z.2];refine xb<|Jd (show tru (.bl<|Zg&&Zg) L=.ok Zg L from rfl) ?_;rw[if_pos rfl];refine Jd M #[?_,m];by_cases y:1<=d
   .rw[decide_eq_true y,decide_eq_false λu=>F z.1 z.2 y u];rfl
   .rw[decide_eq_false y];rfl
  .have:(decide (0<=c)&&decide (c<=r.1.late))=Zi:=by
    by_cases y:0<=c
    .rw[decide_eq_false λu=>z #[y,u],Bool.and_false]
    .rw[decide_eq_false y,Bool.false_and]
   rw[this];refine xb<|Jd (rfl) ?_;rw[if_neg Zt];exact xok #[rfl,m]
 .refine xseq<|xift ?_<|xret<|Jd rfl #[rfl,m];unfold tOrI;rw[notE<|tofE H];show(if (!(decide (0<=a)&&decide (a<O.length)))=Zg then _ else _)=_;by_cases z:0<=a/\a<O.length
  .rw[decide_eq_true z.1,decide_eq_true z.2,if_neg 01];exact okc (ltE (ixtE rfl rfl JN) rfl) (decide_eq_true (by have:=λu=>q #[z,u];lia))
  .have:(decide (0<=a)&&decide (a<O.length))=Zi:=by
    by_cases y:0<=a
    .rw[decide_eq_false λu=>z #[y,u],Bool.and_false]
    .rw[decide_eq_false y,Bool.false_and]
   rw[this];rfl
end
end
section
seal L4.run L4.WS
section
variable{k:Nat}{h:IH}
theorem J52(k:a U h=.ok (.ref i) h1)(j:b U h1=.ok ys L)(l:Zfn ys.length 1000=Zg)(g:L[i]?=J (.lst xs))(l2:Zfn (xs.length+ys.length) 1000=Zg)(q:∀h3,Ex L h3->P (.ref h3.length) (h3++[.lst<|xs++ys])):WR (Jc Jm a (Jx b) U h) P:=by have m:=J0;have:=ZcO l2;exact Jd ((binE k<|lstE j l).trans<|Js<|(YK ..).mpr #[_,grow g,_,grown,05,rfl,rfl])<|q _<|.one _ _
theorem Jmp{S lo:Nat}{C y:Int}(M:h[S]?=J (.lst ys))(w:RowT h lo ys rs)(G:Gd C rs)(ok:COk rs c):WR (Jbg (k+1) [.int y,.ref S,tupC c] h) λv h'=>Ex h h'/\∀B h1 D,IsDu h1 D rs->BadV B h1 D v:=by
 have hb:=J0;have wl:=w.len;have at_:=ok.at_;have H:=Zd at_;obtain⟨q,ey,_⟩:=w.get H;have E:=JH ey;have o1:=ok.come;have U:=ok.l0;have R:=ok.l1;have o4:=ok.n1;have Q:=ok.n2;have f:=G.f _<|Z5 at_;have f1:=f.l1;have f2:=f.t1;rw[Jj6];generalize hr:rs[c.at_]=r at E H R Q f1 f2;obtain⟨a,b,d,e⟩:=c;dsimp only at H o1 U o4 E R Q;refine xfin<|xseq<|(Ya ..).mpr<|Jd rfl (xnx rfl (xseq<|xset<|Jd (lstE (arg3 (tupE (arg4 (lenE rfl M) rfl rfl rfl) rfl) (tupE (arg4 rfl rfl (addE (ixtE (ixlE rfl rfl M E) rfl X4) rfl) rfl) rfl)<|tupE (arg4 rfl rfl rfl (addE (ixtE (ixlE rfl rfl M E) rfl Qd) rfl)) rfl) rfl)<|xseq<|xset<|J52 rfl (arg3 (tupE (arg4 rfl rfl rfl rfl) rfl) (tupE (arg4 rfl (subE (subE rfl rfl)<|modE (JY rfl rfl 01 01) rfl 01) rfl rfl) rfl)<|tupE (arg4 rfl rfl (subE rfl rfl) rfl) rfl) rfl grown rfl λL X=>xseq<|xset<|J52 rfl (arg3 (tupE (arg4 (subE rfl rfl) rfl rfl rfl) rfl) (tupE (arg4 rfl rfl rfl rfl) rfl)<|tupE (arg3 rfl rfl rfl) rfl) rfl grown rfl λh3 Y=>?_));have j:Ex h h3:=(Ex.one _ _).trans<|X.trans<|(Ex.one _ _).trans Y;have q0:=ZQ y (b:=9) 01;have q1:=ZG y (show(0:Int)<9 by decide);have m:∀{O P I F:Int},(∀n:Nat,O=n->n=a/\(0<=P->0<=I->I<=r.1.late->1<=F->F<=r.1.len->False)\/rs.length<=n)->∀B h1 D,IsDu h1 D rs->BadV B h1 D (.tup [.int O,.int P,.int I,.int F]):=λ{O P I F} Z B h1 D hd=>bad4 hd λn en r' u u1 u2 u3 u4 W=>by
  rcases Z n en with⟨rfl,z⟩|z
  .rw[H]at u;cases u;exact z u1 u2 u3 u4 W
  .have:=(Zo.mp u).1;lia
 have V:y%9=0\/y%9=1\/y%9=2\/y%9=3\/y%9=4\/y%9=5\/y%9=6\/y%9=7\/y%9=8:=05;refine xret ?_;rcases V with z|z|z|z|z|z|z|z|z
 .exact Jd (ixlE rfl (modE rfl rfl 01) grown (by rw[z];rfl)) #[j.trans<|.one _ _,m λn en=>.inr 05]
 .exact Jd (ixlE rfl (modE rfl rfl 01) grown (by rw[z];rfl)) #[j.trans<|.one _ _,m λn en=>.inl #[ZcX.mp en.symm,λ_ _ _ _ _=>05]]
 .exact Jd (ixlE rfl (modE rfl rfl 01) grown (by rw[z];rfl)) #[j.trans<|.one _ _,m λn en=>.inl #[ZcX.mp en.symm,λ_ _ _ _ _=>05]]
 .exact Jd (ixlE rfl (modE rfl rfl 01) grown (by rw[z];rfl)) #[j.trans<|.one _ _,m λn en=>.inl #[ZcX.mp en.symm,λ_ _ _ _ _=>05]]
 .exact Jd (ixlE rfl (modE rfl rfl 01) grown (by rw[z];rfl)) #[j.trans<|.one _ _,m λn en=>.inl #[ZcX.mp en.symm,λ_ _ _ _ _=>05]]
 .exact Jd (ixlE rfl (modE rfl rfl 01) grown (by rw[z];rfl)) #[j.trans<|.one _ _,m λn en=>.inl #[ZcX.mp en.symm,λ_ _ _ _ _=>05]]
 .exact Jd (ixlE rfl (modE rfl rfl 01) grown (by rw[z];rfl)) #[j.trans<|.one _ _,m λn en=>05]
 .exact Jd (ixlE rfl (modE rfl rfl 01) grown (by rw[z];rfl)) #[j.trans<|.one _ _,λB _ D _=>badB]
 .exact Jd (ixlE rfl (modE rfl rfl 01) grown (by rw[z];rfl)) #[j.trans<|.one _ _,λB _ D _=>bad3]
end
end
section
seal L4.run L4.WS
section
variable{k:Nat}{h:IH}
theorem askX{kD D R p:Nat}{rs:Ub}{kind m:Int}{b:Bool}(o:IsOr h kind kD rs)(d:IsDu h D rs)(w:∀k h1 D,Kp h h1->IsDu h1 D rs->Wr k h1 D R rs b p):WE (Xe (k+9) [.int m,.ref kD,.ref D,.ref R] h) (λ_ _=>False) λn h'=>h'[n]?=J (xcV b p)/\Ex h h':=by
 rw[Jfv];refine Vw ?_;rw[Jef,Q7,Xc];refine WE.of<|Jd (tofE<|(binE rfl rfl).trans rfl) #[λ_=>?_,λ_=>?_]
 .rw[Yb,QI];exact WE.of<|Jd (arg2 rfl rfl)<|WE.mono (runX o λD d=>w _ _ D (Ex.refl h).kp d) (λ_ _ z=>z.elim) λn h' z=>#[xz z.1,z]
 rw[YS,Jeg,Q7,Xc];refine WE.of<|Jd (tofE<|(binE rfl rfl).trans rfl) #[λ_=>?_,λ_=>?_]
 .rw[Yb,QI];exact WE.of<|Jd (arg2 rfl rfl)<|WE.mono (J2m o λh1 D=>w _ h1 D) (λ_ _ z=>z.elim) λn h' z=>#[xz z.1,z]
 rw[YS,Jeh,Q7,Xc];refine WE.of<|Jd (tofE<|(binE rfl rfl).trans rfl) #[λ_=>?_,λ_=>?_]
 .rw[Yb,QI];exact WE.of<|Jd (arg2 rfl rfl)<|WE.mono (J0d o λh1 D=>w _ h1 D) (λ_ _ z=>z.elim) λn h' z=>#[xz z.1,z]
 rw[YS,Jei,Yb,QI];exact WE.of<|Jd (arg2 rfl rfl)<|WE.mono (J6k d<|w _ _ D (Ex.refl h).kp d) (λ_ _ z=>z.elim) λn h' z=>#[xz z.1,z]
end
end
section
seal L4.run L4.WS
section
variable{k:Nat}{h:IH}
theorem orX(j:a U h=.ok (.bl Zi) h):eOr a b tru U h=b U h:=by unfold eOr;rw[j];rfl
theorem andX(j:a U h=.ok (.bl Zg) h):eAnd a b tru U h=b U h:=by unfold eAnd;rw[j];rfl
def rfV(b:Bool)(p:Nat):IV:=if b=Zg then .tup [.str "row",.int (p:Int),.bl Zi]else .tup [.str "many",.int 0,.bl Zi]
theorem J0q(o:IsOr h kind kD rs)(d:IsDu h D rs)(w:∀k h1 D,Kp h h1->IsDu h1 D rs->Wr k h1 D R rs b p):WR (Jb4 (k+10) [.int m,.ref kD,.ref D,.ref R] h) λv h'=>v=rfV b p/\Ex h h':=by
 rw[Jid];refine xfin<|xseq<|xset<|Jd (tupE (arg3 rfl rfl rfl) rfl)<|xseq<|Jum _ _ ?_;rw[Xv,QI];refine WE.of<|Jd (arg4 rfl rfl rfl rfl)<|WE.mono (askX o d w) (λ_ _ z=>z.elim) λn h1 z=>?_
 obtain⟨j,B⟩:=z;have u:∀{c fs},h1[n]?=J (.exc c fs)->tyI (.ref n) h1=J (.exc c):=λe=>Jph e
 cases b with|false=>refine#["TooMany",[],j,?_];rw[J5z 02,YR 02];refine xset (Jd (tupE (arg3 rfl rfl ((orX<|isiE rfl (by rw[u j];kernel_rfl)).trans<|isiE (b:=Zi) rfl (by rw[u j];kernel_rfl))) rfl)<|xseq ?_);exact xiff (truE<|isiE (ixtE rfl rfl JN) rfl)<|xnil<|xret<|Jd rfl #[rfl,B]|true=>
  refine#["BadRow",_,j,?_];rw[YR 02];have C:Yu (xfOf T "place") "place" 'f' [J<|.int m,J<|.ref kD,J<|.ref D,J<|.ref R,J<|.tup [.str "none",.int 0,.bl Zg],J<|.ref n] h1=.ok (.int (p:Int)) h1:=by show(match h1[n]? with|some (.exc c [(g,y)])=>if xfOf T "place" c&&decide (g="place")then Res.ok y h1 else .stuck|some (.hld c [(g,y)])=>if xfOf T "place" c&&decide (g="place")then .ok y h1 else .stuck|_=>.stuck)=_;rw[j];exact if_pos 02
  refine xset (Jd (tupE (arg3 rfl C ((orX<|isiE rfl (by rw[u j];kernel_rfl)).trans<|isiE (b:=Zi) rfl (by rw[u j];kernel_rfl))) rfl)<|xseq ?_);exact xiff (truE<|isiE (ixtE rfl rfl JN) rfl)<|xnil<|xret<|Jd rfl #[rfl,B]
theorem J0p(o:IsOr h kind kD rs)(d:IsDu h D rs)(w:∀k h1 D,Kp h h1->IsDu h1 D rs->Wr k h1 D R rs b p):WR (Jag (k+10) [.int m,.ref kD,.ref D,.ref R] h) λv h'=>v=.bl Zg/\Ex h h':=by
 rw[Jc0];refine xfin<|xseq<|xset<|Jd rfl (xseq<|Jum _ _ ?_);rw[Xv,QI];refine WE.of<|Jd (arg4 rfl rfl rfl rfl)<|WE.mono (askX o d w) (λ_ _ z=>z.elim) λn h1 z=>?_
 obtain⟨j,u⟩:=z;cases b with|false=>refine#["TooMany",[],j,?_];rw[YR 02];exact xset (Jd (isiE rfl (by rw[Jph j];kernel_rfl))<|xret<|Jd rfl #[rfl,u])|true=>refine#["BadRow",_,j,?_];rw[YR 02];exact xset (Jd (isiE rfl (by rw[Jph j];kernel_rfl))<|xret<|Jd rfl #[rfl,u])
end
end
section
variable{k:Nat}{h:IH}
theorem notX(j:a U h=.ok (.bl b) h):eUn (VS tru) a U h=.ok (.bl (!b)) h:=by unfold eUn;rw[j];rfl
theorem Jse{rs:Ub}{r:RH}{a:Hd}(j:r∈rs)(ha:a∈r.2):fV (fstK (rs.map (·.2)) a.1)≠.non:=by unfold fstK;cases e:List.findIdx? (has a.1) (rs.map (·.2))with|some i=>intro z;cases z|none=>rw[Zb5]at e;have:=e _<|Z6.mpr #[r,j,rfl];unfold has at this;rw[ZbZ]at this;exact absurd (decide_eq_true rfl)<|this a ha
def HT(h:IH)(n:Nat)(h':IH):Prop:=h'[n]?=J (.exc "HoldsThings" [])/\Ex h h'
theorem Jtk{D:Nat}{rs:Ub}(d:IsDu h D rs)(m:rs.length<=12)(u:∀r∈rs,r.2.length<=6)(yes:∃r∈rs,r.2≠[]):WE (Ym (k+3) [.ref D] h) (λ_ _=>False) (HT h):=by
 have L:=J0;obtain⟨O,E,w⟩:=d;obtain⟨_,I,F,i,j,rfl,H,B,_,G⟩:=(Jd0 (k:=k) E w m u).eq;rw[Jc1];refine Vw ?_;rw[Jcm,Xc];refine WE.of<|Jd (gtE (J3t (Jn (arg1 rfl) F) H) rfl) #[λ_=>?_,λq=>?_]
 .rw[Jmx];exact WE.of (Jd (arg1 rfl) #[by show(1:Nat)<=_;lia,#[_,_,grown],grown,G.trans<|.one _ _])
 .exfalso;obtain⟨r,C,ne⟩:=yes;obtain⟨a,ha⟩:=List.exists_mem_of_ne_nil _ ne;have:=B a.1;cases j with|nil=>exact Jse C ha this.symm|cons x y=>have:=of_decide_eq_false q;rw[Zar]at this;lia
theorem J4e{S lo:Nat}{ys:Tx}{rs:Ub}{j kind:Int}(F:h[S]?=J (.lst ys))(w:RowT h lo ys rs)(G:Gd j rs)(L:kind=1\/kind=2)(yes:∃r∈rs,r.2≠[]):WE (Yj (k+7) [.int kind,.ref S] h) (λ_ _=>False) (HT h):=by
 have M:=G.few;obtain⟨_,m,E,D,rfl,I,B⟩:=(Jnc F w G).eq;have C:∀o,Ex h (m++[o]):=λo=>I.trans<|.one _ _
 rw[Jfw];refine Vw ?_;rw[Jen,Q7,Xc];rcases L with rfl|rfl
 .refine WE.of (Jd (tofE<|(binE rfl rfl).trans rfl) #[λ_=>?_,λz=>by cases z]);rw[Yb,Jt9];refine WE.of<|Jd (arg1<|Jn (arg1 rfl) E) ?_;show WE (Jbf (k+6) [.ref m.length,.ref D] _) _ _;rw[Je1];refine Vw ?_;rw[Jdk,Q7,Xv,QI];exact WE.of<|Jd (arg1 rfl)<|WE.mono (Jtk (B.kp (Ex.one _ _).kp) 05 (λr u=>(G.f r u).ok.few) yes) (λ_ _ z=>z.elim) λn H z=>#[#[_,_,z.1],#[_,_,z.1],z.1,(C _).trans z.2]
 .refine WE.of (Jd (tofE<|(binE rfl rfl).trans rfl) #[(λz=>by cases z),λ_=>?_]);rw[YS,Jeo,Q7,Xc];refine WE.of (Jd (tofE<|(binE rfl rfl).trans rfl) #[λ_=>?_,λz=>by cases z]);rw[Yb,Jt9];refine WE.of<|Jd (arg1<|Jn (arg1 rfl) E) ?_;show WE (Jal (k+6) [.ref m.length,.ref D] _) _ _;rw[Jcn];refine Vw ?_;rw[Jbw,Q7,Xv,QI];exact WE.of<|Jd (arg1 rfl)<|WE.mono (Jtk (B.kp (Ex.one _ _).kp) 05 (λr u=>(G.f r u).ok.few) yes) (λ_ _ z=>z.elim) λn H z=>#[#[_,_,z.1],#[_,_,z.1],z.1,(C _).trans z.2]
theorem Jt3(m:h[S]?=J (.lst ys))(w:RowT h lo ys rs)(G:Gd unit rs)(B:kind=1\/kind=2):WR (Jah (k+8) [.int kind,.ref S] h) λv h'=>v=.bl (rs.any λr=>!r.2.isEmpty)/\Ex h h':=by
 rw[Jfk];refine xfin<|xseq<|xset<|Jd rfl (xseq<|Jum _ _ ?_);rw[Xv,QI];refine WE.of<|Jd (arg2 rfl rfl) ?_;by_cases yes:∃r∈rs,r.2≠[]
 .refine WE.mono (J4e m w G B yes) (λ_ _ z=>z.elim) λn u z=>#[_,_,z.1,?_]
  have e:(rs.any λr=>!r.2.isEmpty)=Zg:=by obtain⟨r,j,ne⟩:=yes;exact ZcU.mpr #[r,j,by cases e:r.2 with|nil=>exact absurd e ne|cons a b=>rfl]
  rw[YR 02,e];have t:∀{b:Bool}(g:Ty->Ww) ,g (.exc "HoldsThings")=J b->(tyI (.ref n) u).bind g=J b:=λg q=>by rw[Jph z.1];exact q
  refine xset<|Jd ((andX<|isiE rfl (t _ 02)).trans<|(andX<|notX<|isiE (b:=Zi) rfl (t _ 02)).trans<|notX<|isiE (b:=Zi) rfl (t _ 02)) ?_;exact xret<|Jd rfl #[rfl,z.2]
 .have no:∀r∈rs,r.2=[]:=λr j=>Classical.byContradiction λz=>yes #[r,j,z]
  obtain⟨v,u,C,E,rfl,D,o⟩:=(Joy m w G (.inr B) λ_=>no).eq;refine WE.of<|Jd C<|xret<|Jd rfl #[?_,D];rw[ZbZ.mpr λr j=>by rw[no r j];decide]
end
section
variable(rs:Ub)(b:Int)
def fuG:Int->Uc->Wz|_,[]=>Zc|s,c::r=>if b<=rdC c then(if duC rs c-b<s+c.len then J (duC rs c)else fuG (s+c.len) r)else fuG s r
end
def oV(o:Wz):IV:=match o with|some x=>.int x|none=>.non
section
variable{k:Nat}{h:IH}
theorem J5x(j:Zcx)(i:Nat)(e:E1):WS (sAug j i e U h) N R=WR (Ja i U h) λx h1=>WR (e U h1) λy L=>WR (ipI j x y L) λz h3=>N (U.set i<|J z) h3:=by unfold sAug;rw[Qw];congr 1;funext x h1;rw[Qw];congr 1;funext y L;rw[Qw];rfl
section
seal L4.run L4.WS
theorem Jw1{bs:Uc}{b:Int}(hd:IsDu h D rs)(m:h[cS]?=J (.lst<|bs.map tupC))(ok:∀c∈bs,c.at_<rs.length):
  WR (Jcr (k+3) [.ref D,.ref cS,.int b] h) λv h'=>v=oV (fuG rs b 0 bs)/\h=h':=by
 generalize u:fuG rs b 0 bs=F;rw[Jj5];refine xfin<|xseq<|xset<|Jd rfl (xseq<|xfor ?_);rw[JZ];refine Jd rfl ((Qa _).mpr #[_,m,?_]);refine Vb (λn U h'=>h=h'/\∃s a,U=[J<|.ref D,J<|.ref cS,J<|.int b,J<|.int s,a]/\F=fuG rs b s (bs.drop n)) (λ_ _ _ q=>by obtain⟨rfl,_⟩:=q;exact m) ?_ ?_ #[rfl,0,Zc,rfl,u.symm]
 .rintro n hn _ _ ⟨rfl,s,a,rfl,e⟩;have j:n<bs.length:=by simpa using hn
  rw[ZX];rw[Za4 j]at e;unfold fuG at e;have ca:=ok _<|Z5 j;generalize bs[n]=c at e ca;refine xnx rfl (xifd (geE (Jn (arg1 rfl) Jgm) rfl) (λz=>?_) λz=>xnil ?_)
  .rw[if_pos z]at e;refine xseq<|(J5x ..).mpr<|Jd rfl (Jd (ixtE rfl rfl Ve)<|Jd rfl (xifd (gtE rfl (subE (Jn (arg2 rfl rfl)<|Jon hd ca) rfl)) (λy=>xret<|Jd (Jn (arg2 rfl rfl)<|Jon hd ca) #[?_,rfl]) λy=>xnil ?_))
   .rw[e,if_pos y];rfl
   .rw[if_neg y]at e;exact#[rfl,_,_,rfl,e]
  .rw[if_neg z]at e;exact#[rfl,_,_,rfl,e]
 .rintro _ _ ⟨rfl,s,a,rfl,e⟩;rw[Zj,ZcL<|Zq _]at e;exact xret (Jd rfl #[by rw[e];rfl,rfl])
end
end
section
variable{mk:IV->IH->Res IV}{kf:IV->Int}{h:IH}
theorem Jpm:∀(ys:Tx)(ks:Tq)(h':IH),Ex h h'->(∀y∈ys,∀h',Ex h h'->WR (mk y h') λv L=>v=.int (kf y)/\Ex h' L)->WR (Q5 mk ys ks h') λv L=>v=ks++ys.map kf/\Ex h' L|[],ks,h',x,_=>#[03,.refl _]|y::ys,ks,h',x,q=>by obtain⟨v,L,e,rfl,x2⟩:=(q y ZB h' x).eq;show WR ((mk y h').nx.bind _) _;rw[e];exact WR.mono (Jpm ys (ks++[kf y]) L (x.trans x2) λy j=>q y<|Zr _ j) λv k ⟨a,b⟩=>#[by rw[a];simp,x2.trans b]
theorem Juk(hi:h[i]?=J (.lst ys))(j:ys.length<64)(hm:∀y∈ys,∀h',Ex h h'->WR (mk y h') λv L=>v=.int (kf y)/\Ex h' L):WR (XT mk i h) λv h'=>∃L,Ex h L/\v=.ref L.length/\h'=L++[.lst<|(ordK (ys.map kf) ys.length).map λi=>ys.getD i .non]:=by unfold XT;rw[hi];dsimp only;rw[if_pos j];obtain⟨v,L,e,rfl,k⟩:=(Jpm ys [] h (.refl _) hm).eq;rw[e];exact#[L,k,rfl,rfl]
theorem Jxb{js:Tr}{m:E1}{Q:IV->IH->Prop}(k:h[j]?=J (.tab q))(hi:U[i]?=J (J<|.ref a)):WR (XC q j js (Jb (Ja i) Je) m U h) Q=WR (XT (λv h'=>m (J v::js.map λj=>(U[j]?).join) h') a h) Q:=by
 have e:Jb (Ja i) Je U h=.ok [.ref a] h:=by unfold Jb Ja Je;rw[hi];rfl
 unfold XC;rw[e];show WR (match h[j]? with|some (.tab q')=>_|_=>_) Q=_;rw[k];dsimp only;rw[if_pos rfl]
theorem Jqt{ns:Tq}(k:WR (e U h) λv h1=>∃i,v=.ref i/\h1[i]?=J (.lst<|ns.map .int)/\Ex h h1)(j:ns.length<64):WR (Yx (Jb e Je) U h) λv h'=>∃h1,Ex h h1/\v=.ref h1.length/\h'=h1++[.lst<|(Qk<|ddN (QO ns) ns.length).map .int]:=by obtain⟨v,h1,q,i,rfl,u,m⟩:=k.eq;unfold Yx Jb Je;rw[q];show WR (match h1[i]? with|some (.lst ys)=>_|_=>_) _;rw[u];dsimp only;rw[Vl];dsimp only;rw[if_pos j];exact#[h1,m,rfl,rfl]
end
def bsOf(rs:Ub)(cs:Uc):Uc:=(ordK (cs.map<|duC rs) cs.length).map λi=>cs.getD i cd
def zsOf(cs:Uc):Tq:=Qk<|ddN (QO<|cs.map rdC) cs.length
theorem Jyy(rs:Ub)(cs:Uc):(bsOf rs cs).Perm cs:=by
 unfold bsOf;have e:(ZR cs.length).map (λi=>cs.getD i cd)=cs:=by
  refine Zbl 03 λi j L=>?_
  simp[L]
 rcases Zc9 cs.length with z|z
 .rw[Zat z];show(List.map _<|ordK _ 0).Perm [];exact .nil
 .have:=(Je4 (cs.map<|duC rs) z).map λi=>cs.getD i cd
  rwa [e]at this
def tfG(rs:Ub)(cs:Uc)(b:Int):Wc:=(fuG rs b 0<|bsOf rs cs).map λu=>(b,u)
def tfO(rs:Ub)(cs:Uc):Wc:=(zsOf cs).findSome?<|tfG rs cs
def tfV(o:Wc):IV:=match o with|some (b,u)=>.tup [.int b,.int u]|none=>.non
def dueV(rs:Ub)(v:IV):Int:=match v with|.tup [.int a,.int b,_,_]=>b+(rs.getD a.toNat rd).1.due|_=>0
def rdV(v:IV):IV:=match v with|.tup [_,.int b,.int c,_]=>.int<|b+c|_=>.non
section
variable{k:Nat}{h:IH}
section
seal L4.run L4.WS
theorem J5e{cs:Uc}(h0:h[0]?=J (.tab "too_full"))(hd:IsDu h D rs)(I:h[R]?=J (.lst<|cs.map tupC))(hJ:Legal rs cs)(hl:cs.length<=14):
  WR (Jc6 (k+6) [.ref D,.ref R] h) λv h'=>v=tfV (tfO rs cs)/\Ex h h':=by
 have hb:=J0;generalize hF:tfO rs cs=F;obtain⟨_,h1,e1,rfl,H⟩:=(Jxj (k:=k) hd I hJ 05).eq;rw[Jhe];refine xfin<|xseq<|Qb<|Jd (Jn (arg2 rfl rfl) e1)<|xseq<|xset ?_;rw[Jxb (H.get h0) rfl];refine WR.mono (Juk (kf:=dueV rs) (H.get I) (by rw[Zj];lia) ?_) ?_
 .intro y Z h' x';obtain⟨c,E,rfl⟩:=Z6.mp Z;exact Jd (Jn (arg2 rfl rfl)<|Jon (hd.kp (H.trans x').kp) (hJ.ok c E).at_) #[rfl,.refl _]
 rintro _ _ ⟨L,W,rfl,rfl⟩;have Y:((ordK ((cs.map tupC).map<|dueV rs) (cs.map tupC).length).map λi=>(cs.map tupC).getD i .non)=(bsOf rs cs).map tupC:=by
  rw[show(cs.map tupC).map (dueV rs)=cs.map (duC rs) by rw[Zah];rfl,Zj];unfold bsOf;rw[Zah];refine Zdl λi X=>?_
  have:=Jkh _ i X;simp[Zx,Zd this]
 rw[Y];have G:=(H.trans W).trans<|.one L<|IX.lst<|(bsOf rs cs).map tupC;have O:(L++[IX.lst<|(bsOf rs cs).map tupC])[L.length]?=J (.lst<|(bsOf rs cs).map tupC):=grown;generalize L++[IX.lst<|(bsOf rs cs).map tupC]=h3 at G O ⊢;generalize L.length=S at O ⊢;refine xseq<|xfor ?_;rw[JZ];refine WR.mono (Jqt (ns:=cs.map rdC) ?_<|by rw[Zj];lia) ?_
 .refine WR.mono (Qh (h:=h3) (xs:=cs.map tupC) (chk:=λh'=>h'[R]?=J (.lst<|cs.map tupC)) (f:=rdV) ?_ (by rw[Zj];lia) (λL q=>q _ _<|G.get I) ?_) ?_
  .rw[JZ];exact Jd rfl ((Qa _).mpr #[_,G.get I,rfl,rfl,rfl])
  .intro v hv j q;obtain⟨c,E,rfl⟩:=Z6.mp hv;exact Jd (Jn (arg1 rfl) Jgm) #[rfl,.refl _]
  .rintro _ _ ⟨rfl,g,rfl⟩;refine#[_,rfl,?_,.cons _ _ _];rw[J6,Zah,Zah];rfl
 rintro _ _ ⟨j,V,rfl,rfl⟩;rw[Zj,show Qk (ddN (QO<|cs.map rdC) cs.length)=zsOf cs from rfl];have C:=(G.trans V).trans<|.one j<|IX.lst<|(zsOf cs).map IV.int;have m:(j++[IX.lst<|(zsOf cs).map IV.int])[S]?=_:=grow<|V.get O;have B:(j++[IX.lst<|(zsOf cs).map IV.int])[j.length]?=J (.lst<|(zsOf cs).map IV.int):=grown;generalize j++[IX.lst<|(zsOf cs).map IV.int]=h5 at C m B ⊢;generalize j.length=Z_ at B ⊢;have M:∀c∈bsOf rs cs,c.at_<rs.length:=λc E=>(hJ.ok c<|(Jyy rs cs).mem_iff.mp E).at_
 refine(Qa _).mpr #[_,B,?_];refine Vb (λn U h'=>h5=h'/\∃a b,U=[J<|.ref D,J<|.ref R,J<|.ref S,a,b]/\F=((zsOf cs).drop n).findSome? (tfG rs cs)) (λ_ _ _ q=>by obtain⟨rfl,_⟩:=q;exact B) ?_ ?_ #[rfl,Zc,Zc,rfl,hF.symm]
 .rintro n hn _ _ ⟨rfl,a,b,rfl,e⟩;have P:n<(zsOf cs).length:=by simpa using hn
  rw[ZX];rw[Za4 P,List.findSome?_cons]at e;generalize (zsOf cs)[n]=z at e;obtain⟨_,_,eu,rfl,rfl⟩:=(Jw1 (k:=k+2) (b:=z) (hd.kp C.kp) m M).eq;refine xnx rfl (xseq<|xset<|Jd (Jn (arg3 rfl rfl rfl) eu) ?_);unfold tfG at e;cases Q:fuG rs z 0 (bsOf rs cs)with|none=>rw[Q]at e;exact xiff (tofE<|(binE rfl rfl).trans rfl)<|xnil #[rfl,_,_,rfl,e]|some u=>rw[Q]at e;exact xift (tofE<|(binE rfl rfl).trans rfl) (xret<|Jd (tupE (arg2 rfl rfl) rfl) #[by rw[e];rfl,C])
 .rintro _ _ ⟨rfl,a,b,rfl,e⟩;rw[Zj,ZcL<|Zq _]at e;exact xret (Jd rfl #[by rw[e];rfl,C])
end
end
section
seal L4.run L4.WS
section
variable{k:Nat}{h:IH}
def askL(kind:Int)(rs:Ub)(cs:Uc)(m:Int):Tx:=if m=0 then(finM kind rs cs).sr.reverse.map tupS else if m=1 then(Vo kind rs cs).map .int else(J0c kind rs cs).map .int
theorem Jxh(g:Bg h kind rs cs kD R)(E:h[1]?=J (.tab "Bench.__init__"))(t1:h[0]?=J (.tab "too_full"))(d:IsDu h D rs)(G:h[R]?=J (.lst<|cs.map tupC))(hJ:Legal rs cs)(F:cs.length<=14)(hm:m=0\/m=1\/m=2\/m=3):WR (Xe (k+10) [.int m,.ref kD,.ref D,.ref R] h) λv h'=>(m=3->v=tfV (tfO rs cs))/\(m≠3->∃j,v=.ref j/\h.length<=j/\h'[j]?=J (.lst<|askL kind rs cs m))/\Ex h h':=by
 rw[Jfv];rcases hm with rfl|rfl|rfl|rfl
 .obtain⟨_,C,u,j,rfl,l1,g1,B⟩:=(Jx2 g E hJ 05).eq;exact xfin (xseq<|xift rfl (xret<|Jd (Jn (arg2 rfl rfl) u) #[(λz=>by cases z),λ_=>#[j,rfl,l1,g1],B]))
 .obtain⟨_,C,u,j,rfl,l1,g1,B⟩:=(Jru g E hJ 05).eq;exact xfin (xseq<|xiff rfl (xnil<|xseq<|xift rfl (xret<|Jd (Jn (arg2 rfl rfl) u) #[(λz=>by cases z),λ_=>#[j,rfl,l1,g1],B])))
 .obtain⟨_,C,u,j,rfl,l1,g1,B⟩:=(Js4 g E hJ 05).eq;exact xfin (xseq<|xiff rfl (xnil<|xseq<|xiff rfl (xnil<|xseq<|xift rfl (xret<|Jd (Jn (arg2 rfl rfl) u) #[(λz=>by cases z),λ_=>#[j,rfl,l1,g1],B]))))
 .obtain⟨_,C,u,rfl,B⟩:=(J5e t1 d G hJ F).eq;exact xfin<|xseq<|xiff rfl (xnil<|xseq<|xiff rfl (xnil<|xseq<|xiff rfl (xnil<|xret<|Jd (Jn (arg2 rfl rfl) u) #[λ_=>rfl,λz=>absurd rfl z,B])))
end
end
section
variable{k:Nat}{h:IH}
theorem Js7{i j:Nat}{g:IV->Zco}(hi:h[i]?=J (.lst xs))(e:∀x∈xs,toD h 5 x=J (g x))(c:∀x∈xs,ZH (g x)=Zg)(B:h[j]?=J (.lst [])):cNe (.ref i) (.ref j) h=.ok (.bl (!xs.isEmpty)) h:=by
 have D:toD h 6 (.ref i)=J (.list<|xs.map g):=by rw[V9 hi,Y4 e];rfl
 have k:toD h 6 (.ref j)=J (.list []):=by rw[V9 B];rfl
 have u:=Jou c;have C:Qm (.ref i) (.ref j) h=J xs.isEmpty:=by unfold Qm;rw[D,k];dsimp only;rw[if_pos #[by rw[ZH];exact u,by rw[ZH,ZJ]],Zbz];cases xs with|nil=>rw[Zeu,Zbv];rfl|cons a E=>rw[ZL,Zbv];rfl;all_goals intros;simp_all
 unfold cNe;have m:Vt (.ref i) (.ref j)=Zc:=rfl;rw[m];dsimp only;rw[C]
end
def gH6(v:IV):Zco:=match v with|.tup [.str x,.int a,.int b]=>.tuple [.str x,.int a,.int b]|_=>.none
def hp(h:IH)(y:IV):Bool:=match y with|.tup [_,_,_,_,_,.ref q]=>(match h[q]? with|some (.lst [])=>Zi|_=>Zg)|_=>Zi
section
variable{k:Nat}{h:IH}
theorem Jsg{r:RH}(g:h[q]?=J (.lst<|r.2.map tupH)):hp h (tp6 r q)=!r.2.isEmpty:=by show(match h[q]? with|some (.lst [])=>Zi|_=>Zg)=_;rw[g];cases r.2<;>rfl
theorem layH{hs:Ua}(nm:∀a∈hs,IsNm a.1):∀x∈hs.map tupH,ZH (gH6 x)=Zg:=λx hx=>by obtain⟨r,j,rfl⟩:=Z6.mp hx;simp only[tupH,gH6,ZH,ZJ];have:=Jxv<|nm r j;rw[ZH]at this;rw[this];rfl
theorem toH6{hs:Ua}:∀x∈hs.map tupH,toD h (n+3) x=J (gH6 x):=λx hx=>by obtain⟨r,_,rfl⟩:=Z6.mp hx;rfl
theorem J1h{r:RH}{q:Nat}(g:h[q]?=J (.lst<|r.2.map tupH))(nm:∀a∈r.2,IsNm a.1):WR (Jep k [J<|tp6 r q] h) λb h'=>b=(!r.2.isEmpty)/\Ex h h':=by have j:atI (IV.str r.1.name::tp5 r q) 5=J (.ref q):=Jyt;refine Jd (tofE<|(binE (ixtE rfl rfl j)<|lstE rfl rfl).trans<|Js7 (grow g) toH6 (layH nm) grown) #[?_,.one _ _];cases r.2<;>rfl
theorem Jy4(e:Ja 3 U h=.ok (.ref S) h)(m:h[S]?=J (.lst ys))(w:RowT h lo ys rs)(nm:∀r∈rs,∀a∈r.2,IsNm a.1)(lr:rs.length<=12):WR (J1 (Jv 'd') 1 [] (gNm 0) (Jep k) (Jg4 k) U h) λv h'=>v=.ref h.length/\∃g,h'=h++.lst ((ys.filter<|hp h).map λv=>v)::g:=by
 have D:=J0;have E:=w.len;refine YM (by rw[JZ];exact Jd e<|(Qa _).mpr #[_,m,rfl,rfl,rfl]) 05 (λL q=>q _ _ m) ?_ ?_
 .intro x hx L B;obtain⟨n,hn,rfl⟩:=Zab.mp hx;have j:n<rs.length:=05;obtain⟨q,C,_,u⟩:=w.at_ n _ _ (Zd hn)<|Zd j;rw[C,Jsg u];exact J1h (B _ _ u)<|nm _<|Z5 j
 .intro x hx _ L B;exact Jd rfl #[rfl,.refl _]
end
def gR6(h:IH)(v:IV):Zco:=(toD h 5 v).getD .none
section
variable{k:Nat}{h:IH}
theorem toR6{r:RH}(g:h[q]?=J (.lst<|r.2.map tupH)):toD h 5 (tp6 r q)=J (.tuple [.str r.1.name,.int r.1.gap,.int r.1.len,.int r.1.due,.int r.1.late,.list<|(r.2.map tupH).map gH6]):=by
 have e:toD h 4 (.ref q)=J (.list<|(r.2.map tupH).map gH6):=by rw[V9 g,Y4<|toH6];rfl
 show([IV.str r.1.name,IV.int r.1.gap,IV.int r.1.len,IV.int r.1.due,IV.int r.1.late,IV.ref q].mapM<|toD h 4).map Zdq=_;rw[Za5,Za5,Za5,Za5,Za5,Za5,e];rfl
theorem Jzm(e:Ja 3 U h=.ok (.ref S) h)(H:h[S]?=J (.lst ys))(w:RowT h lo ys rs)(G:∀r∈rs,IsNm r.1.name)(nm:∀r∈rs,∀a∈r.2,IsNm a.1)(lr:rs.length<=12):WR (Jc cNe (J1 (Jv 'd') 1 [] (gNm 0) (Jep k)<|Jg4 k) (Jx Je) U h) λv h'=>v=.bl (rs.any λr=>!r.2.isEmpty)/\Ex h h':=by
 have M:=w.len;obtain⟨_,L,F,rfl,g,rfl⟩:=(Jy4 e H w nm lr).eq;rw[Zfg]at F;have m:∀y∈ys,∃r∈rs,∃q,y=tp6 r q/\h[q]?=J (.lst<|r.2.map tupH):=λy C=>by obtain⟨n,hn,rfl⟩:=Zab.mp C;have B:n<rs.length:=05;obtain⟨q,E,_,j⟩:=w.at_ n _ _ (Zd hn)<|Zd B;exact#[_,Z5 B,q,E,j]
 have I:Ex h (h++.lst (ys.filter<|hp h)::g):=.cons _ _ _;have D:=I.trans<|.one _<|.lst [];refine Jd ((binE F<|lstE rfl rfl).trans<|Js7 (g:=gR6<|h++.lst (ys.filter<|hp h)::g++[.lst []]) (grow J6) (λx hx=>?_) (λx hx=>?_) grown) #[?_,D]
 .obtain⟨r,u,q,rfl,j⟩:=m x (Zbe.mp hx).1;unfold gR6;rw[toR6<|D.get j];rfl
 .obtain⟨r,u,q,rfl,j⟩:=m x (Zbe.mp hx).1;unfold gR6;rw[toR6<|D.get j];have n1:=Jxv<|G r u;have n2:=Jou<|layH<|nm r u;rw[ZH]at n1;simp only[Option.getD_some,ZH,ZJ,n1,n2];rfl
 .congr 1;rw[Zcy,ZcU];constructor
  .intro z;cases f:ys.filter (hp h)with|nil=>rw[f]at z;cases z|cons x t=>have hx:=Zbe.mp (f▸ZB:x∈ys.filter (hp h));obtain⟨r,u,q,rfl,j⟩:=m x hx.1;exact#[r,u,by rw[<-Jsg j];exact hx.2]
  .rintro⟨r,u,ne⟩;obtain⟨n,hn,rfl⟩:=Zab.mp u;obtain⟨q,E,j⟩:=w.get<|Zd hn;have C:tp6 rs[n] q∈ys.filter (hp h):=Zbe.mpr #[Zb9 E,by rw[Jsg j];exact ne];cases f:ys.filter (hp h)with|nil=>rw[f]at C;cases C|cons x t=>rfl
end
section
seal L4.run L4.WS
section
variable{k:Nat}{h:IH}
theorem adlE(m:a U h=.ok (.ref i) h1)(k:b U h1=.ok (.ref j) L)(B:L[i]?=J (.lst xs))(u:L[j]?=J (.lst ys))(l:xs.length+ys.length<=1000):Jc Jm a b U h=.ok (.ref L.length) (L++[.lst<|xs++ys]):=(binE m k).trans (Js<|(YK ..).mpr #[_,B,_,u,by have:=J0;lia,rfl,rfl])
theorem J34(g:h[i]?=J (.lst xs))(hn: -(2^63)<=n/\n<2^63/\xs.length*n.toNat<=sizeLine):Qe (.ref i) (.int n) h=.ok (.ref h.length) (h++[.lst (ZD n.toNat xs).flatten]):=by show VR (.ref i) (.int n) h=_;unfold VR;simp only[g];rw[if_pos hn]
theorem Legal.take(hJ:Legal rs cs)(p:Nat):Legal rs (cs.take p):=by
 have q:∀{i:Nat}{a:Cm},(cs.take p)[i]?=J a->cs[i]?=J a:=λ{i a} e=>by
  rw[List.getElem?_take]at e;split at e
  .exact e
  .cases e
 exact#[λc m=>hJ.ok c<|List.mem_of_mem_take m,λi j a b l k u=>hJ.far i j a b l (q k)<|q u]
def gd:Cm:=#[0,0,0,1]
theorem J6n(G:Gd unit rs)(pos:0<rs.length):COk rs gd:=by have f:=G.f _<|Z5 pos;exact#[pos,ZcZ _,ZcZ _,f.t1,ZcZ _,f.l1]
def WrL(rs:Ub)(b:Bool)(p:Nat)(xs:Tx):Prop:=∀k h1 D R,h1[R]?=J (.lst xs)->IsDu h1 D rs->Wr k h1 D R rs b p
theorem Jxc{a0 a2 a4 a5 a7 a8 a9 C:Tg}{m B:Int}{S R lo:Nat}{cs:Uc}{N:ISt->IH->Prop}{P:IV->IH->Prop}(Y:h[S]?=J (.lst ys))(w:RowT h lo ys rs)(G:Gd B rs)(pos:0<rs.length)(V:h[R]?=J (.lst<|cs.map tupC))(hJ:Legal rs cs)(lc:cs.length<=14)
  (H:∀h' W xs b p M,Ex h h'->h'[W]?=J (.lst xs)->WrL rs b p xs->WS (Jjk 15 [a0,J<|.int m,a2,J<|.ref S,a4,a5,J<|.ref R,a7,a8,a9,C,J<|tupC gd,J<|rfV b p,J<|.ref W,M,Zc] h') N P):
  WS (Jod 15 [a0,J<|.int m,a2,J<|.ref S,a4,a5,J<|.ref R,a7,a8,a9,C,J<|tupC gd,J<|rfV Zi 0,Zc,Zc,Zc] h) N P:=by
 have hb:=J0;have go:=J6n G pos;refine xseq<|xifd (eqE (modE (JY rfl rfl 01 01) rfl 01) rfl) (λ_=>?_) λ_=>?_
 .obtain⟨v,Z,e1,Q,_⟩:=(Jmp Y w G go).eq;obtain⟨u,hu⟩:∃u,atI [tupC gd,v] (m%2)=J u:=by rcases Int.emod_two_eq m with z|z<;>rw[z]<;>exact#[_,rfl]
  refine xset (Jd ((binE (lstE (arg1<|pkE (arg2 rfl (Jn (arg3 (JY rfl rfl 01 01) rfl rfl) e1)) rfl (modE rfl rfl 01) hu) rfl) rfl).trans<|J34 grown #[01,01,by show 1*201<=_;lia]) ?_);have l:(ZD (Zbx 201) [u]).flatten.length=201:=03;exact H _ _ _ Zi 0 Zc (Q.trans<|(Ex.one _ _).trans<|(Ex.one _ _).trans<|.one _ _) grown λk Z D R g _=>#[_,g,by rw[l];decide,by rw[if_neg Zt,l];decide]
 .have q0:=ZQ (m/192) (b:=((cs.map tupC).length:Int)+1) 05;have q1:=ZG (m/192) (show(0:Int)<((cs.map tupC).length:Int)+1 by lia);obtain⟨p,ep⟩:∃p:Nat,m/192%(((cs.map tupC).length:Int)+1)=p:=#[_,(Int.toNat_of_nonneg q0).symm];rw[ep,Zj]at q1;have lp:p<=cs.length:=05;obtain⟨n,j,en,n0,n1,ew,p1,l1,U,tk⟩:∃(n:Int)(j:Uc),(if decide ((p:Int)=((cs.map tupC).length:Int))=Zg then(1:Int)else 0)=n/\0<=n/\n<=1/\cs.map tupC++(ZD n.toNat [tupC gd]).flatten=j.map tupC/\p<j.length/\j.length<=15/\(∀c∈j,COk rs c)/\j.take p=cs.take p:=by
   rw[Zj];by_cases z:p=cs.length
   .refine#[1,cs++[gd],by rw[if_pos<|decide_eq_true<|congrArg Nat.cast z],01,01,by rw[ZbU];rfl,by rw[Z0];show _<_+1;lia,by rw[Z0];show _+1<=_;lia,λc E=>?_,by rw[z,List.take_left',ZdW];rfl];rcases ZZ.mp E with E|E
    .exact hJ.ok c E
    .rw[Z2.mp E];exact go
   .exact#[0,cs,by rw[if_neg];simp;lia,01,01,ZbS _,05,05,hJ.ok,rfl]
  refine xseq<|xset<|Jd (okc (modE (JY rfl rfl 01 01) (addE (lenE rfl V) rfl) 05)<|congrArg IV.int ep) ?_;have Q:Ex h (h++[.lst<|cs.map tupC]):=.one _ _;have L:=Q.trans<|.one _<|IX.lst [tupC gd];refine xseq (xset<|Jd (adlE (XH rfl V) ((binE (lstE (arg1 rfl) rfl)<|okc ((cbE<|arg1<|(binE rfl (lenE rfl (L.get V))).trans rfl).trans rfl)<|congrArg IV.int en).trans<|J34 grown #[05,05,by show 1*_<=_;lia]) (grow<|grow grown) grown<|by rw[<-Z0,ew,Zj];lia) ?_);rw[ew];have I:Ex h (h++[IX.lst<|cs.map tupC]++[IX.lst [tupC gd]]++[IX.lst (ZD n.toNat [tupC gd]).flatten]++[IX.lst<|j.map tupC]):=L.trans<|(Ex.one _ _).trans<|.one _ _;have F:(h++[IX.lst<|cs.map tupC]++[IX.lst [tupC gd]]++[IX.lst (ZD n.toNat [tupC gd]).flatten]++[IX.lst<|j.map tupC])[(h++[IX.lst<|cs.map tupC]++[IX.lst [tupC gd]]++[IX.lst (ZD n.toNat [tupC gd]).flatten]).length]?=J (.lst<|j.map tupC):=grown;have lW:h.length<=(h++[IX.lst<|cs.map tupC]++[IX.lst [tupC gd]]++[IX.lst (ZD n.toNat [tupC gd]).flatten]).length:=(L.trans<|.one _ _).len;generalize (h++[IX.lst<|cs.map tupC]++[IX.lst [tupC gd]]++[IX.lst (ZD n.toNat [tupC gd]).flatten]).length=W at F lW;generalize h++[IX.lst<|cs.map tupC]++[IX.lst [tupC gd]]++[IX.lst (ZD n.toNat [tupC gd]).flatten]++[IX.lst<|j.map tupC]=h3 at I F;have ec:(j.map tupC)[p]?=J (tupC j[p]):=by rw[Z4,Zd p1];rfl
  obtain⟨v,h4,e4,X,O⟩:=(Jmp (I.get Y) (w.kp I.kp) G<|U _<|Z5 p1).eq;refine xseq<|(Ya ..).mpr<|Jd (Jn (arg3 (JY rfl rfl 01 01) rfl (ixlE rfl rfl F (JH ec))) e4) ?_;rw[J5y];refine Jd rfl (Jd rfl ((J16 ..).mpr #[_,X.get F,p,by simp[ixN];lia,xset<|Jd (tupE (arg3 rfl rfl rfl) rfl) ?_]));have es:(j.map tupC).set p v=(cs.take p).map tupC++v::(j.map tupC).drop (p+1):=by rw[List.set_eq_take_append_cons_drop,if_pos (by simp_all),<-ZeQ,tk]
  refine H _ _ _ Zg p _ (Vj (I.trans X) lW) (QE<|X.get F) λk Z D R g d=>#[_,g,?_,?_]
  .rw[Zbg,Zj];lia
  .rw[if_pos rfl];exact#[by rw[Zbg,Zj];lia,_,_,_,es,hJ.take p,O _ _ _ d,by rw[ZaH];lia]
end
end
section
seal L4.run L4.WS
section
variable{k:Nat}{h:IH}
theorem J60:cNe (rfV b p) (rfV b p) h=.ok (.bl Zi) h:=by
 obtain⟨s,n,e,q⟩:∃(s:Str)(n:Int),rfV b p=.tup [.str s,.int n,.bl Zi]/\(PyData.str s).canLay0=Zg:=by cases b<;>exact#[_,_,rfl,by decide +kernel]
 rw[e];have q:(Zdq [.str s,.int n,.bool Zi]).canLay0=Zg:=by rw[ZH,ZJ,q];rfl
 have j:Qm (.tup [.str s,.int n,.bl Zi]) (.tup [.str s,.int n,.bl Zi]) h=J Zg:=by unfold Qm;rw[show toD h 6 (.tup [.str s,.int n,.bl Zi])=J (.tuple [.str s,.int n,.bool Zi])from rfl];dsimp only;rw[if_pos #[q,q],Jj0 _ q]
 unfold cNe;rw[show Vt (.tup [.str s,.int n,.bl Zi]) (.tup [.str s,.int n,.bl Zi])=Zc from rfl];dsimp only;rw[j];rfl
theorem J4m:∀x∈askL kind rs cs m,Pl x:=by
 have j:∀(l:Tq),∀x∈l.map IV.int,Pl x:=λl x hx=>by obtain⟨z,_,rfl⟩:=Z6.mp hx;exact .inl #[_,rfl]
 unfold askL;split
 .intro x hx;obtain⟨a,_,rfl⟩:=Z6.mp hx;exact .inr #[[a.1,a.2.1,a.2.2],rfl]
 .split
  .exact j _
  .exact j _
theorem J1f{a0 a1 a2 Z a4 a5 O H:Tg}{kind m:Int}{R D kD W p:Nat}{A:IV}{b:Bool}{rs:Ub}{cs:Uc}{xs:Tx}{N:ISt->IH->Prop}(o:IsOr h kind kD rs)(d:IsDu h D rs)(t0:h[1]?=J (.tab "Bench.__init__"))(t1:h[0]?=J (.tab "too_full"))(t2:h[2]?=J (.tab "Order.pick"))(gR:h[R]?=J (.lst<|cs.map tupC))(hJ:Legal rs cs)(U:cs.length<=14)(M:∀r∈rs,r.2.length<=6)(hm:m=0\/m=1\/m=2\/m=3)(P:h[W]?=J (.lst xs))(wr:WrL rs b p xs)(A3:m=3->A=tfV (tfO rs cs))(An:m≠3->∃j,A=.ref j/\h[j]?=J (.lst<|askL kind rs cs m)):WS (Jjk 15 [a0,a1,a2,Z,a4,a5,J<|.ref R,J<|.ref D,J<|.ref kD,J<|.int m,J A,O,J<|rfV b p,J<|.ref W,H,Zc] h) N λv _=>v=.bl Zg:=by
 have I:Ex h (h++[.lst xs]):=.one _ _;obtain⟨_,L,Q,rfl,S⟩:=(J0q (o.kp I.kp) (d.kp I.kp) λk G D kp d1=>wr k G D _ (kp _ _ grown) d1).eq;refine xseq<|xiff (tofE<|(binE (Jn (arg4 rfl rfl rfl (XH rfl P)) Q) rfl).trans J60)<|xnil ?_;have F:=I.trans S;have B:=F.trans<|.one _<|IX.lst xs;obtain⟨_,h4,Y,rfl,x4⟩:=(J0p (o.kp B.kp) (d.kp B.kp) λk G D kp d1=>wr k G D _ (kp _ _ grown) d1).eq;refine xseq<|xiff (notE<|truE<|Jn (arg4 rfl rfl rfl (XH rfl (F.get P))) Y)<|xnil<|xseq<|xset ?_;have E:=B.trans x4;have u:=E.trans<|.one _<|IX.lst<|cs.map tupC;obtain⟨v,h6,V,B3,Bn,x6⟩:=(Jxh #[o.kp u.kp,grown,λc X=>(hJ.ok c X).at_,M,u.get t2,05] (u.get t0) (u.get t1) (d.kp u.kp) grown hJ U hm).eq;refine Jd (Jn (arg4 rfl rfl rfl (XH rfl (E.get gR))) V) ?_;by_cases C:m=3
 .rw[A3 C,B3 C];refine xseq<|xift (okc (eqE rfl rfl)<|decide_eq_true C)<|xret ?_;cases tfO rs cs<;>exact Jd rfl rfl
 .obtain⟨j,rfl,gj⟩:=An C;obtain⟨i,rfl,_,gi⟩:=Bn C;exact xseq<|xiff (okc (eqE rfl rfl)<|decide_eq_false C)<|xnil<|xret<|Jd ((binE rfl rfl).trans<|Jzb gi ((u.trans x6).get gj) J4m) rfl
end
end
section
seal L4.run L4.WS
theorem Jxk(ns:Tq)(a b:Nat):cutI (ns.map IV.int) (J (a:Int)) (J ((a+b:Nat):Int))=((ns.drop a).take b).map IV.int:=by rw[Jy5,ZeQ,ZeP,List.drop_take,ZdQ]
theorem m36(x:Int):(6*x+1+x%5)%6≠0:=05
theorem neB(b:Bool):cNe (.bl b) (.bl b) h=.ok (.bl Zi) h:=by cases b<;>rfl
theorem Jvv(ns:Tq)(hl:ns.length<=63):∃h',Yi 16 [.rol<|ns.map IV.int] [.tab "too_full",.tab "Bench.__init__",.tab "Order.pick"]=.ok (.bl Zg) h':=by
 suffices h:WR (Yi 16 [.rol<|ns.map IV.int] [.tab "too_full",.tab "Bench.__init__",.tab "Order.pick"]) λv _=>v=.bl Zg by obtain⟨v,h',e,rfl⟩:=h.eq;exact#[h',e]
 have t0:([.tab "too_full",.tab "Bench.__init__",.tab "Order.pick"]:IH)[1]?=J (.tab "Bench.__init__"):=rfl;have t1:([.tab "too_full",.tab "Bench.__init__",.tab "Order.pick"]:IH)[0]?=J (.tab "too_full"):=rfl;have t2:([.tab "too_full",.tab "Bench.__init__",.tab "Order.pick"]:IH)[2]?=J (.tab "Order.pick"):=rfl;generalize ([.tab "too_full",.tab "Bench.__init__",.tab "Order.pick"]:IH)=h at t0 t1 t2 ⊢;have c0:=λ(h:IH)=>Jm6 (k:=14) (h:=h) ns 0 01;have c1:=Jm6 (k:=14) (h:=h) ns 1 01;have c7:=Jm6 (k:=14) (h:=h) ns 7 01;generalize ns.getD (Zbx 0) 0=B at c0;generalize ns.getD (Zbx 1) 0=m at c1;generalize ns.getD (Zbx 7) 0=E at c7;have ec:=Jxk ns 2 5;have e1:=adlE (U:=[J<|.rol<|ns.map IV.int,J<|.int E,J<|.int m,Zc,Zc,Zc,Zc,Zc,Zc,Zc,Zc,Zc,Zc,Zc,Zc,Zc]) (lstE (arg2 (Jn (arg2 (a:=Ja 0) (b:=eC<|.int 0) rfl rfl)<|c0 h)<|addE (addE (b:=eC<|.int 1) (mulE (a:=eC<|.int 6) (b:=Ja 2) rfl rfl (.inl 01)) rfl)<|modE (a:=Ja 2) (b:=eC<|.int 5) rfl rfl 01) rfl) (show eSl slI 'a' (Qu '2') (Qu '7') _ _=.ok (.ref _) (_++[.lst<|cutI (ns.map IV.int) (J ((2:Nat):Int))<|J ((2+5:Nat):Int)])from rfl) (grow grown) grown (by rw[ec,Zj,ZaH];show 2+_<=_;lia);rw[ec]at e1;have xa:Ex h (h++[IX.lst [IV.int B,IV.int<|6*m+1+m%5]]++[IX.lst<|((ns.drop 2).take 5).map IV.int]++[IX.lst<|[IV.int B,IV.int<|6*m+1+m%5]++((ns.drop 2).take 5).map IV.int]):=(Ex.one _ _).trans<|(Ex.one _ _).trans<|.one _ _;have ga:(h++[IX.lst [IV.int B,IV.int<|6*m+1+m%5]]++[IX.lst<|((ns.drop 2).take 5).map IV.int]++[IX.lst<|[IV.int B,IV.int<|6*m+1+m%5]++((ns.drop 2).take 5).map IV.int])[(h++[IX.lst [IV.int B,IV.int<|6*m+1+m%5]]++[IX.lst<|((ns.drop 2).take 5).map IV.int]).length]?=J (.lst<|([B,6*m+1+m%5]++(ns.drop 2).take 5).map .int):=grown;generalize h++[IX.lst [IV.int B,IV.int<|6*m+1+m%5]]++[IX.lst<|((ns.drop 2).take 5).map IV.int]++[IX.lst<|[IV.int B,IV.int<|6*m+1+m%5]++((ns.drop 2).take 5).map IV.int]=ha at xa ga e1;generalize (h++[IX.lst [IV.int B,IV.int<|6*m+1+m%5]]++[IX.lst<|((ns.drop 2).take 5).map IV.int]).length=C at ga e1;rw[J2s];refine xfin<|xseq<|xset<|Jd (Jn (arg2 rfl rfl) c7)<|xseq<|xset<|Jd (Jn (arg2 rfl rfl) c1)<|xseq<|xset<|(J1p ..).mpr<|Jd (arg2 e1<|(binE (modE rfl rfl 01) rfl).trans rfl)<|WR.mono (J08 (k:=11) ga (m36 m)<|decide (E%2=0)) ?_;rintro _ h1 ⟨xb,S,lo,ys,rs,c,unit,rfl,_,F,w,Dd,lr,pos,_⟩;have xb:=xa.trans xb;have G:=Dd.gd (show rs.length<=7 by lia);have Y:=λr V=>(G.f r V).ok.few;refine xseq<|xset<|WR.mono (Jzm rfl F w (λr V=>(G.f r V).nm) (λr V a ha=>((G.f r V).ok.each a ha).1) 05) ?_;rintro _ L ⟨rfl,x2⟩;obtain⟨_,h3,e3,rfl,x3⟩:=(Jt3 (k:=7) (x2.get F) (w.kp x2.kp) G<|.inl rfl).eq;have O:=x2.trans x3;obtain⟨_,h4,e4,rfl,x4⟩:=(Jt3 (k:=7) (O.get F) (w.kp O.kp) G<|.inr rfl).eq;have Q:=O.trans x4;refine xseq<|xiff (orF (tofE<|(binE (Jn (arg2 rfl rfl) e3) rfl).trans<|neB _)<|tofE<|(binE (Jn (arg2 rfl rfl) e4) rfl).trans<|neB _)<|xnil ?_;obtain⟨Z,eB⟩:∃Z:Bool,(rs.any λr=>!r.2.isEmpty)=Z:=#[_,rfl];rw[eB];obtain⟨kind,ek,hk,nk⟩:∃kind:Int,E/2%3*(if (!Z)=Zg then 1 else 0)=kind/\(kind=0\/kind=1\/kind=2)/\(kind≠0->∀r∈rs,r.2=[]):=by
  cases Z with|true=>exact#[0,by rw[if_neg 01,Int.mul_zero],.inl rfl,λz=>absurd rfl z]|false=>refine#[E/2%3,by rw[if_pos 01,Int.mul_one],05,λ_ r V=>?_];have:=ZbZ.mp eB r V;cases e:r.2 with|nil=>rfl|cons a l=>rw[e]at this;exact absurd rfl this
 refine xseq (xset<|Jd (okc (mulE (modE (JY rfl rfl 01 01) rfl 01) ((cbE<|arg1<|notX rfl).trans rfl)<|.inr<|.inl (by cases Z<;>decide))<|congrArg IV.int ek) ?_);have gS4:=Q.get F;have ec:=Jxk ns 8 14;obtain⟨_,h6,e6,R,cs,rfl,_,gR,hJ,u,x6⟩:=(J4o (h:=h4++[.lst<|((ns.drop 8).take 14).map IV.int]) (grow gS4) ((w.kp Q.kp).kp (Ex.one _ _).kp) Dd 05 grown<|by rw[ZaH];lia).eq;have u:cs.length<=14:=ZM u<|by rw[ZaH];lia
 rw[<-ec]at e6 x6;refine xseq<|xset<|Jd (Jn (arg2 (rfl) rfl) e6) ?_;have I:=Q.trans<|(Ex.one _ _).trans x6;obtain⟨_,h7,e7,D,rfl,X,d7⟩:=(Jnc (k:=9) (I.get F) (w.kp I.kp) G).eq;refine xseq<|xset<|Jd (Jn (arg1 rfl) e7) ?_;have H:=I.trans X;obtain⟨_,h8,e8,kD,rfl,x8,o8⟩:=(Joy (k:=8) (H.get F) (w.kp H.kp) G hk nk).eq;refine xseq<|xset<|Jd (Jn (arg2 rfl rfl) e8) ?_;have M:=H.trans x8;have P:=x8.get<|X.get gR;have hm:E/6%4=0\/E/6%4=1\/E/6%4=2\/E/6%4=3:=05;refine xseq<|xset<|Jd (modE (JY rfl rfl 01 01) rfl 01) ?_;have x9:Ex h8 (h8++[.lst<|cs.map tupC]):=.one _ _;have xt:=xb.trans<|M.trans x9;obtain⟨A,hA,eA,A3,An,xA⟩:=(Jxh (k:=5) #[o8.kp x9.kp,grown,λc hc=>(hJ.ok c hc).at_,Y,xt.get t2,05] (xt.get t0) (xt.get t1) (d7.kp (x8.trans x9).kp) grown hJ u hm).eq;refine xseq<|xset<|Jd (Jn (arg4 rfl rfl rfl (XH rfl P)) eA) ?_;have y8:=x9.trans xA;have y1:=M.trans y8;refine xseq<|xset<|Jd (tupE (arg4 rfl rfl rfl rfl) rfl)<|xseq<|xset<|Jd (tupE (arg3 rfl rfl rfl) rfl) ?_;refine Jxc (y1.get F) (w.kp y1.kp) G pos (y8.get P) hJ u λh' W xs b p a14 z gW wr=>?_
 have z8:=y8.trans z;have z0:=xb.trans<|M.trans z8;exact J1f (o8.kp z8.kp) (d7.kp (x8.trans z8).kp) (z0.get t0) (z0.get t1) (z0.get t2) (z8.get P) hJ u Y hm gW wr A3 λne=>by obtain⟨j,e,_,g⟩:=An ne;exact#[j,e,z.get g]
end
end LW
end
namespace LW
open PySem L2 L3 L4
section
local macro_rules | `(tactic| bv_omega) => `(tactic| exact #[scOk.of (by decide +kernel), rfl, rfl, λ _ _ _ _ _ _ => by first | exact len1 λ _ => rfl | exact len2 λ _ _ => rfl | exact len3 λ _ _ _ => rfl | exact len4 λ _ _ _ _ => rfl])
variable{K:W.Frag}{h:Zam}{mg:Str->Tc}{a:Zm}{oc kV dc pm cd ct:Zh}{od an:Te}{sl:Wb}
theorem Jih:FnB "__init__" "BadRow.__init__" Ja4:=by bv_omega
theorem Jnu:FnB "is_whole" "is_whole" Jc9:=by bv_omega
theorem Jf8:FnB "is_whole_from" "is_whole_from" Jaq:=by bv_omega
theorem Jmm:FnB "rounds_up" "rounds_up" Jci:=by bv_omega
theorem Jwj:FnB "ready" "ready" Jjx:=by bv_omega
theorem Jto:FnB "due_at" "due_at" Jgd:=by bv_omega
theorem Jmd:FnB "is_coming" "is_coming" Jb9:=by bv_omega
theorem Jik:FnB "first_wrong" "first_wrong" Ja7:=by bv_omega
theorem Jqf:FnB "checked" "checked" Jer:=by bv_omega
theorem Jqh:FnB "is_name" "is_name" Jet:=by bv_omega
theorem Jqg:FnB "is_hold" "is_hold" Jes:=by bv_omega
theorem Jmi:FnB "lie_apart" "lie_apart" Jce:=by bv_omega
theorem Jqj:FnB "lies_in" "lies_in" Jev:=by bv_omega
theorem Jil:FnB "go_together" "go_together" Ja8:=by bv_omega
theorem Je6:FnB "all_go_together" "all_go_together" Jae:=by bv_omega
theorem Jmk:FnB "own_holds" "own_holds" Jcg:=by bv_omega
theorem Jqk:FnB "own_due" "own_due" Jew:=by bv_omega
theorem Jmc:FnScope Qz.N Qz.ps (JS Qz.st):=scOk.of<|by decide +kernel
theorem Jl2{C T:Zm}{ox:Zh}{D:Te}{nx:Nat}{G:Wb}{u:Tok}(ha:W.findIn K (.ref C) "__init__"=J (J<|.ref a))(hi:W.isFn K (.ref a)=Zg)(m:K.lookup a=J #[oc,od,.func<|W.fnOf "__init__" "Work.__init__" (QN Qz.st) (Q0 Qz.st) (JS Qz.st) (.ref T) kV dc pm an cd ct,sl])(H:W.codeIn K cd "Work.__init__"=Zg)(I:W.keepIn K (.ref a)=Zg)(hd:K.lookup T=J #[ox,D,.seq (ZaE [.none,.int 0 u,.none]) nx,G])(hm:W.makesIn K C=Zg)(F:W.keepIn K (.ref C)=Zg):∃fa fd,Mk K C fa/\DefOk K "__init__" Qz fa fd:=#[a,_,#[hm,ha,hi,F],#[#[_,#[oc,od,kV,dc,pm,an,cd,ct,sl,rfl,m,H],I],Jmc,(by intro j E;rcases J7y j (E)with rfl|rfl|rfl|rfl;exact#[[.none,.int 0 u,.none],λs k B m=>len4 (P:=λk=>ZcG s _ #[k,[]]<|Qz.ps.zip<|k++[.none,.int 0 u,.none]) (λ_ _ _ _=>.of_defaults rfl (B T _ hd) rfl rfl rfl) k (show k.length=4 by rw[Z0]at m;exact Zcl m),rfl,[hV.non,hV.int 0,hV.non],.cons rfl (.cons #[_,rfl]<|.cons rfl (.nil)),λ_ _=>#[_,_,rfl,rfl,#[_,_,rfl,rfl,#[_,_,rfl,rfl,rfl]]]];exact#[[.int 0 u,.none],λs k B m=>len5 (P:=λk=>ZcG s _ #[k,[]]<|Qz.ps.zip<|k++[.int 0 u,.none]) (λ_ _ _ _ _=>.of_defaults rfl (B T _ hd) rfl rfl rfl) k (show k.length=5 by rw[Z0]at m;exact Zcl m),rfl,[hV.int 0,hV.non],.cons #[_,rfl]<|.cons rfl (.nil),λ_ _=>#[_,_,rfl,rfl,#[_,_,rfl,rfl,rfl]]];exact#[[.none],λs k B m=>len6 (P:=λk=>ZcG s _ #[k,[]]<|Qz.ps.zip<|k++[.none]) (λ_ _ _ _ _ _=>.of_defaults rfl (B T _ hd) rfl rfl rfl) k (show k.length=6 by rw[Z0]at m;exact Zcl m),rfl,[hV.non],.cons rfl (.nil),λ_ _=>#[_,_,rfl,rfl,rfl]];exact#[[],λs k B m=>len7 (P:=λk=>ZcG s _ #[k,[]]<|Qz.ps.zip<|k++[]) (λ_ _ _ _ _ _ _=>.of_defaults rfl (B T _ hd) rfl rfl rfl) k (show k.length=7 by rw[Z0]at m;exact Zcl m),rfl,[],.nil,λ_ _=>rfl])]]
theorem Jmb:FnB "held" "Work.held" Jb8:=by bv_omega
theorem Jmj:FnB "next_stop" "next_stop" Jcf:=by bv_omega
theorem Jki:FnB "__init__" "Bench.__init__" Jbi:=by bv_omega
theorem Jd6:FnB "next_ready" "Bench.next_ready" Jab:=by bv_omega
theorem Jhp:FnB "let_in" "Bench.let_in" Jau:=by bv_omega
theorem Je5:FnB "turns_for" "Bench.turns_for" Jad:=by bv_omega
theorem Jkj:FnB "tell" "Bench.tell" Jbj:=by bv_omega
theorem Jii:FnB "go_on" "Bench.go_on" Ja5:=by bv_omega
theorem J43:FnB "run" "run" Juw:=by bv_omega
theorem J0z:FnB "ends" "ends" Jol:=by bv_omega
theorem Jtq:FnB "missed" "missed" Jgf:=by bv_omega
theorem Jml:FnB "own_works" "own_works" Jch:=by bv_omega
theorem Jnt:FnB "crowd_of" "crowd_of" Jc8:=by bv_omega
theorem Jl8:FnB "__init__" "Duty.__init__" Jb5:=by bv_omega
theorem Jl9:FnB "size" "Duty.size" Jb6:=by bv_omega
theorem Jma:FnB "work" "Duty.work" Jb7:=by bv_omega
theorem Jkm:FnB "full_until" "full_until" Jbm:=by bv_omega
theorem Jny:FnB "too_full" "too_full" Jdd:=by bv_omega
theorem Jns:FnB "ceilings" "ceilings" Jc7:=by bv_omega
theorem Jhr:FnB "refuse_holds" "refuse_holds" Jaw:=by bv_omega
theorem Jio:FnB "things_held" "things_held" Jbb:=by bv_omega
theorem Jtp:FnB "lifted" "lifted" Jge:=by bv_omega
theorem Jkl:FnB "__init__" "Order.__init__" Jbl:=by bv_omega
theorem Jbu:FnB "holds" "Order.holds" VI:=by bv_omega
theorem Jbc:FnB "pick" "Order.pick" Vg:=by bv_omega
theorem Jaf:FnB "standing" "Order.standing" Vh:=by bv_omega
theorem Jij:FnB "__init__" "ByRank.__init__" Ja6:=by bv_omega
theorem Jfm:FnB "rank_of" "ByRank.rank_of" Jai:=by bv_omega
theorem Jhq:FnB "holds" "ByRank.holds" Jav:=by bv_omega
theorem Jkk:FnB "__init__" "ByDue.__init__" Jbk:=by bv_omega
theorem Jf7:FnB "rank_of" "ByDue.rank_of" Jap:=by bv_omega
theorem Jf6:FnB "__init__" "ByComing.__init__" Jao:=by bv_omega
theorem Jd7:FnB "rank_of" "ByComing.rank_of" Jac:=by bv_omega
theorem Jim:FnB "_law_cell_at" "_law_cell_at" Ja9:=by bv_omega
theorem Jko:FnB "_law_stream" "_law_stream" Jbo:=by bv_omega
theorem Jnx:FnB "_law_word" "_law_word" Jdc:=by bv_omega
theorem Jmf:FnB "_law_holds" "_law_holds" Jcb:=by bv_omega
theorem Jmh:FnB "_law_plain" "_law_plain" Jcd:=by bv_omega
theorem Jnw:FnB "_law_some" "_law_some" Jdb:=by bv_omega
theorem Jqi:FnB "_law_row" "_law_row" Jeu:=by bv_omega
theorem Jnv:FnB "_law_duty" "_law_duty" Jda:=by bv_omega
theorem Jmg:FnB "_law_order" "_law_order" Jcc:=by bv_omega
theorem Jkn:FnB "_law_spoilt" "_law_spoilt" Jbn:=by bv_omega
theorem Jme:FnB "_law_asked" "_law_asked" Jca:=by bv_omega
theorem Jin:FnB "_law_refused" "_law_refused" Jba:=by bv_omega
theorem Jc3:FnB "_law_refused_by_any" "_law_refused_by_any" Jaa:=by bv_omega
theorem Jfn:FnB "_law_holds_told" "_law_holds_told" Jaj:=by bv_omega
theorem J42:FnScope Vi.N Vi.ps (JS Vi.st):=scOk.of<|by decide +kernel
theorem J31(X:K.In h)(G:h.Ns Zn mg)(ha:W.nsIn K Zn "law"=J (J<|.ref a))(j:K.lookup a=J #[oc,od,.func<|W.fnOf "law" "law" (QN Vi.st) (Q0 Vi.st) (JS Vi.st) .none kV dc pm an cd ct,sl])(m:W.codeIn K cd "law"=Zg)(k:W.keepIn K (.ref a)=Zg):∃fa fd,mg "law"=J (.ref fa)/\DefOk K "law" Vi fa fd/\∀(s:Zl) (v:Zh),ZcG s fd #[[v],[]] [("_law_script",v)]:=#[a,_,W.mg_of X G ha,Jxm j m k J42 rfl (len1 λ_=>rfl),λs v=>.of_eq rfl]
theorem Xo(pg:W.plainGet K C Zb7=Zg)(hd:W.hasDictIn K C=Zg)(po:W.plainOver K C=Zg)(sa:W.findIn K (.ref C) "__setattr__"=J (J<|.builtin "object.__setattr__"))(h1:W.findIn K (.ref C) "__class__"=J (J<|.builtin "object.__class__"))(L:W.specialIn K (.builtin "object.__class__") "__get__"=J (J<|.builtin "getset_descriptor.__get__"))(h3:W.takesIn K (.builtin "object.__class__")=J Zg)(P:W.mroIn K C (.type "object")=J Zg)(M:W.findIn K (.ref C) "append"=J Zc)(n1:W.findIn K (.ref C) "dones"=J Zc)(n2:W.findIn K (.ref C) "due"=J Zc)(O:W.findIn K (.ref C) "duty"=J Zc)(V:W.findIn K (.ref C) "gap"=J Zc)(S:W.findIn K (.ref C) "hold_tuples"=J Zc)(Q:W.findIn K (.ref C) "join"=J Zc)(X:W.findIn K (.ref C) "late"=J Zc)(U:W.findIn K (.ref C) "later"=J Zc)(R:W.findIn K (.ref C) "length"=J Zc)(I:W.findIn K (.ref C) "name"=J Zc)(B:W.findIn K (.ref C) "order"=J Zc)(D:W.findIn K (.ref C) "pop"=J Zc)(F:W.findIn K (.ref C) "remove"=J Zc)(G:W.findIn K (.ref C) "row"=J Zc)(E:W.findIn K (.ref C) "setdefault"=J Zc)(H:W.findIn K (.ref C) "stretches"=J Zc)(u:W.findIn K (.ref C) "tops"=J Zc)(k:W.findIn K (.ref C) "turn"=J Zc)(j:W.findIn K (.ref C) "waiting"=J Zc)(m:W.findIn K (.ref C) "works"=J Zc):ClsI K C/\All (λf=>Qx K C f) T.flds:=#[#[#[pg,hd,po,sa],h1,L,h3,P],.cons M<|.cons n1<|.cons n2<|.cons O<|.cons V<|.cons S<|.cons Q<|.cons X<|.cons U<|.cons R<|.cons I<|.cons B<|.cons D<|.cons F<|.cons G<|.cons E<|.cons H<|.cons u<|.cons k<|.cons j<|.cons m<|.nil]
theorem Js5(ga:W.findIn K (.ref C) "__getattribute__"=J (J<|.builtin "BaseException.__getattribute__"))(mb:W.mroIn K C (.type "BaseException")=J Zg)(gn:W.findIn K (.ref C) "__getattr__"=J Zc)(ca:W.findIn K (.ref C) "__class__"=J (J<|.builtin "object.__class__"))(mo:W.mroIn K C (.type "object")=J Zg)(hd:W.hasDictIn K C=Zg):ExI K C:=#[ga,mb,gn,ca,mo,hd]
theorem J30(sp:W.specialIn K (.ref C) "__getattribute__"=J (J<|.builtin "type.__getattribute__"))(rd:W.readsIn K C (.type "type")=Zg)(j:W.findIn K (.ref C) "__init__"=J (J<|.ref a))(fc:W.findCls K (.ref C) (.type "type") "__init__"=J (.val<|.ref a))(kp:W.keepIn K (.ref a)=Zg):BasK K C:=#[sp,rd,a,j,fc,kp]
abbrev DfO(K:W.Frag)(mg:Str->Tc)(x:Str)(d:D4):Prop:=∃fa fd,mg x=J (.ref fa)/\DefOk K x d fa fd
abbrev DmO(K:W.Frag)(C:Zm)(x:Str)(d:D4):Prop:=∃fa fd,Meth K C x fa/\DefOk K x d fa fd
theorem fin{prog:Z7}{w:ZU}(X:K.In h)(G:h.Ns Zn mg)(Q:mg "law"=J (.ref fa)){j m F u a5 C B E:Zm}{D k I:Zm}{R U n2 n3 e7 V b7 h1:Tok}{L r0 h3 S h4 b8 Y:Tok} (O:W.nsIn K Zn "TooMany"=J (J<|.ref E)) (P:W.nsIn K Zn "HoldsThings"=J (J<|.ref D)) (H:W.nsIn K Zn "BadRow"=J (J<|.ref k)) (Z:W.nsIn K Zn "DutyError"=J (J<|.ref I)) (n6:W.excIn K E [.type "ValueError",.type "Exception",.type "BaseException",.type "object"] "ValueError.__new__"=Zg) (d9:W.excIn K D [.type "ValueError",.type "Exception",.type "BaseException",.type "object"] "ValueError.__new__"=Zg) (n7:ExI K E) (e0:ExI K D) (e8:ExI K k) (r1:kits K (.ref k) [(E,Zi),(D,Zi),(k,Zg)]=Zg) (n8:kits K (.ref E) [(E,Zg),(D,Zi),(k,Zi)]=Zg) (e1:kits K (.ref D) [(E,Zi),(D,Zg),(k,Zi)]=Zg) (h5:kits K (.ref I) [(E,Zg),(D,Zg),(k,Zg)]=Zg) (e9:W.nsIn K Zn "ValueError"=J Zc) (g0:kits K (.type "ValueError") [(E,Zg),(D,Zg),(k,Zg)]=Zg) (r2:∃fa fd,Qi K k fa=Zg/\W.keepIn K (.ref k)=Zg/\DefOk K "__init__" Ja4 fa fd) (d2:StoX K k "place") (d3:W.findIn K (.ref k) "place"=J Zc) (h6:BasX K I) (n5:W.nsIn K Zn "Work"=J (J<|.ref j)) (s0:W.nsIn K Zn "Bench"=J (J<|.ref m)) (t1:W.nsIn K Zn "Duty"=J (J<|.ref F)) (h7:W.nsIn K Zn "Order"=J (J<|.ref u)) (r3:W.nsIn K Zn "ByRank"=J (J<|.ref a5)) (s1:W.nsIn K Zn "ByDue"=J (J<|.ref C)) (j2:W.nsIn K Zn "ByComing"=J (J<|.ref B)) (n9:DfO K mg "is_whole" Jc9) (d4:DfO K mg "is_whole_from" Jaq) (j3:DfO K mg "rounds_up" Jci) (t2:DfO K mg "ready" Jjx) (s2:DfO K mg "due_at" Jgd) (j4:DfO K mg "is_coming" Jb9) (g1:DfO K mg "first_wrong" Ja7) (r4:DfO K mg "checked" Jer) (r5:DfO K mg "is_name" Jet) (r6:DfO K mg "is_hold" Jes) (j5:DfO K mg "lie_apart" Jce) (r7:DfO K mg "lies_in" Jev) (g2:DfO K mg "go_together" Ja8) (c4:DfO K mg "all_go_together" Jae) (j6:DfO K mg "own_holds" Jcg) (r8:DfO K mg "own_due" Jew) (j7:DfO K mg "next_stop" Jcf) (v5:DfO K mg "run" Juw) (u5:DfO K mg "ends" Jol) (s3:DfO K mg "missed" Jgf) (j8:DfO K mg "own_works" Jch) (o0:DfO K mg "crowd_of" Jc8) (h8:DfO K mg "full_until" Jbm) (o1:DfO K mg "too_full" Jdd) (o2:DfO K mg "ceilings" Jc7) (e2:DfO K mg "refuse_holds" Jaw) (g3:DfO K mg "things_held" Jbb) (s4:DfO K mg "lifted" Jge) (g4:DfO K mg "_law_cell_at" Ja9) (h9:DfO K mg "_law_stream" Jbo) (o3:DfO K mg "_law_word" Jdc) (j9:DfO K mg "_law_holds" Jcb) (l0:DfO K mg "_law_plain" Jcd) (o4:DfO K mg "_law_some" Jdb) (r9:DfO K mg "_law_row" Jeu) (o5:DfO K mg "_law_duty" Jda) (l1:DfO K mg "_law_order" Jcc) (i0:DfO K mg "_law_spoilt" Jbn) (l2:DfO K mg "_law_asked" Jca) (g5:DfO K mg "_law_refused" Jba) (b6:DfO K mg "_law_refused_by_any" Jaa) (c7:DfO K mg "_law_holds_told" Jaj) (v6:∃fa fd,mg "law"=J (.ref fa)/\DefOk K "law" Vi fa fd/\∀(s:Zl) (v:Zh),ZcG s fd #[[v],[]] [("_law_script",v)]) (u6:∃fa fd,Mk K j fa/\DefOk K "__init__" Qz fa fd) (l3:DmO K j "held" Jb8) (u7:ClsI K j/\All (λf=>Qx K j f) T.flds) (t3:∃fa fd,Mk K m fa/\DefOk K "__init__" Jbi fa fd) (c2:DmO K m "next_ready" Jab) (e3:DmO K m "let_in" Jau) (c5:DmO K m "turns_for" Jad) (i1:DmO K m "tell" Jbj) (g6:DmO K m "go_on" Ja5) (t4:ClsI K m/\All (λf=>Qx K m f) T.flds) (u8:∃fa fd,Mk K F fa/\DefOk K "__init__" Jb5 fa fd) (l4:DmO K F "size" Jb6) (l5:DmO K F "work" Jb7) (u9:ClsI K F/\All (λf=>Qx K F f) T.flds) (t5:∃fa fd,Mk K u fa/\DefOk K "__init__" Jbl fa fd) (g7:DmO K u "holds" VI) (i2:DmO K u "pick" Vg) (c8:DmO K u "standing" Vh) (t6:ClsI K u/\All (λf=>Qx K u f) T.flds) (s5:∃fa fd,Mk K a5 fa/\DefOk K "__init__" Ja6 fa fd) (c9:DmO K a5 "rank_of" Jai) (e4:DmO K a5 "holds" Jav) (g8:DmO K a5 "pick" Vg) (c6:DmO K a5 "standing" Vh) (s6:ClsI K a5/\All (λf=>Qx K a5 f) T.flds) (t7:∃fa fd,Mk K C fa/\DefOk K "__init__" Jbk fa fd) (d5:DmO K C "rank_of" Jap) (g9:DmO K C "holds" VI) (i3:DmO K C "pick" Vg) (d0:DmO K C "standing" Vh) (t8:ClsI K C/\All (λf=>Qx K C f) T.flds) (o6:∃fa fd,Mk K B fa/\DefOk K "__init__" Jao fa fd) (c3:DmO K B "rank_of" Jac) (d1:DmO K B "holds" VI) (d6:DmO K B "pick" Vg) (c0:DmO K B "standing" Vh) (o7:ClsI K B/\All (λf=>Qx K B f) T.flds) (e5:W.nsIn K Zn "MOST_COMINGS"=J (J<|.int 200 R)) (x6:W.nsIn K Zn "AT"=J (J<|.int 0 U)) (v0:W.nsIn K Zn "COME"=J (J<|.int 1 n2)) (v1:W.nsIn K Zn "LATE"=J (J<|.int 2 n3)) (s7:W.nsIn K Zn "LENGTH"=J (J<|.int 3 e7)) (e6:W.nsIn K Zn "MOST_LETTERS"=J (J<|.int 8 V)) (i4:W.nsIn K Zn "MOST_HOLDS"=J (J<|.int 6 b7)) (t9:W.nsIn K Zn "THING"=J (J<|.int 0 h1)) (u0:W.nsIn K Zn "START"=J (J<|.int 1 L)) (v7:W.nsIn K Zn "END"=J (J<|.int 2 r0)) (u1:W.nsIn K Zn "PLACE"=J (J<|.int 0 h3)) (v2:W.nsIn K Zn "FROM"=J (J<|.int 1 S)) (u2:W.nsIn K Zn "UNTIL"=J (J<|.int 2 h4)) (i5:W.nsIn K Zn "MOST_WORKS"=J (J<|.int 12 b8)) (i6:W.nsIn K Zn "MOST_CROWD"=J (J<|.int 80 Y)) (d7:W.kitOne K (.type "NoneType") (.ref j)=J Zi) (l6:W.kitOne K (.type "bool") (.ref j)=J Zi) (o8:W.kitOne K (.type "int") (.ref j)=J Zi) (o9:W.kitOne K (.type "str") (.ref j)=J Zi) (l7:W.kitOne K (.type "list") (.ref j)=J Zi) (i7:W.kitOne K (.type "tuple") (.ref j)=J Zi) (l8:W.kitOne K (.type "dict") (.ref j)=J Zi) (l9:W.kitOne K (.ref j) (.ref j)=J (memS "Work" ["Work"])) (i8:W.kitOne K (.ref m) (.ref j)=J (memS "Bench" ["Work"])) (n0:W.kitOne K (.ref F) (.ref j)=J (memS "Duty" ["Work"])) (i9:W.kitOne K (.ref u) (.ref j)=J (memS "Order" ["Work"])) (h0:W.kitOne K (.ref a5) (.ref j)=J (memS "ByRank" ["Work"])) (j0:W.kitOne K (.ref C) (.ref j)=J (memS "ByDue" ["Work"])) (d8:W.kitOne K (.ref B) (.ref j)=J (memS "ByComing" ["Work"])) (v8:W.nsIn K Zn "all"=J Zc) (v3:W.nsIn K Zn "bool"=J Zc) (n1:W.nsIn K Zn "enumerate"=J Zc) (v9:W.nsIn K Zn "int"=J Zc) (j1:W.nsIn K Zn "isinstance"=J Zc) (x0:W.nsIn K Zn "len"=J Zc) (v4:W.nsIn K Zn "list"=J Zc) (x1:W.nsIn K Zn "max"=J Zc) (x2:W.nsIn K Zn "min"=J Zc) (u3:W.nsIn K Zn "range"=J Zc) (x3:W.nsIn K Zn "set"=J Zc) (s8:W.nsIn K Zn "sorted"=J Zc) (x4:W.nsIn K Zn "str"=J Zc) (x5:W.nsIn K Zn "sum"=J Zc) (u4:W.nsIn K Zn "tuple"=J Zc) (s9:BasK K u): ∃fd:ZaK,(∀(s:Zl) (v:Zh),ZcG s fd #[[v],[]] [("_law_script",v)])/\∀base:Zam,K.In base->base.Ns Zn mg->Q8 mg base->FnOk prog w K mg base (CXI prog w) 64 fa fd ["_law_script"] (XW K "_law_script"<|Yi 16):=by
 obtain⟨fa',fd,hm,ok,hb⟩:=v6;have e:=Q.symm.trans hm;cases e;have M:All (λp:Str×Zm=>W.nsIn K Zn p.1=J (J<|.ref p.2)/\ExI K p.2) [("TooMany",E),("HoldsThings",D),("BadRow",k)]:=.cons (#[O,n7])<|.cons (#[P,e0])<|.cons (#[H,e8])<|.nil;have kD:TabOk (ceOf [("Work",j),("Bench",m),("Duty",F),("Order",u),("ByRank",a5),("ByDue",C),("ByComing",B)]) T K mg:=J5d _ (.cons n9<|.cons d4<|.cons j3<|.cons t2<|.cons s2<|.cons j4<|.cons g1<|.cons r4<|.cons r5<|.cons r6<|.cons j5<|.cons r7<|.cons g2<|.cons c4<|.cons j6<|.cons r8<|.cons j7<|.cons v5<|.cons u5<|.cons s3<|.cons j8<|.cons o0<|.cons h8<|.cons o1<|.cons o2<|.cons e2<|.cons g3<|.cons s4<|.cons g4<|.cons h9<|.cons o3<|.cons j9<|.cons l0<|.cons o4<|.cons r9<|.cons o5<|.cons l1<|.cons i0<|.cons l2<|.cons g5<|.cons b6<|.cons c7<|.cons (#[_,_,hm,ok])<|.nil) (.cons ((let ⟨fa,fd,p,q⟩:=u6;#[j,fa,fd,W.mg_of X G n5,02,p,q]))<|.cons ((let ⟨fa,fd,p,q⟩:=t3;#[m,fa,fd,W.mg_of X G s0,02,p,q]))<|.cons ((let ⟨fa,fd,p,q⟩:=u8;#[F,fa,fd,W.mg_of X G t1,02,p,q]))<|.cons ((let ⟨fa,fd,p,q⟩:=t5;#[u,fa,fd,W.mg_of X G h7,02,p,q]))<|.cons ((let ⟨fa,fd,p,q⟩:=s5;#[a5,fa,fd,W.mg_of X G r3,02,p,q]))<|.cons ((let ⟨fa,fd,p,q⟩:=t7;#[C,fa,fd,W.mg_of X G s1,02,p,q]))<|.cons ((let ⟨fa,fd,p,q⟩:=o6;#[B,fa,fd,W.mg_of X G j2,02,p,q]))<|.nil) (.cons (#[j,02,.cons l3<|.nil])<|.cons (#[m,02,.cons c2<|.cons e3<|.cons c5<|.cons i1<|.cons g6<|.nil])<|.cons (#[F,02,.cons l4<|.cons l5<|.nil])<|.cons (#[u,02,.cons g7<|.cons i2<|.cons c8<|.nil])<|.cons (#[a5,02,.cons c9<|.cons e4<|.cons g8<|.cons c6<|.nil])<|.cons (#[C,02,.cons d5<|.cons g9<|.cons i3<|.cons d0<|.nil])<|.cons (#[B,02,.cons c3<|.cons d1<|.cons d6<|.cons c0<|.nil])<|.nil) (.cons (#[_,.int 200,W.mg_of X G e5,#[R,rfl],λ_ _=>rfl])<|.cons (#[_,.int 0,W.mg_of X G x6,#[U,rfl],λ_ _=>rfl])<|.cons (#[_,.int 1,W.mg_of X G v0,#[n2,rfl],λ_ _=>rfl])<|.cons (#[_,.int 2,W.mg_of X G v1,#[n3,rfl],λ_ _=>rfl])<|.cons (#[_,.int 3,W.mg_of X G s7,#[e7,rfl],λ_ _=>rfl])<|.cons (#[_,.int 8,W.mg_of X G e6,#[V,rfl],λ_ _=>rfl])<|.cons (#[_,.int 6,W.mg_of X G i4,#[b7,rfl],λ_ _=>rfl])<|.cons (#[_,.int 0,W.mg_of X G t9,#[h1,rfl],λ_ _=>rfl])<|.cons (#[_,.int 1,W.mg_of X G u0,#[L,rfl],λ_ _=>rfl])<|.cons (#[_,.int 2,W.mg_of X G v7,#[r0,rfl],λ_ _=>rfl])<|.cons (#[_,.int 0,W.mg_of X G u1,#[h3,rfl],λ_ _=>rfl])<|.cons (#[_,.int 1,W.mg_of X G v2,#[S,rfl],λ_ _=>rfl])<|.cons (#[_,.int 2,W.mg_of X G u2,#[h4,rfl],λ_ _=>rfl])<|.cons (#[_,.int 12,W.mg_of X G i5,#[b8,rfl],λ_ _=>rfl])<|.cons (#[_,.int 80,W.mg_of X G i6,#[Y,rfl],λ_ _=>rfl])<|.nil) (.cons u7<|.cons t4<|.cons u9<|.cons t6<|.cons s6<|.cons t8<|.cons o7<|.nil) (.cons (#[j,W.mg_of X G n5,d7,l6,o8,o9,l7,i7,l8,.cons l9<|.cons i8<|.cons n0<|.cons i9<|.cons h0<|.cons j0<|.cons d8<|.nil])<|.nil) (.cons (W.mg_none_of X G v8)<|.cons (W.mg_none_of X G v3)<|.cons (W.mg_none_of X G n1)<|.cons (W.mg_none_of X G v9)<|.cons (W.mg_none_of X G j1)<|.cons (W.mg_none_of X G x0)<|.cons (W.mg_none_of X G v4)<|.cons (W.mg_none_of X G x1)<|.cons (W.mg_none_of X G x2)<|.cons (W.mg_none_of X G u3)<|.cons (W.mg_none_of X G x3)<|.cons (W.mg_none_of X G s8)<|.cons (W.mg_none_of X G x4)<|.cons (W.mg_none_of X G x5)<|.cons (W.mg_none_of X G u4)<|.nil) (.cons (#[E,W.mg_of X G O,O,n6])<|.cons (#[D,W.mg_of X G P,P,d9])<|.nil) (.cons (#[(.ref k),.inl<|W.mg_of X G H,Yc (bs:=[Zi,Zi,Zg]) M rfl r1])<|.cons (#[(.ref E),.inl<|W.mg_of X G O,Yc (bs:=[Zg,Zi,Zi]) M rfl n8])<|.cons (#[(.ref D),.inl<|W.mg_of X G P,Yc (bs:=[Zi,Zg,Zi]) M rfl e1])<|.cons (#[(.ref I),.inl<|W.mg_of X G Z,Yc (bs:=[Zg,Zg,Zg]) M rfl h5])<|.cons (#[(.type "ValueError"),.inr #[W.mg_none_of X G e9,rfl],Yc (bs:=[Zg,Zg,Zg]) M rfl g0])<|.nil) (.cons (#[u,W.mg_of X G h7,s9])<|.nil) (xms:=.cons ((let ⟨fa,fd,p,q,r⟩:=r2;#[k,fa,fd,W.mg_of X G H,H,p,q,J2n p,r]))<|.nil) (xfs:=.cons (.cons (#[k,H,d2,e8,d3])<|.nil)<|.nil) (xbs:=.cons (#[I,W.mg_of X G Z,h6])<|.nil);exact#[fd,hb,λbase _ _ cS=>Jz7 kD (λ_=>cS) 16 rfl ok]
end
end LW
open PySem L2
theorem LW.walk{l:W.OpenLaw}{q:Z7}{loose:Tl}{D:(Str->Tc)->Zam->Prop}{k:ZU->Zam->Prop}{d:DefRec}{K:Params->W.Frag}{m:Tw}(hn:l.most=J 63)(j:d.params.defaults=[]) (C:∀(w:ZU) (h:Zam),k w h->(K w.params).In h/\∀p∈m,h.get? p=J (W.tabObj #[]))(E:∀w:ZU,L4.Vd (K w.params) ["too_full","Bench.__init__","Order.pick"] m=Zg) (F:∀(w:ZU)(mg:Str->Tc)(fa:Zm)(h:Zam),(K w.params).In h->h.Ns Zn mg->mg d.name=J (.ref fa) ->∃fd:ZaK,(∀(s:Zl) (u:Zh),ZcG s fd #[[u],[]] [("_law_script",u)])/\∀base:Zam,(K w.params).In base->base.Ns Zn mg->L3.Q8 mg base->FnOk l.prog w (K w.params) mg base (L3.CXI l.prog w) 64 fa fd ["_law_script"] (L3.XW (K w.params) "_law_script"<|LW.Yi 16)):W.WalkO q loose D k l.row.toRowW d [] (λf O=>PySem.call f O):=L4.Jw2 hn 01 j #[rfl,01,01] C E F λns B=>LW.Jvv ns B
open PySem PySem.W PyProof.Rows
structure PySem.W.Fast:Prop where (tw8282378544722358025 tw60719882630543492 tw15488895907547039283 tw13031654934488877155 tw1251032170359666808 tw2405938277401535730 tw12130243940330621184 tw13621392971268787815 tw8073220449458125281 tw6306850990146403354 tw14805902103207474134 tw15948898244222695209 tw17303712581466836113 tw7925024743133767982 tw7204067512672657493 tw12735753349345581971 tw4577051650818637185 tw15393966356355629529 tw9588328764964385909 tw9448785876871867235 tw6982809861864705865 tw11621586808193163420 tw14604110701811665087 tw14983361614022246195 tw110959765187626969 tw18038220699015440792 tw3034640400277162434 tw7216904412111781563 tw12245436791658569921 tw4110829968205177113 tw16643329812599294988 tw1795831564598722571 tw980727514738941455 tw992436954821315117 tw6882800222765322909 tw5368482483188391768 tw2457469202139992359 tw18193616474430456570 tw3415550944132278334 tw13003680069476659703 tw7208020171384294772 tw3205569626165066712 tw17023257654975203438 tw8342534087497148519 tw5640400820897492563 tw17933299517844574479 tw7397186246389059565 tw15006870704062245763 tw11990035282287810318 tw16655172949391053309 tw10115021442334745501 tw3937192969312845147 tw5157344193317376910 tw16027529802492543737 tw4547095964321075781 tw10838770564035351901 tw4356292827984243913 tw5521213851602736803 tw16953874596598207517 tw2304236294643399487 tw9003640642338878829 tw12583161182575321463 tw9758794738673511586 tw16605275665756033475 tw15804417814826680149 tw1260142335272208380 tw11583021356596510827 tw8686773815855701826 tw15869198171035358699 tw268167169774237988 tw3575763713474263789 tw11340145678926702372 tw3212610125368342433 tw6987328939596098506 tw14468223851238684617 tw16552207706584472335 tw15492835602219413111 tw6078990342165073804 tw15783886957923608685 tw66494402558560305 tw13761339315356954097 tw2810875662423049030 tw235955173894818422 tw8723812789904099505 tw8339406115525094773 tw3584307422269880192 tw11629150918642504300 tw7879889721380337663 tw3775836934943812429 tw14382703590900152299 tw7177399008435839778 tw15537092769950373455 tw14743259538541924292 tw14575295201301032058 tw992281663366293254 tw8909786201285218852 tw621784567151016854 tw9867523125462827907 tw11097406751756952587 tw7367690716765896387 tw16985104390036078519 tw8607915360384687288 tw1434827259763648093 tw15912899668467100917 tw13488270660253776458 tw11051377587246716766 tw3644996224913714633 tw13826995237729176050 tw17154735130668850420 tw1636381662291262065 tw2075669599957543916 tw6129865011659983165 tw17855669585794700694 tw3745753320549271231 tw15655916476220687861 tw1594497972543914075 tw13056451063999413012 tw16767912419052778959 tw3209425147981815844 tw15748306478119850343 tw17578820678787250914 tw7029382459115418855 tw4705518500114884376 tw6848535327014081399 tw2807971860789427872 tw6022082899821597376 tw13627467560900042491 tw4268873805359292525 tw14513697103338780693 tw15141421832739344022 tw13441137982285329256 tw788832501680764564 tw5043752833115695523 tw9964390599363969044 tw8103151273738316781 tw17622205900961846826 tw6642490943070659775 tw12099970868608421285 tw17762859758621878397 tw7803084781927222371 tw778333648090146433 tw6466742295417573064 tw3963471177584198034 tw17999987685146475412 tw15657375279420228340 tw8304875208887803205 tw15296035298951459722 tw15682058761474977889 tw17370086033918641017 tw2303641768355438127 tw11493959332730796610 tw2040083162054464644 tw16699690724885344846 tw18226568332862780899 tw14867961276583058695 tw11984708220879260175 tw12481806153465044994 tw12158543511532199262 tw5949815512809944646 tw10908848463371781376 tw1315755685303497337 tw16157697459185343596 tw11992497662948684148 tw6224729711541872284 tw4187843133540915512 tw11635345079549176283 tw1460632955922262745 tw11329963467220893214 tw12687783163775433801 tw7146829444389367952 tw15854416744861169125 tw14959752366909663306 tw17527529135681057651 tw17973236966692886437 tw3589188712421227514 tw14933476233127814852 tw2927716584173233521 tw9404070829948761308 tw16268204247394805512 tw8152813325487015666 tw18425534715309717730 tw41128158573393011 tw6609795632530061268 tw18293083325504056276 tw8723460686766701737 tw502092394806600576 tw16598715879316236508 tw7205304147138629864 tw15975489849898662443 tw13057306036366478745 tw12091261593094022072 tw5298215947419913755 tw5332614016641935785 tw5233891881779016168 tw11445784433749444538 tw17610226255096155234 tw5035673413950518835 tw6711620947079062704 tw4266017691479873076 tw18183424711024252139 tw1345988483961902809 tw6474162350588541736 tw4016543905560635456 tw6062668667603883748 tw16917884207959312878 tw6722657588015752957 tw6136797604479813769 tw13066142576280654890 tw10299888049149579152 tw7225407830454007316 tw8623041721287895484 tw14110785563760452601 tw967952833567420605 tw8308048431930619889 tw3875589181413349353 tw17642875980216337036 tw11873948368045834114 tw7124185048879162807 tw9500011132467560634 tw7659575800199073618 tw14504537356321734666 tw13464197648111596620 tw2008846753620887393 tw9637676660684975177 tw11129859351155077610 tw8052624280574068328 tw11546207009195555588 tw892538614822002716 tw5618559521023775988 tw17896699678839935639 tw4902108881798437265 tw16881023546562881122 tw14042237857236300010 tw8844401431080977236 tw16564491561189506747 tw974201125315153205 tw4785524832069611567 tw4240259486570418901 tw1460419363776702489 tw1986173669525392821 tw5945513851724827809 tw12597276480744312506 tw9226501571264831692 tw7081289866164416938 tw5139232730778665004 tw5389788940319364318 tw12049521812344457460 tw11800588227265291654 tw9827266645473648578 tw10772268502635631589 tw15038824786775346630 tw18336643455384138095 tw9569980757913061013 tw1146050561971005299 tw17629796791152549949 tw1407372490337339286 tw14637968575297972316 tw15746659916193288950 tw10283937263575361298 tw9230009496385040229 tw2812857739514844710 tw8795553714336669832 tw3938067479120924409 tw12029384361720914773 tw13913603318155707663 tw8930171376987221836 tw17780308132994679180 tw13662107074682533780 tw12304942632828266677 tw11979594760073858124 tw14922973723741817483 tw9523285768021079137 tw3939375912600501035 tw8654387756004943616 tw16754556437692625389 tw18293473792931764889 tw3869964877892194065 tw1034799353439045699 tw10765636226092470214 tw9772933611276450848 tw5266043852340801561 tw15507781543851147243 tw13798476435085306543 tw6898844089591784738 tw8137415621729637620 tw2989182226750194829 tw4615081908565479847 tw15634326376746410430 tw9800358252826718927 tw14783055746358405083 tw7738909382856454159 tw14172717582162676119 tw9710008786398160874 tw148955538755561628 tw13672793864769832927 tw2637216652222388601 tw2599219150240692480 tw17979804724702171214 tw6120183001288750623 tw4737819335191343043 tw9330925597661613910 tw16580880630143607522 tw5181173544239754194 tw14259290587441412775 tw13652522422858981432 tw12856206597795916847 tw7683384594293928477 tw9621938793906552701 tw15089897921126220401 tw4349970030048040914 tw8597085123887885024 tw13772010889713916518 tw13601951581611355861 tw11182047666216829880 tw8080706718143381294 tw18003803938246541787 tw16601040698893466804 tw13413694113352173791 tw2383521460427832757 tw1040290215152894934 tw4364430981685845114 tw1301991465563198475 tw6949560234778585394 tw8978119344789340664 tw3283760282277703638 tw509537493066719971 tw10409863605742172812 tw512445441202956138 tw8879291631961258146 tw18163604059984004062 tw4026631840415638966 tw5523710982899941721 tw13936130942937026534 tw10178394069415443038 tw2434811539014821308 tw13101800532210890855 tw11836892226986193122 tw5650229057289447001 tw10754786308542144594 tw17028111880875989271 tw377808947646956888 tw8150475780562994284 tw14361237644820386021 tw16055293437676475371 tw15644673713280061512 tw12724940905517115162 tw4684439228124490641 tw14877479873169907589 tw4321080284311805577 tw16921892208482721139 tw6411539231174900699 tw17106848803051843621 tw18178440394279130537 tw11594924627664838703 tw6677844125422460407 tw17216628348242274108 tw4825202647387247974 tw3765947563697253354 tw13027266246517803707 tw2822507088344432336 tw11884552455950290232 tw7177942648009934636 tw3341255989455326981 tw6497817264423446657 tw4189653963694217302 tw5875129492803894886 tw16631519441364088298 tw17813798732107433856 tw13967315103250915840 tw18431862449246140269 tw2865641895840651114 tw762054215948694550 tw9437050504548445629 tw13092319229623836813 tw13012869725115958282 tw9550511771877519126 tw8867871687292802554 tw15733060079422261568 tw17159761522758277129 tw4110191348633677633 tw2296041869283700584 tw7537184210426889146 tw12410951633611112513 tw1223640960273658259 tw1751300606823589697 tw1611089651608288982 tw13791068590084867011 tw18002479266154333227 tw10979976145125232599 tw1641571986411623417 tw7868971386736913755 tw14983763104097496950 tw1537981580174782952 tw5556128917982631719 tw1729678894327442953 tw6545461437812486208 tw1232394280163125934 tw14418091099675916944 tw16610496543310214553 tw16671207818802765219 tw18409820905164282678 tw2719356279595969946 tw14717929835937670698 tw17280281722212325673 tw7064913579295784528 tw4918204581406419839 tw2479298449112168872 tw4088921157503104935 tw3454714385147121053 tw9495744222193960680 tw15064183428940960159 tw8493473802586563565 tw8397734323562152958 tw2669831878846094286 tw6477612502019760926 tw1551226748256668312 tw10953475458545533525 tw8487824507302765882 tw7281498293832808211 tw10737682138088699328 tw11817032057285177873 tw1798914238043899770 tw16854380455555954300:True)
set_option maxRecDepth 100000 in
set_option maxHeartbeats 0 in
theorem PySem.Challenge.cw_dutyproof_k36_rows_refused_holds : PySem.Challenge.rw_dutyproof_k36_rows_refused.Holds := by
 w_on;o_law;k_head;(case hw=>w_witness2)
 k_fill
 refine LW.walk (l:=PySem.Challenge.rw_dutyproof_k36_rows_refused) rfl rfl (λw h YY=>⟨W.km_in_of YY,W.km_tabs_of YY⟩) ?HC ?F;case HC=>exact λw=>by kernel_rfl
 case F=>
  intro w mg fa h KX G hmg;refine' LW.fin KX G hmg ?aA ?aB ?aD ?aE ?aF ?aG ?aH ?aI ?aJ ?aK ?aL ?aM ?aN ?aO ?aP ?aQ ?aR ?aS ?aT ?aU ?aV ?aW ?aX ?aY ?aZ ?bA ?bB ?bC ?bD ?bE ?bF ?bG ?bH ?bI ?bJ ?bK ?bL ?bM ?bN ?bO ?bP ?bQ ?bR ?bS ?bT ?bU ?bV ?bW ?bX ?bY ?bZ ?cA ?cB ?cC ?cD ?cE ?cF ?cG ?cH ?cI ?cJ ?cL ?cM ?cN ?cO ?cP ?cQ ?cR ?cT ?cU ?cV ?cW ?cX ?cY ?cZ ?dA ?dB ?dC ?dD ?dE ?dF ?dG ?dH ?dI ?dJ ?dK ?dL ?dM ?dN ?dO ?dP ?dQ ?dR ?dS ?dT ?dU ?dV ?dW ?dX ?dY ?dZ ?eA ?eB ?eC ?eD ?eE ?eF ?eG ?eH ?eI ?eJ ?eK ?eL ?eM ?eN ?eO ?eP ?eQ ?eR ?eS ?eT ?eU ?eV ?eW ?eX ?eY ?eZ ?fA ?fB ?fC ?fD ?fE ?fF ?fG ?fH ?fI ?fJ ?fK ?fL ?fM ?fN ?fO ?fP ?fQ ?fR ?fS ?fT ?fU ?fV ?fW ?fX
  (case aA|aB|aD|aE=>k_is)
  (case aF=>k_exc)
  (case aG=>k_exc)
  (case aH=>(refine' LW.Js5 ?fY ?fZ ?gA ?gB ?gC ?gD;(case fY|fZ|gA|gB|gC|gD=>k_is)))
  (case aI=>(refine' LW.Js5 ?gE ?gF ?gG ?gH ?gI ?gJ;(case gE|gF|gG|gH|gI|gJ=>k_is)))
  (case aJ=>(refine' LW.Js5 ?gK ?gL ?gM ?gN ?gO ?gP;(case gK|gL|gM|gN|gO|gP=>k_is)))
  (case aK|aL|aM|aN=>kernel_rfl)
  (case aO=>k_is)
  (case aP=>kernel_rfl)
  (case aQ=>exact L4.J32 LW.Jih (by k_is) (by k_is) (by k_is) (by k_is) (by kernel_rfl)<|by k_is)
  (case aR=>(refine' L3.StoX.mk ?gQ ?gR ?gS;(case gQ=>kernel_rfl);(case gR=>kernel_rfl);(case gS=>k_is)))
  (case aS=>k_is)
  (case aT=>(refine' L3.BasX.mk ?gT ?gU ?gV;(case gT|gU|gV=>k_is)))
  (case aU|aV|aW|aX|aY|aZ|bA=>k_is)
  (case bB=>exact L4.J4 KX G LW.Jnu)
  (case bC=>exact L4.J4 KX G LW.Jf8)
  (case bD=>exact L4.J4 KX G LW.Jmm)
  (case bE=>exact L4.J4 KX G LW.Jwj)
  (case bF=>exact L4.J4 KX G LW.Jto)
  (case bG=>exact L4.J4 KX G LW.Jmd)
  (case bH=>exact L4.J4 KX G LW.Jik)
  (case bI=>exact L4.J4 KX G LW.Jqf)
  (case bJ=>exact L4.J4 KX G LW.Jqh)
  (case bK=>exact L4.J4 KX G LW.Jqg)
  (case bL=>exact L4.J4 KX G LW.Jmi)
  (case bM=>exact L4.J4 KX G LW.Jqj)
  (case bN=>exact L4.J4 KX G LW.Jil)
  (case bO=>exact L4.J4 KX G LW.Je6)
  (case bP=>exact L4.J4 KX G LW.Jmk)
  (case bQ=>exact L4.J4 KX G LW.Jqk)
  (case bR=>exact L4.J4 KX G LW.Jmj)
  (case bS=>exact L4.J4 KX G LW.J43)
  (case bT=>exact L4.J4 KX G LW.J0z)
  (case bU=>exact L4.J4 KX G LW.Jtq)
  (case bV=>exact L4.J4 KX G LW.Jml)
  (case bW=>exact L4.J4 KX G LW.Jnt)
  (case bX=>exact L4.J4 KX G LW.Jkm)
  (case bY=>exact L4.J4 KX G LW.Jny)
  (case bZ=>exact L4.J4 KX G LW.Jns)
  (case cA=>exact L4.J4 KX G LW.Jhr)
  (case cB=>exact L4.J4 KX G LW.Jio)
  (case cC=>exact L4.J4 KX G LW.Jtp)
  (case cD=>exact L4.J4 KX G LW.Jim)
  (case cE=>exact L4.J4 KX G LW.Jko)
  (case cF=>exact L4.J4 KX G LW.Jnx)
  (case cG=>exact L4.J4 KX G LW.Jmf)
  (case cH=>exact L4.J4 KX G LW.Jmh)
  (case cI=>exact L4.J4 KX G LW.Jnw)
  (case cJ=>exact L4.J4 KX G LW.Jqi)
  (case cL=>exact L4.J4 KX G LW.Jnv)
  (case cM=>exact L4.J4 KX G LW.Jmg)
  (case cN=>exact L4.J4 KX G LW.Jkn)
  (case cO=>exact L4.J4 KX G LW.Jme)
  (case cP=>exact L4.J4 KX G LW.Jin)
  (case cQ=>exact L4.J4 KX G LW.Jc3)
  (case cR=>exact L4.J4 KX G LW.Jfn)
  (case cT=>(refine' LW.J31 KX G ?gW ?gX ?gY ?gZ;(case gW|gX|gY|gZ=>k_is)))
  (case cU=>(refine' LW.Jl2 ?iA ?iB ?iC ?iD ?iE ?iF ?iG ?iH;(case iA|iB|iC|iD|iE|iF|iG|iH=>k_is)))
  (case cV=>exact L4.JQ LW.Jmb)
  (case cW=>(refine' LW.Xo ?iI ?iJ ?iK ?iL ?iM ?iN ?iO ?iP ?iQ ?iR ?iS ?iT ?iU ?iV ?iW ?iX ?iY ?iZ ?jA ?jB ?jC ?jD ?jE ?jF ?jG ?jH ?jI ?jJ ?jK;(case iI|iJ|iK|iL|iM|iN|iO|iP|iQ|iR|iS|iT|iU|iV|iW|iX|iY|iZ|jA|jB|jC|jD|jE|jF|jG|jH|jI|jJ|jK=>k_is)))
  (case cX=>exact L4.XJ LW.Jki)
  (case cY=>exact L4.JQ LW.Jd6)
  (case cZ=>exact L4.JQ LW.Jhp)
  (case dA=>exact L4.JQ LW.Je5)
  (case dB=>exact L4.JQ LW.Jkj)
  (case dC=>exact L4.JQ LW.Jii)
  (case dD=>(refine' LW.Xo ?jL ?jM ?jN ?jO ?jP ?jQ ?jR ?jS ?jT ?jU ?jV ?jW ?jX ?jY ?jZ ?lA ?lB ?lC ?lD ?lE ?lF ?lG ?lH ?lI ?lJ ?lK ?lL ?lM ?lN;(case jL|jM|jN|jO|jP|jQ|jR|jS|jT|jU|jV|jW|jX|jY|jZ|lA|lB|lC|lD|lE|lF|lG|lH|lI|lJ|lK|lL|lM|lN=>k_is)))
  (case dE=>exact L4.XJ LW.Jl8)
  (case dF=>exact L4.JQ LW.Jl9)
  (case dG=>exact L4.JQ LW.Jma)
  (case dH=>(refine' LW.Xo ?lO ?lP ?lQ ?lR ?lS ?lT ?lU ?lV ?lW ?lX ?lY ?lZ ?mA ?mB ?mC ?mD ?mE ?mF ?mG ?mH ?mI ?mJ ?mK ?mL ?mM ?mN ?mO ?mP ?mQ;(case lO|lP|lQ|lR|lS|lT|lU|lV|lW|lX|lY|lZ|mA|mB|mC|mD|mE|mF|mG|mH|mI|mJ|mK|mL|mM|mN|mO|mP|mQ=>k_is)))
  (case dI=>exact L4.XJ LW.Jkl)
  (case dJ=>exact L4.JQ LW.Jbu)
  (case dK=>exact L4.JQ LW.Jbc)
  (case dL=>exact L4.JQ LW.Jaf)
  (case dM=>(refine' LW.Xo ?mR ?mS ?mT ?mU ?mV ?mW ?mX ?mY ?mZ ?nA ?nB ?nD ?nE ?nF ?nG ?nH ?nI ?nJ ?nL ?nM ?nN ?nO ?nP ?nQ ?nR ?nS ?nT ?nU ?nV;(case mR|mS|mT|mU|mV|mW|mX|mY|mZ|nA|nB|nD|nE|nF|nG|nH|nI|nJ|nL|nM|nN|nO|nP|nQ|nR|nS|nT|nU|nV=>k_is)))
  (case dN=>exact L4.XJ LW.Jij)
  (case dO=>exact L4.JQ LW.Jfm)
  (case dP=>exact L4.JQ LW.Jhq)
  (case dQ=>exact L4.JQ LW.Jbc)
  (case dR=>exact L4.JQ LW.Jaf)
  (case dS=>(refine' LW.Xo ?nW ?nX ?nY ?nZ ?oA ?oB ?oC ?oD ?oE ?oF ?oG ?oH ?oI ?oJ ?oK ?oL ?oM ?oN ?oO ?oP ?oQ ?oR ?oS ?oT ?oU ?oV ?oW ?oX ?oY;(case nW|nX|nY|nZ|oA|oB|oC|oD|oE|oF|oG|oH|oI|oJ|oK|oL|oM|oN|oO|oP|oQ|oR|oS|oT|oU|oV|oW|oX|oY=>k_is)))
  (case dT=>exact L4.XJ LW.Jkk)
  (case dU=>exact L4.JQ LW.Jf7)
  (case dV=>exact L4.JQ LW.Jbu)
  (case dW=>exact L4.JQ LW.Jbc)
  (case dX=>exact L4.JQ LW.Jaf)
  (case dY=>(refine' LW.Xo ?oZ ?pA ?pB ?pC ?pD ?pE ?pF ?pG ?pH ?pI ?pJ ?pK ?pL ?pM ?pN ?pO ?pP ?pQ ?pR ?pS ?pT ?pU ?pV ?pW ?pX ?pY ?pZ ?qA ?qB;(case oZ|pA|pB|pC|pD|pE|pF|pG|pH|pI|pJ|pK|pL|pM|pN|pO|pP|pQ|pR|pS|pT|pU|pV|pW|pX|pY|pZ|qA|qB=>k_is)))
  (case dZ=>exact L4.XJ LW.Jf6)
  (case eA=>exact L4.JQ LW.Jd7)
  (case eB=>exact L4.JQ LW.Jbu)
  (case eC=>exact L4.JQ LW.Jbc)
  (case eD=>exact L4.JQ LW.Jaf)
  (case eE=>(refine' LW.Xo ?qC ?qD ?qE ?qF ?qG ?qH ?qI ?qJ ?qK ?qL ?qM ?qN ?qO ?qP ?qQ ?qR ?qS ?qT ?qU ?qV ?qW ?qX ?qY ?qZ ?rA ?rB ?rC ?rD ?rE;(case qC|qD|qE|qF|qG|qH|qI|qJ|qK|qL|qM|qN|qO|qP|qQ|qR|qS|qT|qU|qV|qW|qX|qY|qZ|rA|rB|rC|rD|rE=>k_is)))
  (case eF|eG|eH|eI|eJ|eK|eL|eM|eN|eO|eP|eQ|eR|eS|eT=>k_is)
  (case eU|eV|eW|eX|eY|eZ|fA|fB|fC|fD|fE|fF|fG|fH=>kernel_rfl)
  (case fI|fJ|fK|fL|fM|fN|fO|fP|fQ|fR|fS|fT|fU|fV|fW=>k_is)
  (case fX=>(refine' LW.J30 ?rF ?rG ?rH ?rI ?rJ;(case rF|rG|rH|rI|rJ=>k_is)))

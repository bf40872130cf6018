import PyProof.Rows.All
import Wide.All
import OpenK.AllK
import Wide.FinOn
import Lean
import PyProof.EqAt
import PyProof.EqKinds
import PyProof.TupleCall
import PyProof.ExcBaseAll.ValueError
import PyProof.ExcAttrAll.ValueError
import PyProof.NsDelKeeps
import PySem.Challenge.RW_dutyproof_k61_hardest_rows
open Option renaming some→Za,none→Zc,map_eq_some_iff→ZD,isSome_iff_exists→Zbh,bind_some→ZbM,join_some→ZbN,getD_some→ZdQ
open List renaming getElem?_eq_getElem→Zb,length_map→Zg,getD_eq_getElem?_getD→Zi,mem_append_right→Zl,mem_cons_of_mem→Zp,getElem?_eq_some_iff→Zr,length_append→Zs,size_toArray→Zt,getElem_mem→Zw,mem_singleton→Zx,mem_cons_self→Zy,mem_map→Zz,map_cons→Z1,getElem?_map→Z4,mem_cons→Z6,getElem?_append_right→Z8,length_cons→ZA,getElem?_append_left→ZE,not_mem_nil→ZF,getElem_map→ZG,mem_append→ZK,range→ZM,mem_iff_getElem→ZO,mem_append_left→ZQ,getElem?_set_ne→ZT,replicate→ZU,getElem?_set_self→ZX,take_succ_eq_append_getElem→ZZ,length_take→Zaa,append_assoc→Zac,lookup_cons→Zad,cons_append→Zaf,map_map→Zai,all_cons→Zak,append_nil→Zam,map_append→Zat,nil_append→Zaw,mem_range→Zay,set_append_left→Za0,take_of_length_le→Za1,mem_filter→Za3,length_filter_le→Za6,getElem?_cons_succ→Za8,getElem?_cons_zero→Za9,length_nil→ZaD,length_drop→ZaF,toArray→ZaG,drop_eq_getElem_cons→ZaI,reverse_cons→ZaM,length_singleton→ZaP,getElem?_eq_none→ZaQ,mem_of_getElem?→ZaT,mem_of_mem_take→ZaV,replicate_succ→Zbc,all_eq_true→Zbe,any_eq_true→Zbf,map_nil→Zbi,sum_cons→Zbk,eq_nil_of_length_eq_zero→Zbn,pairwise_append→Zbo,getElem_take→Zbs,length_set→Zbu,ext_getElem→Zbz,set_cons_zero→Zb0,length_replicate→Zb3,findIdx?_eq_some_iff_getElem→Zb5,findIdx?_eq_none_iff→Zb7,lookup→Zb8,flatten_cons→Zb9,length_range→ZbB,any_cons→ZbF,getElem?_replicate→ZbJ,filter_cons→ZbO,pairwise_cons→ZbS,find?_cons→ZbU,ext_getElem?→Zca,mem_flatMap→Zci,getElem?_take_of_lt→Zcl,nodup_cons→Zcq,set_cons_succ→Zcv,getElem_range→Zcw,length_eq_zero_iff→Zc1,drop_eq_nil_of_le→ZcA,mapM_cons→ZcB,pairwise_map→ZcG,eraseIdxIfInBounds_toArray→ZcH,set_append_right→ZcK,getElem_inj→ZcM,map_take→ZcX,getElem_reverse→Zde,sum_append→Zdj,filterMap_cons→Zdk,length_reverse→Zdl,map_congr_left→Zdm,filter_eq_self→Zdn,findIdx?_cons→Zd2,getElem?_drop→Zd3,pairwise_iff_getElem→Zd7,getElem_drop→ZdA,length_erase_of_mem→ZdF,drop_length→ZdP,take_length→ZdR,nodup_range→ZdS,filter_cons_of_pos→ZdT,filter_cons_of_neg→ZdU,set_set→Zeg,of_mem_zip→Zeh,range_succ→Zei,getElem?_toArray→Zem,dropLast_eq_take→Zen,map_drop→ZeB
open PySem renaming wpAny_bind→Zd,Value→Ze,Shared→Zn,Addr→Zq,wpAny_pure→Zv,wpAny→Z0,mainGlobals→Z5,model→Z9,Program→ZB,starEach→ZC,Around→ZN,World→ZV,wpAny_Call_Name_kw→Zag,mem_of_lookup→Zah,wpAny_holding→Zaj,wpAny_mono→Zal,compareOp→Zas,Heap→Zax,wpAny_tryCatch→ZaB,codeAny_builtin→ZaE,FuncData→ZaH,assignEach→ZaL,binaryOp→ZaS,plainId_quiet→ZaX,eval→ZaY,wpAny_pyIter_list→Zba,NameKind→Zbd,Scope→Zbg,wpAny_standAt→Zbj,sizeLine_eq→Zbl,backTo→Zbm,wpAny_truthy_bool→Zbp,wpAny_newObj_type→Zbq,Spec→ZbD,wpAny_getItem_str_slice→ZbL,wpAny_letGo→ZbP,wpAny_updateSeq→ZbV,Arguments→ZbY,foldedSetIterable→ZbZ,wpAny_seqItems→Zcb,bootBuiltins→Zce,holding→Zcg,scanBound→Zch,behindInMarks→Zcm,letOwnedTupleGo→Zco,wpAny_loadPart'→Zcr,sysModules→Zct,builtinsNs→Zcu,sliceBounds→Zcy,keywordEach→Zcz,pyNext→Zc3,codeAny→Zc4,BindsTo→Zc7,codeAny_mono→Zc9,Operator→ZcE,call_meets→ZcO,closureFor→ZcQ,attributeBase→ZcS,Builtin→ZcT,wpAny_newList→ZcU,strKind→ZcV,richCompare→ZcZ,wpAny_execs_nil→Zdf,PyData→Zdg,post_val_or_str→Zdi,getItem→Zdp,swapsWith→Zdq,seqItems?→Zdr,Stmt→Zdt,IsPart→Zdv,wpAny_rule→Zdy,getMethod→ZdH,codeAmong→ZdJ,lastMarks→ZdK,backToKw→ZdL,pyIter→ZdV,wpAny_pyNext_list_item→ZdW,assign→ZdZ,argsOk→Zeb,wpAny_pyNext_list_end→Zek,Result→Zep,bindArgs→Zeq,seqIndex_of→Zes,subscripted→Zet,wpAny_of_eq→Zeu,intText?→Zew,Keyword→Ze1,callerA→Ze2,argBest→Ze3,cLine→Ze7,assignInOrder→Ze8,wpAny_call→ZeE,Within→ZeF,GenState→ZeG,seqIndex_neg→ZeJ,valueAt→ZeK,standAt→ZeL,rawInt→ZeO,strValues→ZeQ,updateSeq→ZeR
open Bool renaming true→Zh,false→Zk,and_eq_true→Zo,false_ne_true→Zu,false_eq_true→Zae,or_eq_true→Za4,not_eq_true'→ZaN,true_eq_false→Zb1,eq_false_iff→ZbC,not_false→Zcc,not_true→Zcn,eq_iff_iff→Zcp,or_eq_false_iff→Zda
open PySem.Heap renaming get?_push_of_some→Zj,get?_push_size→Z2,lt_size→Z3,get?_update_other→ZI,SameBut→Zc2,size_push→Zc5,get?_update_self→ZcJ
open Nat renaming le_refl→Zm,ne_of_lt→Z7,lt_of_lt_of_le→ZH,zero_le→ZR,le_trans→ZW,lt_succ_self→Zaz,le_succ→ZaU,ne_of_gt→Zby,lt_succ_of_lt→ZbA,lt_irrefl→ZbX,add_right_cancel→Zcd,le_of_lt→Zcf,le_of_eq→Zc6,sub_self→ZcF,succ_le_succ→ZcN,le_of_not_lt→ZcP,eq_zero_or_pos→Zd1,le_of_ble_eq_true→Zeo,add_assoc→ZeA
open Int renaming le_refl→ZJ,emod_lt_of_pos→ZL,emod_nonneg→ZP,mul_le_mul_of_nonneg_left→ZaO,toNat_natCast→ZaZ,natCast_nonneg→ZbT,toNat→Zc0,add_mul→Zdd,le_ediv_iff_mul_le→Zec,le_trans→Zee,le_of_lt→Zef,natCast_add→Zej,lt_irrefl→ZeC,le_of_eq→ZeM,zero_mul→ZeN
open PySem.Str renaming ofString→ZS,length→ZdY
open PySem.PyData renaming canLayAll0→ZY,canLay0→ZaC,eqv→Zbv,tuple→ZcC,eqvAll→ZcW,list→ZcY
open Ne renaming symm→Zab
open Classical renaming byContradiction→Zan
open PySem.Obj renaming mapSeq→Zao
open PySem.Builtin.Builtins renaming bindParams→Zap
open Option.some renaming inj→Zaq,injEq→Zbb
open True renaming intro→Zar
open PySem.Around renaming under_plainId→Zau,under→ZeH
open PyProof.Rows renaming seqObj→Zav,callWith_type1→Za7,evalAll_cons→ZaJ,signs→Zb2,IntsAre→Zb4,evalAll_nil→ZbH,callWith_builtin1→ZbK,get?_update_seq→Zcs,subscriptTail_builtinR→Zc8,slot_tuple_getitem→ZcI,mirror_size→Zdc,AllBare→Zdo,size_push'→Zdz,spliced_more→Zd4,spliced_none→Zd5,subscriptTail→ZdC,listUpdate_at→ZdE,envOfC→Zer,callWith_kw→Zev
open PySem.F renaming plain_max_loop→Za2,plainAttrs_list→Zbr,entry_max_loop→ZbQ,slot_dict_setdefault→Zdh,plain_max→Zd8,entry_max→Zd9,args_tuple_add_2→ZdB,entry_tuple_add→ZdI,kind_max→ZdM,plain_list_iadd→ZdO,slot_tuple_add→ZdX
open PySem.NameKind renaming free→Za5,cell→ZdD
open PySem.Value renaming none→ZaA,int→Zcx,bool→ZcL,str→Zez,ref→Ze0,type→ZeD
open Array renaming length_toList→ZaK,getD_eq_getD_getElem?→ZaW,getElem?_eq_getElem→Zd6,getElem?_toList→Zel
open ForInStep renaming yield→ZaR
open False renaming elim→Zbt
open List.cons renaming injEq→Zbw
open PyProof.Rows.F renaming plain_set_update_loop→Zbx,entry_set_update_loop→Zck
open PySem.Builtin.Slice renaming slicePlaces→Zb6,sliceAdjust→Zcj,sliceApplied→Zdw
open PySem.Builtin.List renaming listTooLong→ZbE
open PySem.Builtin.Tuple renaming tupleExact→ZbG
open PySem.W renaming kas_rev→ZbI,kas_asc→ZbR,kas_sort→ZbW,kas_descPart→ZcD,kas_desc→Zdb,kas_place→Zds,kas_count→ZdN,kas_tail3→Ze5
open PySem.Walks renaming list→ZcR
open PySem.Calls renaming Name_function_global→Zdu,spliced_cons→Zdx,callWith_builtin→Zea
open PyProof.Rows.IntsAre renaming int_at→Zd0
open PySem.Builtin.Range renaming rangeSize→ZdG
open PySem.Txt renaming slice_le→Zed,slice→Ze4
open Sum renaming inl→Zex,inr→Zey
open PySem.Paired renaming length→Ze6
open PySem.CmpOf renaming ints_gt→Ze9
open PySem.Code renaming isFrame→ZeI
open PySem.Data renaming cell→ZeP
noncomputable section
set_option compiler.extract_closed false
set_option bootstrap.genMatcherCode false
set_option genSizeOf false
set_option Elab.async false
set_option linter.all false
set_option maxRecDepth 100000
abbrev CeT:=PySem.Str->Option PySem.Addr
abbrev QvT:=PySem.Value->PySem.Shared->Prop
abbrev PnT:=List<|PySem.Addr×PySem.Obj
theorem Zf{p:Prop}(h:False):p:=h.elim
local macro_rules|`(00)=>`(by omega)|`(01)=>`(by decide)|`(02)=>`(by kernel_rfl)|`(03)=>`(by simp)|`(04)=>`(by rfl)
namespace L2
open PySem PySem.Spec PyProof.Rows
abbrev _root_.Wa:=List<|Nat×Int×Int
abbrev _root_.Wb:=Array<|Option Ze
abbrev _root_.Wg:=List<|Str×Zbd
abbrev _root_.Wh:=List<|Int×Tok
abbrev _root_.Wj:=List<|Str×Ze
abbrev _root_.Wn:=List<|Str×Zq
abbrev _root_.Wr:=Option Expr
abbrev _root_.Wt:=Option Bool
abbrev _root_.Wu:=Option Zbd
abbrev _root_.Wv:=Option Int
abbrev _root_.Ww:=Option Nat
abbrev _root_.Wx:=Option Ze
abbrev _root_.Wy:=Array ZeG
abbrev _root_.Wz:=Option Zq
abbrev _root_.Ta:=List Expr
abbrev _root_.Tc:=Array Nat
abbrev _root_.Tf:=Array Ze
abbrev _root_.Tg:=List Str
abbrev _root_.Th:=List Env
abbrev _root_.Ti:=List Zdt
abbrev _root_.Tj:=List Ze1
abbrev _root_.Tk:=List Int
abbrev _root_.Tl:=List Nat
abbrev _root_.To:=List Ze
abbrev _root_.Tp:=List Zq
abbrev Key:=Sum Int Str
def XJ:Key->Ze->Bool
 |.inl k,v=>Value.isInt k v
 |.inr x,v=>Value.isStrOf x v
def keyH(w:ZV):Key->Int
 |.inl k=>hashInt k
 |.inr x=>hashStr w x
theorem VE:∀{k:Key}{v:Ze},XJ k v=Zh->(∃i t,k=Zex i/\v=Zcx i t)∨(∃x t,k=Zey x/\v=Zez x t)
 |.inl i,v,h=>by
  obtain⟨t,e⟩:=Value.isInt_shape (k:=i) (v:=v) h
  exact .inl ⟨i,t,rfl,e⟩
 |.inr x,v,h=>by
  obtain⟨t,e⟩:=Value.isStrOf_shape (x:=x) (v:=v) h
  exact .inr ⟨x,t,rfl,e⟩
theorem Jsn(i:Int)(t:Tok):XJ (.inl i) (.int i t)=Zh:=by simp[XJ,Value.isInt]
theorem Jso(x:Str)(t:Tok):XJ (.inr x) (.str x t)=Zh:=by simp[XJ,Value.isStrOf]
theorem J2y(a b:Int):decide ((Zex a:Key)=Zex b)=(a==b):=by
 by_cases e:a=b
 ·subst e;simp
 ·have h:¬(Zex a:Key)=Zex b:=λq=>e<|Sum.inl.inj q
  rw[decide_eq_false h]
  exact(beq_eq_false_iff_ne.mpr e).symm
theorem J21(a b:Str):decide ((Zey a:Key)=Zey b)=decide (a=b):=by
 by_cases e:a=b
 ·subst e;simp
 ·have h:¬(Zey a:Key)=Zey b:=λq=>e<|Sum.inr.inj q
  rw[decide_eq_false h,decide_eq_false e]
theorem J2z(a:Int)(b:Str):decide ((Zex a:Key)=Zey b)=Zk:=decide_eq_false λq=>nomatch q
theorem J20(a:Str)(b:Int):decide ((Zey a:Key)=Zex b)=Zk:=decide_eq_false λq=>nomatch q
def Vz(prog:ZB)(w:ZV):PySem.KeyKind prog w Key where
 is:=XJ
 hash:=keyH w
 inj:=λv a b ha hb=>by
  rcases VE ha with⟨i,t,rfl,rfl⟩|⟨x,t,rfl,rfl⟩
  ·rcases VE hb with⟨j,u,rfl,e⟩|⟨y,u,rfl,e⟩
   ·injection e with e1 _;rw[e1]
   ·exact nomatch e
  ·rcases VE hb with⟨j,u,rfl,e⟩|⟨y,u,rfl,e⟩
   ·exact nomatch e
   ·injection e with e1 _;rw[e1]
 byValue:=λk v h=>by
  rcases VE h with⟨i,t,rfl,rfl⟩|⟨x,t,rfl,rfl⟩<;>rfl
 pyHash:=λhv h=>by
  rcases VE hv with⟨i,t,rfl,rfl⟩|⟨x,t,rfl,rfl⟩
  ·exact wpAny_pyHash_int h
  ·exact wpAny_pyHash_str h
 eqBool:=λhu hv h=>by
  rcases VE hu with⟨i,t,rfl,rfl⟩|⟨x,t,rfl,rfl⟩
  ·rcases VE hv with⟨j,u,rfl,rfl⟩|⟨y,u,rfl,rfl⟩
   ·rw[J2y]at h;exact wpAny_eqBool_int h
   ·rw[J2z]at h;exact SeqAt.EqAt.int_str i t y u _ _ _ _ h
  ·rcases VE hv with⟨j,u,rfl,rfl⟩|⟨y,u,rfl,rfl⟩
   ·rw[J20]at h;exact SeqAt.EqAt.str_int x t j u _ _ _ _ h
   ·rw[J21]at h;exact wpAny_eqBool_str h
 «strs» :=λk x t v h=>by
  rcases VE h with⟨i,u,rfl,e⟩|⟨y,u,rfl,e⟩
  ·exact nomatch e
  ·injection e with e1 _
   subst e1
   cases v<;>rfl
theorem Jnr(prog:ZB)(w:ZV)(i:Int)(t:Tok):(Vz prog w).is (.inl i) (.int i t)=Zh:=Jsn i t
theorem Jns(prog:ZB)(w:ZV)(x:Str)(t:Tok):(Vz prog w).is (.inr x) (.str x t)=Zh:=Jso x t
inductive V where
 |non|bl (b:Bool)|int (i:Int)|str (x:Str)|byt (b:Array UInt8)|flt (b:UInt64)|ref (a:Zq)|ty (n:String)
 deriving DecidableEq
abbrev _root_.Wc:=List<|Option V
abbrev _root_.Wp:=List<|Key×V
abbrev _root_.Wq:=List<|Str×V
abbrev _root_.Te:=Option V
abbrev _root_.Tu:=List V
def RelV:V->Ze->Prop
 |.non,u=>u=ZaA
 |.bl b,u=>u=ZcL b
 |.int i,u=>∃t,u=Zcx i t
 |.str x,u=>∃t,u=Zez x t
 |.byt b,u=>∃t,u=Value.bytes b t
 |.flt b,u=>∃t,u=Value.float b t
 |.ref a,u=>u=Ze0 a
 |.ty n,u=>u=ZeD n
abbrev Vals:Tu->To->Prop:=Paired RelV
theorem Vals.length{xs:Tu}{us:To}(r:Vals xs us):xs.length=us.length:=Ze6 r
theorem Vals.get:∀{xs:Tu}{us:To}{i:Nat}{x:V},Vals xs us->xs[i]?=Za x->∃u,us[i]?=Za u/\RelV x u
 |_,_,_,_,.nil,e=>by simp at e
 |_,_,0,_,.cons r _,e=>by simp at e;subst e;exact⟨_,rfl,r⟩
 |_,_,i+1,x,.cons _ t,e=>by
  obtain⟨u,h1,h2⟩:=Vals.get (i:=i) (x:=x) t<|by simpa using e
  exact⟨u,by simpa using h1,h2⟩
theorem Vals.set{x:V}{u:Ze}(r:RelV x u):∀{xs:Tu}{us:To}(i:Nat),Vals xs us->Vals (xs.set i x) (us.set i u)
 |_,_,_,.nil=>.nil
 |_,_,0,.cons _ t=>.cons r t
 |_,_,i+1,.cons q t=>.cons q<|Vals.set r i t
theorem Vals.append:∀{xs ys:Tu}{us ws:To},Vals xs us->Vals ys ws->Vals (xs++ys) (us++ws)
 |_,_,_,_,.nil,s=>s
 |_,_,_,_,.cons r t,s=>.cons r<|Vals.append t s
theorem Vals.take:∀{xs:Tu}{us:To}(n:Nat),Vals xs us->Vals (xs.take n) (us.take n)
 |_,_,0,_=>.nil
 |_,_,_+1,.nil=>.nil
 |_,_,n+1,.cons r t=>.cons r<|Vals.take n t
theorem Vals.drop:∀{xs:Tu}{us:To}(n:Nat),Vals xs us->Vals (xs.drop n) (us.drop n)
 |_,_,0,r=>r
 |_,_,_+1,.nil=>.nil
 |_,_,n+1,.cons _ t=>Vals.drop n t
def RelO:Te->Wx->Prop
 |some v,Za u=>RelV v u
 |none,Zc=>True
 |_,_=>False
def KV{κ:Type}:List (κ×V)->List (κ×Ze)->Prop:=Paired λ(p:κ×V)(q:κ×Ze)=>p.1=q.1/\RelV p.2 q.2
noncomputable def kV:Key->V
 |.inl i=>.int i
 |.inr x=>.str x
inductive HO where
 /-- a list -/
 |lst (xs:Tu)
 /-- a tuple (never changes) -/
 |tup (xs:Tu)
 /-- a dict whose keys are ints and texts; one whose keys are tuples of ints and texts (the empty one is both) -/
 |dK (kvs:Wp)|dT (kvs:List (List Key×V))
 /-- a set of ints: its members,its size -/
 |set (S:Int->Bool) (n:Nat)
 /-- an instance of the class at C,its dict at dx,its attributes -/
 |ins (C dx:Zq) (fs:Wq)
 /-- the dict of the instance at x -/
 |own (x:Zq)
 /-- the dict of an exception -/
 |xd (fs:Wq)
 /-- a bound method,f of x -/
 |met (f x:Zq)
 /-- a range object lo,lo + 1,.. below hi -/
 |rng (lo hi:Int)
 /-- a thing that is known to the object (the script; a dict while a loop walks it): read,never written while it is so -/
 |frz (o:Obj) (u:HO)
 /-- a code object's table -/
 |tbl (ps:Tf)
 /-- any other thing,by what is Zh of its one object (a def of one's own: SetO a S n:= HO.ext λh=> ..) -/
 |ext (φ:Zax->Prop)
abbrev Hp:=Zq->Option HO
def upd(H:Hp)(a:Zq)(o:HO):Hp:=λb=>if b=a then Za o else H b
theorem JH{H:Hp}{a:Zq}{o:HO}:upd H a o a=Za o:=by unfold upd;rw[if_pos rfl]
theorem Jx{H:Hp}{a b:Zq}{o:HO}(h:b≠a):upd H a o b=H b:=by unfold upd;rw[if_neg h]
theorem V0{H:Hp}{a b:Zq}{o:HO}(h:H a=Za o)(h':H b=Zc):a≠b:=by
 intro e;subst e;rw[h]at h';cases h'
section
variable(P:ZB)(w:ZV)
def JQ(H:Hp)(h:Zax)(a:Zq):HO->Prop
 |.lst xs=>xs.length<=sizeLine/\∃(its:To) (n:Nat),Vals xs its/\h.get? a=Za {cls:=.type "list",data:=.seq its.toArray n}
 |.tup xs=>xs.length<=sizeLine/\∃its:To,Vals xs its/\IsTup h a its.toArray
 |.dK kvs=>kvs.length<=sizeLine/\(a==Zct)=Zk/\∃vs,KV kvs vs/\h.DictOf (Vz P w) a vs
 |.dT kvs=>kvs.length<=sizeLine/\(a==Zct)=Zk/\∃xs:List<|List Key×Zq×Ze,
   Paired (λ(p:List Key×V)(q:List Key×Zq×Ze)=>p.1=q.1/\H q.2.1=Za (.tup<|p.1.map kV)/\RelV p.2 q.2.2) kvs xs /\
   ∃o es ep,h.get? a=Za o/\o.ExactDict/\o.data=.dict es ep/\es.toList=xs.map (entryOfKey<|tupleKind<|Vz P w)/\(xs.map (·.1)).Nodup
 |.set S n=>h.SetOf (intKind P w) a S n
 |.ins C dx fs=>H dx=Za (.own a)/\fs.length<=1000/\dx≠a/\h.get? a=Za (W.instObj C dx) /\
   ∃mA,h.Ns1 dx mA/\(∀f,RelO (fs.lookup f)<|mA f)/\ZeF mA (fs.map (·.1))
 |.own _=>∃o,h.get? a=Za o
 |.xd fs=>∃mA,h.Ns1 a mA/\∀f,RelO (fs.lookup f)<|mA f
 |.rng lo hi=>∃t u v,h.get? a=Za {cls:=.type "range",data:=.fields #[.int lo t,.int hi u,.int 1 v]}
 |.frz o u=>h.get? a=Za o/\JQ H h a u
 |.tbl ps=>h.get? a=Za {cls:=.none,data:=.fields ps}
 |.met f x=>h.get? a=Za (W.methodObj (.ref f)<|.ref x)
 |.ext φ=>φ h/\(∃o,h.get? a=Za o)/\∀h1 h2:Zax,φ h1->(∀o,h1.get? a=Za o->h2.get? a=Za o)->φ h2
def HOk(H:Hp)(h:Zax):Prop:=∀a o,H a=Za o->JQ P w H h a o
end
section
variable{P:ZB}{w:ZV}{H H':Hp}{h h':Zax}{a:Zq}{o:HO}
theorem JQ.lt(x:JQ P w H h a o):a<h.objs.size:=by
 cases o with
 |lst xs=>obtain⟨_,_,_,_,e⟩:=x;exact Z3 e
 |tup xs=>obtain⟨_,_,_,p⟩:=x;exact p.lt
 |dK kvs=>obtain⟨_,_,_,_,o,_,_,e,_⟩:=x;exact Z3 e
 |dT kvs=>obtain⟨_,_,_,_,o,_,_,e,_⟩:=x;exact Z3 e
 |set S n=>obtain⟨o,_,_,_,e,_⟩:=x;exact Z3 e
 |ins C dx fs=>obtain⟨_,_,_,e,_⟩:=x;exact Z3 e
 |own y=>obtain⟨_,e⟩:=x;exact Z3 e
 |xd fs=>obtain⟨_,⟨_,_,_,e,_⟩,_⟩:=x;exact Z3 e
 |rng lo hi=>obtain⟨_,_,_,e⟩:=x;exact Z3 e
 |frz ob u=>obtain⟨e,_⟩:=x;exact Z3 e
 |tbl ps=>exact Z3<|show h.get? a=Za _ from x
 |met f y=>exact Z3<|show h.get? a=Za _ from x
 |ext φ=>obtain⟨_,⟨_,e⟩,_⟩:=x;exact Z3 e
theorem Paired.mapP{α β:Type}{F G:α->β->Prop}:∀{l₁:List α}{l₂:List β},Paired F l₁ l₂->(∀a b,F a b->G a b)->Paired G l₁ l₂
 |_,_,.nil,_=>.nil
 |_,_,.cons r t,f=>.cons (f _ _ r)<|Paired.mapP t f
theorem JQ.stay(x:JQ P w H h a o)(k:∀b u,(b=a∨H b=Za (.own a))->h.get? b=Za u->h'.get? b=Za u)
  (ho:∀b,H b=Za (.own a)->H' b=Za (.own a))(ht:∀b xs,H b=Za (.tup xs)->H' b=Za (.tup xs)):JQ P w H' h' a o:=by
 induction o with
 |lst xs=>obtain⟨z,its,n,r,e⟩:=x;exact⟨z,its,n,r,k _ _ (.inl rfl) e⟩
 |tup xs=>obtain⟨z,its,r,ob,e,c⟩:=x;exact⟨z,its,r,ob,k _ _ (.inl rfl) e,c⟩
 |dK kvs=>obtain⟨z,y,vs,r,ob,es,ep,e,c⟩:=x;exact⟨z,y,vs,r,ob,es,ep,k _ _ (.inl rfl) e,c⟩
 |dT kvs=>
  obtain⟨z,y,xs,r,ob,es,ep,e,c⟩:=x
  exact⟨z,y,xs,Paired.mapP r λp q z=>⟨z.1,ht _ _ z.2.1,z.2.2⟩,ob,es,ep,k _ _ (.inl rfl) e,c⟩
 |set S n=>obtain⟨ob,es,ep,t,e,c⟩:=x;exact⟨ob,es,ep,t,k _ _ (.inl rfl) e,c⟩
 |ins C dx fs=>
  obtain⟨d,z,ne,e,mA,⟨od,es,ep,e2,c⟩,r⟩:=x
  exact⟨ho _ d,z,ne,k _ _ (.inl rfl) e,mA,⟨od,es,ep,k _ _ (.inr d) e2,c⟩,r⟩
 |own y=>obtain⟨ob,e⟩:=x;exact⟨ob,k _ _ (.inl rfl) e⟩
 |xd fs=>obtain⟨mA,⟨od,es,ep,e,c⟩,r⟩:=x;exact⟨mA,⟨od,es,ep,k _ _ (.inl rfl) e,c⟩,r⟩
 |rng lo hi=>obtain⟨t,u,v,e⟩:=x;exact⟨t,u,v,k _ _ (.inl rfl) e⟩
 |frz ob u ih=>obtain⟨e,q⟩:=x;exact⟨k _ _ (.inl rfl) e,ih q⟩
 |tbl ps=>
  have e:h.get? a=Za {cls:=.none,data:=.fields ps}:=x
  show h'.get? a=Za {cls:=.none,data:=.fields ps}
  exact k a _ (.inl rfl) e
 |met f y=>
  have e:h.get? a=Za (W.methodObj (.ref f)<|.ref y):=x
  show h'.get? a=Za (W.methodObj (.ref f)<|.ref y)
  exact k a _ (.inl rfl) e
 |ext φ=>obtain⟨p,⟨o,e⟩,st⟩:=x;exact⟨st _ _ p λo q=>k _ _ (.inl rfl) q,⟨o,k _ _ (.inl rfl) e⟩,st⟩
theorem HOk.lt(x:HOk P w H h)(e:H a=Za o):a<h.objs.size:=(x a o e).lt
theorem HOk.fresh(x:HOk P w H h)(e:h.objs.size<=a):H a=Zc:=by
 cases q:H a with
 |none=>rfl
 |some u=>exact absurd (ZH (x.lt q) e)<|ZbX _
theorem HOk.kept(x:HOk P w H h)(k:∀b u,h.get? b=Za u->h'.get? b=Za u):HOk P w H h':=λa o e=>
 (x a o e).stay (λb u _ q=>k b u q) (λ_ q=>q) λ_ _ q=>q
theorem HOk.laid(x:HOk P w H h)(k:∀b u,h.get? b=Za u->h'.get? b=Za u)(hp:h.objs.size<=a)(new:JQ P w (upd H a o) h' a o):HOk P w (upd H a o) h':=λb u e=>by
 have hn:=x.fresh hp
 by_cases hb:b=a
 ·subst hb;rw[JH]at e;cases e;exact new
 ·rw[Jx hb]at e
  exact(x b u e).stay (λc v _ q=>k c v q) (λc q=>by rw[Jx<|V0 q hn];exact q) λc xs q=>by rw[Jx<|V0 q hn];exact q
end
def Rd(H:Hp)(a:Zq)(u:HO):Prop:=H a=Za u∨∃o,H a=Za (.frz o u)
theorem Rd.ok{P:ZB}{w:ZV}{H:Hp}{h:Zax}{a:Zq}{u:HO}(r:Rd H a u)(x:HOk P w H h):JQ P w H h a u:=by
 rcases r with r|⟨o,r⟩
 ·exact x a u r
 ·obtain⟨_,q⟩:=x a _ r
  exact q
def Mut:Option HO->Prop
 |some (.lst _)=>True
 |some (.dK _)=>True
 |some (.dT _)=>True
 |some (.set _ _)=>True
 |some (.ins _ _ _)=>True
 |some (.ext _)=>True
 |_=>False
section
variable{P:ZB}{w:ZV}{H:Hp}{h h':Zax}{x e:Zq}{o':HO}
theorem HOk.write(ok:HOk P w H h)(mu:Mut<|H x)(he:e=x∨H e=Za (.own x))(k:∀b u,b≠e->h.get? b=Za u->h'.get? b=Za u)(heo:∃u,h'.get? e=Za u)
  (new:JQ P w (upd H x o') h' x o'):HOk P w (upd H x o') h':=λb u q=>by
 have nown:∀c y,H c=Za (.own y)->c≠x:=λc y r z=>by subst z;rw[r]at mu;exact mu
 have ntup:∀c xs,H c=Za (.tup xs)->c≠x:=λc xs r z=>by subst z;rw[r]at mu;exact mu
 by_cases hb:b=x
 ·subst hb;rw[JH]at q;cases q;exact new
 ·rw[Jx hb]at q
  by_cases hbe:b=e
  ·have q':H b=Za (.own x):=by
    rcases he with z|z
    ·exact absurd (hbe.trans z) hb
    ·rw[hbe];exact z
   rw[q]at q';cases q'
   obtain⟨v,hv⟩:=heo
   exact⟨v,by rw[hbe];exact hv⟩
  ·refine(ok b u q).stay (λc v hc r=>k c v ?_ r) (λc r=>by rw[Jx<|nown c b r];exact r) λc xs r=>by rw[Jx<|ntup c xs r];exact r
   rcases hc with rfl|hc
   ·exact hbe
   ·rintro rfl
    rcases he with z|z
    ·exact nown c b hc z
    ·rw[hc]at z;cases z;exact hb rfl
end
structure Un(fs ex:Tp)(H H':Hp)(h h':Zax):Prop where
 keep:∀b o,h.get? b=Za o->H b=Zc->b∉fs->b∉ex->h'.get? b=Za o
 slot:∀b o,h.get? b=Za o->H b=Zc->b∈fs->b∉ex->∃sl,h'.get? b=Za {o with slots:=sl}
 free:∀b o,h.get? b=Za o->H b=Zc->b∉ex->H' b=Zc
 there:∀b o,h.get? b=Za o->b∉ex->∃o',h'.get? b=Za o'
 tups:∀b xs,H b=Za (.tup xs)->H' b=Za (.tup xs)
 frzs:∀b o u,H b=Za (.frz o u)->H' b=Za (.frz o u)
 tbls:∀b ps,H b=Za (.tbl ps)->∃more,H' b=Za (.tbl<|ps++more)
section
variable{fs fs' ex ex':Tp}{H H1 H2:Hp}{h h1 h2 h':Zax}{a x e:Zq}{o:HO}
theorem Un.any(u:Un fs ex H H1 h h1){b:Zq}{ob:Obj}(q:h.get? b=Za ob)(n:H b=Zc)(hx:b∉ex):∃sl,h1.get? b=Za {ob with slots:=sl}:=by
 by_cases hb:b∈fs
 ·exact u.slot b ob q n hb hx
 ·exact⟨ob.slots,u.keep b ob q n hb hx⟩
theorem Un.kept(k:∀b u,h.get? b=Za u->h'.get? b=Za u):Un fs ex H H h h':=
 ⟨λb ob q _ _ _=>k b ob q,λb ob q _ _ _=>⟨ob.slots,k b ob q⟩,λ_ _ _ n _=>n,λb ob q _=>⟨ob,k b ob q⟩,λ_ _ q=>q,λ_ _ _ q=>q,λ_ ps q=>⟨#[],by rw[q];simp⟩⟩
theorem Un.refl:Un fs ex H H h h:=Un.kept λ_ _ q=>q
theorem Un.laid(k:∀b u,h.get? b=Za u->h'.get? b=Za u)(hp:h.objs.size<=a)(hn:H a=Zc):Un fs ex H (upd H a o) h h' where
 keep:=λb u q _ _ _=>k b u q
 slot:=λb u q _ _ _=>⟨u.slots,k b u q⟩
 free:=λb u q n _=>by rw[Jx<|Z7<|ZH (Z3 q) hp];exact n
 there:=λb u q _=>⟨u,k b u q⟩
 tups:=λb xs q=>by rw[Jx<|V0 q hn];exact q
 frzs:=λb u xs q=>by rw[Jx<|V0 q hn];exact q
 tbls:=λb ps q=>⟨#[],by rw[Jx<|V0 q hn,q];simp⟩
theorem Un.write(mu:Mut<|H x)(he:e=x∨H e=Za (.own x))(k:∀b u,b≠e->h.get? b=Za u->h'.get? b=Za u)(heo:∃u,h'.get? e=Za u):Un fs ex H (upd H x o) h h':=by
 have hx:∀b,H b=Zc->b≠x:=λb n z=>by subst z;rw[n]at mu;exact mu
 have hb:∀b,H b=Zc->b≠e:=λb n z=>by
  subst z
  rcases he with r|r
  ·exact hx b n r
  ·rw[n]at r;cases r
 have hm:∀b u,H b=Za u->¬Mut (Za u)->b≠x:=λb u q nm z=>by subst z;rw[q]at mu;exact nm mu
 refine⟨λb u q n _ _=>k b u (hb b n) q,λb u q n _ _=>⟨u.slots,k b u (hb b n) q⟩,λb u q n _=>by rw[Jx<|hx b n];exact n,λb u q _=>?_,
  λb xs q=>by rw[Jx<|hm b _ q λz=>z];exact q,λb u xs q=>by rw[Jx<|hm b _ q λz=>z];exact q,λb ps q=>⟨#[],by rw[Jx<|hm b _ q λz=>z,q];simp⟩⟩
 by_cases hbe:b=e
 ·subst hbe;exact heo
 ·exact⟨u,k b u hbe q⟩
end
noncomputable def trk (h:Zax)(H:Hp):Tp:=(ZM h.objs.size).filter λa=>(H a).isSome
def hidT(h:Zax)(H:Hp):Zax:=W.hideAll h<|trk h H
theorem Jsc(h:Zax)(H:Hp):(hidT h H).objs.size=h.objs.size:=W.hideAll_size _ _
theorem Jva{h:Zax}{H:Hp}{b:Zq}{o:Obj}(e:h.get? b=Za o)(n:H b=Zc):(hidT h H).get? b=Za o:=
 W.hideAll_get _ e λhm=>by
  have q:(H b).isSome=Zh:=(Za3.mp hm).2
  rw[n]at q;simp at q
theorem Jz8{h:Zax}{H:Hp}{b:Zq}{o:Obj}(e:(hidT h H).get? b=Za o):h.get? b=Za o/\H b=Zc:=by
 have e':h.get? b=Za o:=W.of_hideAll (trk h H) e
 refine⟨e',?_⟩
 cases q:H b with
 |none=>rfl
 |some x=>
  have hm:b∈trk h H:=Za3.mpr ⟨Zay.mpr<|Z3 e',by simp[q]⟩
  have z:(hidT h H).get? b=Zc:=W.hideAll_none (trk h H) hm
  rw[z]at e;cases e
structure Mod(K:W.Frag)(mg:Str->Wx)(base:Zax):Prop where
 kin:K.In base
 glob:base.Ns Z5 mg
 blt:∃mb,base.Ns Zcu mb/\∀x:Str,x≠"__name__"->mb x=Zce x
 nolimit:base.NoLimit
set_option genInjectivity false in
structure Cx where
 prog:ZB
 w:ZV
 K:W.Frag
 mg:Str->Wx
 base:Zax
 A:ZN
 N:Tg
 s₀:Zn
 H₀:Hp
 env:Env
 outer:Th
 stack:Th
 ex:Tp
 fn:Str->Bool
 calm:Bool
 pn:PnT
 xe:QvT
noncomputable def frs (l:Th):Tp:=l.filterMap (·.frame)
abbrev Cx.fs(X:Cx):Tp:=frs X.outer
def Vis(sc:Zbg)(x:Str):Prop:=sc.names.lookup x=Za .local∨sc.names.lookup x=Za .cell∨sc.names.lookup x=Za .free
def Loc(sc:Zbg)(x:Str):Prop:=sc.names.lookup x=Za .local∨sc.names.lookup x=Za .cell
def Look(env:Env)(h:Zax)(m:Str->Wx)(x:Str)(u:Ze):Prop:=
 (env.kindOf x=Za .local/\m x=Za u)∨((env.kindOf x=Za .cell∨env.kindOf x=Za .free)/\∃c,env.cells.lookup x=Za c/\h.IsCell c (Za u))
structure Cx.Ok(X:Cx):Prop where
 mod:Mod X.K X.mg X.base
 kind:X.env.scope.kind=.function
 glob:X.env.globals=Z5
 blt:X.env.builtins=Zcu
 above:X.s₀.heap.objs.size<=X.env.locals
 inj:∀x y c,X.env.cells.lookup x=Za c->X.env.cells.lookup y=Za c->x=y
 has:∀x,(X.env.kindOf x=Za .cell∨X.env.kindOf x=Za .free)->∃c,X.env.cells.lookup x=Za c
 cab:∀x c,X.fn x=Zh->X.env.cells.lookup x=Za c->X.s₀.heap.objs.size<=c
 hd:X.calm=Zh->X.A.handled=Zc
 frames:X.A.frames=Za X.stack
 stk:X.stack=X.outer∨(X.stack=X.env::X.outer/\X.env.frame=Za X.env.locals)
 exf:∀b∈X.ex,b≠X.env.locals/\∀x c,X.env.cells.lookup x=Za c->c≠b
 bs:∀b o,X.base.get? b=Za o->X.s₀.heap.get? b=Za o/\X.H₀ b=Zc
 bsz:X.base.objs.size<=X.s₀.heap.objs.size
 noex:∀b o,X.base.get? b=Za o->b∉X.ex
 exfs:∀b∈X.ex,b∉X.fs
 funs:X.s₀.heap.FunFrames X.base X.outer
 frf:∀b∈X.fs,X.H₀ b=Zc
structure Inv(X:Cx)(pj:PnT)(σ:Wc)(H:Hp)(s:Zn):Prop where
 ok:X.Ok
 os:s.os=X.s₀.os
 bare:Zdo s.gens
 base:Un X.fs X.ex X.H₀ H X.s₀.heap s.heap
 loc:∃m,s.heap.Ns X.env.locals m/\∀(i:Nat)(x:Str)(v:V),X.N[i]?=Za x->σ[i]?=Za (Za v)->Vis X.env.scope x->∃u,RelV v u/\Look X.env s.heap m x u
 cell:∀x c,X.env.cells.lookup x=Za c->∃v,s.heap.IsCell c v
 free:H X.env.locals=Zc
 freeC:∀x c,X.env.cells.lookup x=Za c->H c=Zc
 pin:∀p∈X.pn++pj,s.heap.get? p.1=Za p.2/\H p.1=Zc/\p.1≠X.env.locals/\p.1∉X.fs/\∀v,p.2.data≠.cell v
 hok:HOk X.prog X.w H s.heap
 len:σ.length=X.N.length
section
variable{X:Cx}{pj:PnT}{σ:Wc}{H H':Hp}{s:Zn}{h':Zax}
theorem Cx.Ok.nofr(ok:X.Ok){b:Zq}{o:Obj}(e:X.base.get? b=Za o):b∉X.fs:=λhb=>by
 have:=(ok.funs.mem hb).1
 rw[e]at this;cases this
theorem Inv.bs(I:Inv X pj σ H s):∀b o,X.base.get? b=Za o->s.heap.get? b=Za o/\H b=Zc:=λb o e=>
 ⟨I.base.keep b o (I.ok.bs b o e).1 (I.ok.bs b o e).2 (I.ok.nofr e) (I.ok.noex b o e),I.base.free b o (I.ok.bs b o e).1 (I.ok.bs b o e).2 (I.ok.noex b o e)⟩
theorem Inv.bk(I:Inv X pj σ H s):∀b o,X.base.get? b=Za o->s.heap.get? b=Za o:=λb o e=>(I.bs b o e).1
theorem Inv.mod(I:Inv X pj σ H s):Mod X.K X.mg X.base:=I.ok.mod
theorem Inv.kIn(I:Inv X pj σ H s):X.K.In s.heap:=I.ok.mod.kin.keeps I.bk
theorem Inv.lt(I:Inv X pj σ H s):X.env.locals<s.heap.objs.size:=let ⟨_,hn,_⟩:=I.loc;hn.lt
theorem Inv.sz(I:Inv X pj σ H s):X.s₀.heap.objs.size<=s.heap.objs.size:=ZW I.ok.above<|Zcf I.lt
theorem Inv.nofs(I:Inv X pj σ H s){a:Zq}(h:s.heap.objs.size<=a):a∉X.fs:=λhb=>by
 obtain⟨_,o,ho,_⟩:=I.ok.funs.mem hb
 exact absurd (ZH (Z3 ho)<|ZW I.sz h)<|ZbX _
theorem Inv.cne(I:Inv X pj σ H s):∀x c,X.env.cells.lookup x=Za c->c≠X.env.locals:=λx c e z=>by
 obtain⟨v,o,ho,hd⟩:=I.cell x c e
 obtain⟨m,⟨o',es,ep,ho',hd',_⟩,_⟩:=I.loc
 rw[z,ho']at ho;cases ho;rw[hd']at hd;cases hd
theorem Inv.funs(I:Inv X pj σ H s):s.heap.FunFrames X.base X.outer:=by
 have all:∀(l:Th),(∀b∈frs l,b∈X.fs)->X.s₀.heap.FunFrames X.base l->s.heap.FunFrames X.base l:=by
  intro l
  induction l with
  |nil=>intro _ _;trivial
  |cons env r ih=>
   intro hs hl
   obtain⟨hk,⟨L,o,hf,hn,ho,hd⟩,hr⟩:=hl
   have hL:L∈X.fs:=hs L<|by unfold frs;rw[Zdk,hf];exact Zy
   obtain⟨sl,e⟩:=I.base.slot L o ho (I.ok.frf L hL) hL λz=>I.ok.exfs L z hL
   exact⟨hk,⟨L,_,hf,hn,e,hd⟩,ih (λb hb=>hs b<|by unfold frs;rw[Zdk,hf];exact Zp _ hb) hr⟩
 exact all X.outer (λ_ hb=>hb) I.ok.funs
theorem Inv.stack(I:Inv X pj σ H s):s.heap.FunFrames X.base X.stack:=by
 rcases I.ok.stk with e|⟨e,hf⟩
 ·rw[e];exact I.funs
 ·rw[e]
  obtain⟨m,hn,_⟩:=I.loc
  refine .cons (by rw[I.ok.kind];decide) hf hn ?_ I.funs
  exact Heap.get?_none_of_le<|ZW I.ok.bsz I.ok.above
theorem Inv.stkSub(I:Inv X pj σ H s):∀b∈frs X.stack,b∈X.env.locals::X.fs:=λb hb=>by
 rcases I.ok.stk with e|⟨e,hf⟩
 ·rw[e]at hb;exact Zp _ hb
 ·rw[e]at hb
  unfold frs at hb
  rw[Zdk,hf]at hb
  exact hb
theorem Inv.stkFree(I:Inv X pj σ H s):∀b∈frs X.stack,H b=Zc:=λb hb=>by
 rcases Z6.mp (I.stkSub b hb)with e|hb
 ·rw[e];exact I.free
 ·obtain⟨_,o,ho,_⟩:=I.ok.funs.mem hb
  exact I.base.free b o ho (I.ok.frf b hb) λz=>I.ok.exfs b z hb
theorem Inv.step{g':Wy}{t':Nat}{d':Drawn}{ch:Tp}(I:Inv X pj σ H s)
  (hch:∀b∈ch,(b∈X.ex∨X.s₀.heap.objs.size<=b)/\b≠X.env.locals/\(∀x c,X.env.cells.lookup x=Za c->c≠b)/\∀p∈X.pn++pj,p.1≠b)
  (keep:∀b o,b≠X.env.locals->b∉X.fs->b∉ch->s.heap.get? b=Za o->H b=Zc->h'.get? b=Za o)
  (slot:∀b o,b≠X.env.locals->b∈X.fs->b∉ch->s.heap.get? b=Za o->H b=Zc->∃sl,h'.get? b=Za {o with slots:=sl})(free:∀b o,b∉ch->s.heap.get? b=Za o->H b=Zc->H' b=Zc)
  (there:∀b o,b∉ch->s.heap.get? b=Za o->∃o',h'.get? b=Za o')
  (tups:∀b xs,H b=Za (.tup xs)->H' b=Za (.tup xs))(frzs:∀b o u,H b=Za (.frz o u)->H' b=Za (.frz o u))(tbls:∀b ps,H b=Za (.tbl ps)->∃more,H' b=Za (.tbl<|ps++more))
  (ns:∀m,s.heap.Ns X.env.locals m->h'.Ns X.env.locals m)(hok:HOk X.prog X.w H' h')(hg:Zdo g'):
  Inv X pj σ H' {s with heap:=h',gens:=g',drawn:=d',toks:=t'}:=by
 have neL:∀b o,X.s₀.heap.get? b=Za o->b≠X.env.locals:=λb o e=>Z7<|ZH (Z3 e) I.ok.above
 have neC:∀b o,X.s₀.heap.get? b=Za o->b∉X.ex->b∉ch:=λb o e hx hb=>by
  rcases(hch b hb).1 with z|z
  ·exact hx z
  ·exact absurd (ZH (Z3 e) z)<|ZbX _
 have cellK:∀x c,X.env.cells.lookup x=Za c->∀v,s.heap.IsCell c v->h'.IsCell c v:=λx c e v ⟨o,ho,hd⟩=>by
  have nch:c∉ch:=λz=>(hch c z).2.2.1 x c e rfl
  by_cases hc:c∈X.fs
  ·obtain⟨sl,q⟩:=slot c o (I.cne x c e) hc nch ho<|I.freeC x c e
   exact⟨_,q,hd⟩
  ·exact⟨o,keep c o (I.cne x c e) hc nch ho<|I.freeC x c e,hd⟩
 refine⟨I.ok,I.os,hg,⟨λb o e n hb hx=>?_,λb o e n hb hx=>?_,λb o e n hx=>?_,λb o e hx=>?_,λb xs e=>tups b xs<|I.base.tups b xs e,λb o xs e=>frzs b o xs<|I.base.frzs b o xs e,λb ps e=>?_⟩,?_,λx c e=>?_,?_,λx c e=>?_,λp hp=>?_,hok,I.len⟩
 ·exact keep b o (neL b o e) hb (neC b o e hx) (I.base.keep b o e n hb hx)<|I.base.free b o e n hx
 ·obtain⟨sl,e1⟩:=I.base.slot b o e n hb hx
  obtain⟨sl',e2⟩:=slot b _ (neL b o e) hb (neC b o e hx) e1<|I.base.free b o e n hx
  exact⟨sl',e2⟩
 ·obtain⟨o',e1⟩:=I.base.there b o e hx
  exact free b o' (neC b o e hx) e1<|I.base.free b o e n hx
 ·obtain⟨o',e1⟩:=I.base.there b o e hx
  exact there b o' (neC b o e hx) e1
 ·obtain⟨m1,e1⟩:=I.base.tbls b ps e
  obtain⟨m2,e2⟩:=tbls b _ e1
  exact⟨m1++m2,by rw[e2,Array.append_assoc]⟩
 ·obtain⟨m,hn,hl⟩:=I.loc
  refine⟨m,ns m hn,λi x v e1 e2 e3=>?_⟩
  obtain⟨u,r,l⟩:=hl i x v e1 e2 e3
  refine⟨u,r,?_⟩
  rcases l with l|⟨k,c,e,z⟩
  ·exact .inl l
  ·exact .inr ⟨k,c,e,cellK x c e _ z⟩
 ·obtain⟨v,z⟩:=I.cell x c e
  exact⟨v,cellK x c e v z⟩
 ·obtain⟨m,⟨o,_,_,ho,_⟩,_⟩:=I.loc
  exact free _ o (λz=>(hch _ z).2.1 rfl) ho I.free
 ·obtain⟨v,o,ho,hd⟩:=I.cell x c e
  exact free c o (λz=>(hch c z).2.2.1 x c e rfl) ho<|I.freeC x c e
 ·obtain⟨e,n,ne,nf,d⟩:=I.pin p hp
  have nch:p.1∉ch:=λz=>(hch p.1 z).2.2.2 p hp rfl
  exact⟨keep p.1 p.2 ne nf nch e n,free p.1 p.2 nch e n,ne,nf,d⟩
theorem Inv.un{t':Nat}(I:Inv X pj σ H s)(u:Un X.fs [] H H' s.heap h')(hok:HOk X.prog X.w H' h'):Inv X pj σ H' {s with heap:=h',toks:=t'}:=by
 obtain⟨m,⟨o,es,ep,ho,r⟩,_⟩:=id I.loc
 obtain⟨sl,hL⟩:=u.any ho I.free 03
 exact I.step (g':=s.gens) (d':=s.drawn) (ch:=[]) (λ_ z=>nomatch z) (λb o _ hb _ e n=>u.keep b o e n hb 03) (λb o _ hb _ e n=>u.slot b o e n hb 03) (λb o _ e n=>u.free b o e n 03) (λb o _ e=>u.there b o e 03) u.tups u.frzs u.tbls (λm' hm=>by
  obtain⟨o',es',ep',ho',r'⟩:=hm
  rw[ho]at ho';cases ho'
  exact⟨_,es',ep',hL,r'⟩) hok I.bare
theorem Inv.call{g':Wy}{t':Nat}{d':Drawn}{ch:Tp}(I:Inv X pj σ H s)(u:Un (frs X.stack) ch H H' s.heap h')(hok:HOk X.prog X.w H' h')(hg:Zdo g')
  (hch:∀b∈ch,(b∈X.ex∨X.s₀.heap.objs.size<=b)/\b≠X.env.locals/\(∀x c,X.env.cells.lookup x=Za c->c≠b)/\∀p∈X.pn++pj,p.1≠b):
  Inv X pj σ H' {s with heap:=h',gens:=g',drawn:=d',toks:=t'}:=by
 obtain⟨m,⟨o,es,ep,ho,r⟩,_⟩:=id I.loc
 obtain⟨sl,hL⟩:=u.any ho I.free λz=>(hch _ z).2.1 rfl
 exact I.step (ch:=ch) hch (λb o hL hb hc e n=>u.keep b o e n (λz=>(Z6.mp<|I.stkSub b z).elim hL hb) hc) (λb o _ _ hc e n=>u.any e n hc) (λb o hc e n=>u.free b o e n hc) (λb o hc e=>u.there b o e hc) u.tups u.frzs u.tbls (λm' hm=>by
  obtain⟨o',es',ep',ho',r'⟩:=hm
  rw[ho]at ho';cases ho'
  exact⟨_,es',ep',hL,r'⟩) hok hg
theorem Inv.turned{t':Nat}{it:Zq}(I:Inv X pj σ H s)(k:∀b o,b≠it->s.heap.get? b=Za o->h'.get? b=Za o)(hn:H it=Zc)(hL:it≠X.env.locals)
  (h1:it∈X.ex∨X.s₀.heap.objs.size<=it)(h2:∀x c,X.env.cells.lookup x=Za c->c≠it)(h3:∀p∈X.pn++pj,p.1≠it):Inv X pj σ H {s with heap:=h',toks:=t'}:=by
 have nit:∀b u,H b=Za u->b≠it:=λb u e z=>by rw[z,hn]at e;cases e
 refine I.step (g':=s.gens) (d':=s.drawn) (ch:=[it]) (λb hb=>?_) (λb o _ _ hc e _=>k b o (λz=>hc<|by simp[z]) e) (λb o _ _ hc e _=>⟨o.slots,k b o (λz=>hc<|by simp[z]) e⟩) (λ_ _ _ _ n=>n)
  (λb o hc e=>⟨o,k b o (λz=>hc<|by simp[z]) e⟩) (λ_ _ e=>e) (λ_ _ _ e=>e) (λb ps e=>⟨#[],by rw[e];simp⟩) (λm hm=>?_) (λb u e=>?_) I.bare
 ·have e:b=it:=by simpa using hb
  subst e
  exact⟨h1,hL,h2,h3⟩
 ·obtain⟨o,es,ep,ho,r⟩:=hm
  exact⟨o,es,ep,k _ o (Zab hL) ho,r⟩
 ·refine(I.hok b u e).stay (λc v hc q=>k c v ?_ q) (λ_ q=>q) λ_ _ q=>q
  rcases hc with z|z
  ·rw[z];exact nit b u e
  ·exact nit c _ z
theorem Inv.tok(I:Inv X pj σ H s)(t:Nat):Inv X pj σ H {s with toks:=t}:=I.un (h':=s.heap) (t':=t) Un.refl I.hok
theorem Inv.kept{t':Nat}(I:Inv X pj σ H s)(k:∀b u,s.heap.get? b=Za u->h'.get? b=Za u):Inv X pj σ H {s with heap:=h',toks:=t'}:=I.un (Un.kept k)<|I.hok.kept k
theorem Inv.laid{a:Zq}{o:HO}{t':Nat}(I:Inv X pj σ H s)(k:∀b u,s.heap.get? b=Za u->h'.get? b=Za u)(hp:s.heap.objs.size<=a)(new:JQ X.prog X.w (upd H a o) h' a o):
  Inv X pj σ (upd H a o) {s with heap:=h',toks:=t'}:=I.un (Un.laid k hp<|I.hok.fresh hp)<|I.hok.laid k hp new
theorem Inv.write{x e:Zq}{o:HO}{t':Nat}(I:Inv X pj σ H s)(mu:Mut<|H x)(he:e=x∨H e=Za (.own x))(k:∀b u,b≠e->s.heap.get? b=Za u->h'.get? b=Za u)(heo:∃u,h'.get? e=Za u)
  (new:JQ X.prog X.w (upd H x o) h' x o):Inv X pj σ (upd H x o) {s with heap:=h',toks:=t'}:=I.un (Un.write mu he k heo)<|I.hok.write mu he k heo new
theorem Inv.pins_of{pj':PnT}(I:Inv X pj σ H s)(h:∀p∈pj',s.heap.get? p.1=Za p.2/\H p.1=Zc/\p.1≠X.env.locals/\p.1∉X.fs/\∀v,p.2.data≠.cell v):Inv X pj' σ H s:=
 ⟨I.ok,I.os,I.bare,I.base,I.loc,I.cell,I.free,I.freeC,λp hp=>(ZK.mp hp).elim (λz=>I.pin p<|ZQ _ z)<|h p,I.hok,I.len⟩
theorem Jox{N:Tg}(hN:N.Nodup){i j:Nat}{x:Str}(a:N[i]?=Za x)(b:N[j]?=Za x):i=j:=by
 obtain⟨h1,e1⟩:=Zr.mp a
 obtain⟨h2,e2⟩:=Zr.mp b
 exact(ZcM hN).mp<|e1.trans e2.symm
theorem Jtp{M:Model}{A:ZN}{E:QvT}{i:Nat}{x:Str}{v:V}{u:Ze}{Q:Unit->Zn->Prop}(I:Inv X pj σ H s)(hN:X.N.Nodup)(hi:X.N[i]?=Za x)(hx:Loc X.env.scope x)(r:RelV v u)
  (h:∀s',Inv X pj (σ.set i<|Za v) H s'->(∃a,Zc2 a s.heap s'.heap/\(a=X.env.locals∨X.env.cells.lookup x=Za a))->Q () s')(hf:X.fn x=Zh∨X.env.scope.names.lookup x=Za .local:=by assumption):Z0 M A (storeName X.env x u) Q E s:=by
 obtain⟨m,hn,hl⟩:=id I.loc
 have hcls:(X.env.scope.kind==.class||(X.env.scope.kind==.module&&X.env.locals != X.env.globals))=Zk:=by rw[I.ok.kind];rfl
 have hiσ:i<σ.length:=by rw[I.len];exact(Zr.mp hi).1
 have cne:=I.cne
 have tracked:∀{a:Zq}{h':Zax},(∃o,s.heap.get? a=Za o/\H a=Zc)->Zc2 a s.heap h'->HOk X.prog X.w H h':=λ{a h'} ha hs b ob e=>by
  obtain⟨_,_,hfree⟩:=ha
  refine(I.hok b ob e).stay (λc w' hc q=>(hs.2 c ?_).trans q) (λ_ q=>q) λ_ _ q=>q
  rintro rfl
  rcases hc with rfl|hc
  ·rw[hfree]at e;cases e
  ·rw[hfree]at hc;cases hc
 rcases hx with hk|hk
 ·refine wpAny_storeName_local hk hn (λh' hn' hs=>?_) hcls
  obtain⟨oL,_,_,hoL,_⟩:=id hn
  refine h _ ⟨I.ok,I.os,I.bare,⟨λb o e n hb hx=>?_,λb o e n hb hx=>?_,I.base.free,λb o e hx=>?_,I.base.tups,I.base.frzs,I.base.tbls⟩,⟨_,hn',λj y v' e1 e2 e3=>?_⟩,λy c e=>?_,I.free,I.freeC,λp hp=>?_,tracked ⟨oL,hoL,I.free⟩ hs,by simpa using I.len⟩ ⟨_,hs,.inl rfl⟩
  ·exact(hs.2 b<|Z7<|ZH (Z3 e) I.ok.above).trans<|I.base.keep b o e n hb hx
  ·obtain⟨sl,e1⟩:=I.base.slot b o e n hb hx
   exact⟨sl,(hs.2 b<|Z7<|ZH (Z3 e) I.ok.above).trans e1⟩
  ·obtain⟨o',e1⟩:=I.base.there b o e hx
   exact⟨o',(hs.2 b<|Z7<|ZH (Z3 e) I.ok.above).trans e1⟩
  ·by_cases hj:j=i
   ·subst hj
    rw[hi]at e1;cases e1
    rw[ZX hiσ]at e2
    cases e2
    exact⟨u,r,.inl ⟨hk,03⟩⟩
   ·rw[ZT<|Zab hj]at e2
    obtain⟨u',r',q⟩:=hl j y v' e1 e2 e3
    refine⟨u',r',?_⟩
    rcases q with⟨k,e⟩|⟨k,c,e,z⟩
    ·refine .inl ⟨k,?_⟩
     have:y≠x:=λe=>hj<|Jox hN e1<|e▸hi
     simp[this,e]
    ·exact .inr ⟨k,c,e,z.sameBut hs<|cne y c e⟩
  ·obtain⟨w',z⟩:=I.cell y c e
   exact⟨w',z.sameBut hs<|cne y c e⟩
  ·obtain⟨e,n,ne,nf,d⟩:=I.pin p hp
   exact⟨(hs.2 p.1 ne).trans e,n,ne,nf,d⟩
 ·have hfn:X.fn x=Zh:=by
   rcases hf with z|z
   ·exact z
   ·rw[z]at hk;cases hk
  obtain⟨c,hc⟩:=I.ok.has x<|.inl hk
  obtain⟨w',z⟩:=I.cell x c hc
  refine wpAny_storeName_cell I.ok.kind hk hc z λh' hc' hs=>?_
  obtain⟨oc,hoc,hocd⟩:=id z
  refine h {s with heap:=h'} ⟨I.ok,I.os,I.bare,⟨λb o e n hb hx=>?_,λb o e n hb hx=>?_,I.base.free,λb o e hx=>?_,I.base.tups,I.base.frzs,I.base.tbls⟩,⟨m,hn.sameBut hs<|Zab<|cne x c hc,λj y v' e1 e2 e3=>?_⟩,λy c' e=>?_,I.free,I.freeC,λp hp=>?_,tracked ⟨oc,hoc,I.freeC x c hc⟩ hs,by simpa using I.len⟩ ⟨c,hs,.inr hc⟩
  ·exact(hs.2 b<|Z7<|ZH (Z3 e)<|I.ok.cab x c hfn hc).trans<|I.base.keep b o e n hb hx
  ·obtain⟨sl,e1⟩:=I.base.slot b o e n hb hx
   exact⟨sl,(hs.2 b<|Z7<|ZH (Z3 e)<|I.ok.cab x c hfn hc).trans e1⟩
  ·obtain⟨o',e1⟩:=I.base.there b o e hx
   exact⟨o',(hs.2 b<|Z7<|ZH (Z3 e)<|I.ok.cab x c hfn hc).trans e1⟩
  ·by_cases hj:j=i
   ·subst hj
    rw[hi]at e1;cases e1
    rw[ZX hiσ]at e2
    cases e2
    exact⟨u,r,.inr ⟨.inl hk,c,hc,hc'⟩⟩
   ·rw[ZT<|Zab hj]at e2
    obtain⟨u',r',q⟩:=hl j y v' e1 e2 e3
    refine⟨u',r',?_⟩
    rcases q with q|⟨k,c',e,z'⟩
    ·exact .inl q
    ·refine .inr ⟨k,c',e,z'.sameBut hs ?_⟩
     rintro rfl
     exact hj<|Jox hN e1<|I.ok.inj _ _ _ e hc▸hi
  ·by_cases hcc:c'=c
   ·subst hcc;exact⟨_,hc'⟩
   ·obtain⟨w2,z2⟩:=I.cell y c' e
    exact⟨w2,z2.sameBut hs hcc⟩
  ·obtain⟨e,n,ne,nf,d⟩:=I.pin p hp
   refine⟨(hs.2 p.1 ?_).trans e,n,ne,nf,d⟩
   intro q
   rw[q,hoc]at e
   have q':oc=p.2:=Zaq e
   exact d w'<|by rw[<-q'];exact hocd
theorem Jg0{M:Model}{A:ZN}{E:QvT}{i:Nat}{x:Str}{v:V}{u:Ze}{Q:Unit->Zn->Prop}(I:Inv X pj σ H s)(hN:X.N.Nodup)(hi:X.N[i]?=Za x)(hx:Loc X.env.scope x)(r:RelV v u)
  (h:∀s',Inv X pj (σ.set i<|Za v) H s'->Q () s')(hf:X.fn x=Zh∨X.env.scope.names.lookup x=Za .local:=by assumption):Z0 M A (storeName X.env x u) Q E s:=
 Jtp I hN hi hx r (λs' I' _=>h s' I') hf
theorem Inv.call'{s':Zn}{ch:Tp}(I:Inv X pj σ H s)(ho:s'.os=s.os)(u:Un (frs X.stack) ch H H' s.heap s'.heap)(hok:HOk X.prog X.w H' s'.heap)(hg:Zdo s'.gens)
  (hch:∀b∈ch,(b∈X.ex∨X.s₀.heap.objs.size<=b)/\b≠X.env.locals/\(∀x c,X.env.cells.lookup x=Za c->c≠b)/\∀p∈X.pn++pj,p.1≠b):Inv X pj σ H' s':=by
 obtain⟨h',g',d',t',o'⟩:=s'
 have e:o'=s.os:=ho
 subst e
 exact I.call (g':=g') (t':=t') (d':=d') u hok hg hch
end
abbrev XK:=Ze->Wz->Hp->Prop
abbrev St:=Wc
abbrev VK:=V->Hp->Prop
abbrev TE:=St->Hp->VK->Prop
abbrev TT:=St->Hp->(Bool->Hp->Prop)->Prop
abbrev TA:=St->Hp->(Tu->Hp->Prop)->Prop
structure Ends where
 nx:St->Hp->Prop
 rt:VK
 bk:St->Hp->Prop:=λ_ _=>False
 ct:St->Hp->Prop:=λ_ _=>False
abbrev TS:=Ends->St->Hp->Prop
def EP(X:Cx)(pj:PnT)(σ:St)(Q:VK)(u:Ze)(s':Zn):Prop:=∃v H',Inv X pj σ H' s'/\RelV v u/\Q v H'
def TP(X:Cx)(pj:PnT)(σ:St)(Q:Bool->Hp->Prop)(b:Bool)(s':Zn):Prop:=∃H',Inv X pj σ H' s'/\Q b H'
def SP(X:Cx)(pj:PnT)(D:Ends)(f:Flow)(s':Zn):Prop:=
 match f with
 |.next=>∃σ' H',Inv X pj σ' H' s'/\D.nx σ' H'
 |.brk=>∃σ' H',Inv X pj σ' H' s'/\D.bk σ' H'
 |.cont=>∃σ' H',Inv X pj σ' H' s'/\D.ct σ' H'
 |.ret u=>∃v σ' H',Inv X pj σ' H' s'/\RelV v u/\D.rt v H'
def PE(X:Cx)(e:Expr)(t:TE):Prop:=
 ∀(pj:PnT)(s:Zn)(σ:St)(H:Hp)(Q:VK),Inv X pj σ H s->t σ H Q->Z0 (Z9 X.prog X.w) X.A (ZaY e X.env) (EP X pj σ Q) X.xe s
def PSs(X:Cx)(st:Ti)(t:TS):Prop:=
 ∀(pj:PnT)(s:Zn)(σ:St)(H:Hp)(D:Ends),Inv X pj σ H s->t D σ H->Z0 (Z9 X.prog X.w) X.A (execs st X.env) (SP X pj D) X.xe s
theorem thn{α:Type}{t:Sem α}{Q Q':α->Zn->Prop}{M:Model}{A:ZN}{E:QvT}{s:Zn}(h:Z0 M A t Q E s)(hQ:∀a s,Q a s->Q' a s):Z0 M A t Q' E s:=Zal h hQ λ_ _ x=>x
section
variable{X:Cx}
def tVar(i:Nat):TE:=λσ H Q=>∃v,σ[i]?=Za (Za v)/\Q v H
def tC(v:V):TE:=λ_ H Q=>Q v H
theorem J3r{i:Nat}{x:Str}{pos:Pos}(hN:X.N[i]?=Za x)(hv:Vis X.env.scope x)(hd:(x==("__debug__":Str))=Zk:=by decide)(hcd:(x==("__classdict__":Str))=Zk:=by decide):PE X (.Name x pos) (tVar i):=by
 intro pj s σ H Q I h
 obtain⟨v,e,h⟩:=h
 obtain⟨m,hn,hl⟩:=I.loc
 obtain⟨u,r,l⟩:=hl i x v hN e hv
 have fin:EP X pj σ Q u s:=⟨v,H,I,r,h⟩
 rcases l with⟨hk,hm⟩|⟨hk,c,hc,hcell⟩
 ·exact wpAny_Name (wpAny_loadName_local I.ok.kind hk hn hm fin) hd
 ·rcases hk with hk|hk
  ·exact wpAny_Name (wpAny_loadName_cell I.ok.kind hk hc hcell fin) hd
  ·exact wpAny_Name (wpAny_loadName_free I.ok.kind hk hc hcell fin hcd) hd
theorem J3o{i j pos}:PE X (.Constant (.int i) j pos) (tC<|.int i):=λ_ _ _ H _ I h=>wpAny_Constant_int ⟨.int i,H,I.tok _,⟨_,rfl⟩,h⟩
theorem J53{b j pos}:PE X (.Constant (.bool b) j pos) (tC<|.bl b):=λ_ _ _ H _ I h=>Constant_bool ⟨.bl b,H,I,rfl,h⟩
theorem J3p{j pos}:PE X (.Constant .none j pos) (tC .non):=λ_ _ _ H _ I h=>Constant_none ⟨.non,H,I,rfl,h⟩
theorem J3q{x j pos}:PE X (.Constant (.str x) j pos) (tC<|.str x):=λ_ _ _ H _ I h=>Calls.Constant_str ⟨.str x,H,I.tok _,⟨_,rfl⟩,h⟩
def Gl(X:Cx)(x:Str):Prop:=X.env.kindOf x=Za .globalImplicit
theorem Xl{E:QvT}{pj:PnT}{s:Zn}{σ:St}{H:Hp}{x:Str}{u:Ze}{pos:Pos}{Q:QvT}(I:Inv X pj σ H s)(hg:Gl X x)(hm:X.mg x=Za u)(h:Q u s)
  (hd:(x==("__debug__":Str))=Zk:=by decide):Z0 (Z9 X.prog X.w) X.A (ZaY (.Name x pos) X.env) Q E s:=
 Zdu I.ok.kind hg (Calls.loadGlobal_global (by rw[I.ok.glob];exact I.mod.glob.keeps I.bk) hm h) hd
theorem Q8{E:QvT}{pj:PnT}{s:Zn}{σ:St}{H:Hp}{x:Str}{u:Ze}{pos:Pos}{Q:QvT}(I:Inv X pj σ H s)(hg:Gl X x)(hm:X.mg x=Zc)(hv:Zce x=Za u)(h:Q u s)
  (hn:x≠"__name__":=by decide)(hd:(x==("__debug__":Str))=Zk:=by decide):Z0 (Z9 X.prog X.w) X.A (ZaY (.Name x pos) X.env) Q E s:=by
 obtain⟨mb,h1,h2⟩:=I.mod.blt
 exact Zdu I.ok.kind hg (Calls.loadGlobal_builtin (by rw[I.ok.glob];exact I.mod.glob.keeps I.bk) hm (by rw[I.ok.blt];exact h1.keeps I.bk) ((h2 x hn).trans hv) h) hd
theorem J0c{x:Str}{v:V}{u:Ze}{pos:Pos}(hg:Gl X x)(hm:X.mg x=Za u)(r:RelV v u)(hd:(x==("__debug__":Str))=Zk:=by decide):PE X (.Name x pos) (tC v):=
 λ_ _ _ H _ I h=>Xl I hg hm ⟨v,H,I,r,h⟩ hd
variable{a b:Expr}{ta tb:TE}{pos:Pos}
variable{tA tB':TT}{rest:Ta}
end
def SqL(K:W.Frag)(H:Hp)(a:Zq)(xs:Tu):Prop:=
 Rd H a (.lst xs) ∨
  ∃(o:Obj) (its:Tf) (n:Nat),K.lookup a=Za o/\o.cls=.type "list"/\o.dict=Zc/\o.data=.seq its n/\its.size<=sizeLine/\Vals xs its.toList
def SqT(K:W.Frag)(H:Hp)(a:Zq)(xs:Tu):Prop:=
 Rd H a (.tup xs) ∨
  ∃(o:Obj) (its:Tf) (n:Nat),K.lookup a=Za o/\o.cls=.type "tuple"/\o.data=.seq its n/\its.size<=sizeLine/\Vals xs its.toList
noncomputable def absV:Ze->Te
 |.none=>Za .non
 |.bool b=>Za<|.bl b
 |.int i _=>Za<|.int i
 |.str x _=>Za<|.str x
 |.bytes b _=>Za<|.byt b
 |.float b _=>Za<|.flt b
 |.ref a=>Za<|.ref a
 |.type n=>Za<|.ty n
 |_=>Zc
theorem RelV.abs{x:V}{u:Ze}(r:RelV x u):absV u=Za x:=by
 cases x with
 |non=>cases r;rfl
 |bl _=>cases r;rfl
 |int _=>obtain⟨t,rfl⟩:=r;rfl
 |str _=>obtain⟨t,rfl⟩:=r;rfl
 |byt _=>obtain⟨t,rfl⟩:=r;rfl
 |flt _=>obtain⟨t,rfl⟩:=r;rfl
 |ref _=>cases r;rfl
 |ty _=>cases r;rfl
theorem RelV.inj{x y:V}{u:Ze}(r:RelV x u)(q:RelV y u):x=y:=Zaq<|r.abs.symm.trans q.abs
theorem Vals.inj:∀{xs ys:Tu}{us:To},Vals xs us->Vals ys us->xs=ys
 |_,_,_,.nil,.nil=>rfl
 |_,_,_,.cons r t,.cons r' t'=>by rw[r.inj r',Vals.inj t t']
section
variable{X:Cx}{pj:PnT}{σ:St}{H:Hp}{s:Zn}{a:Zq}{xs ys:Tu}
theorem SqL.of{K:W.Frag}(h:H a=Za (.lst xs)):SqL K H a xs:=.inl<|.inl h
theorem SqT.of{K:W.Frag}(h:H a=Za (.tup xs)):SqT K H a xs:=.inl<|.inl h
theorem Inv.list(I:Inv X pj σ H s)(h:SqL X.K H a xs):∃its:To,Vals xs its/\PlainL s.heap a its.toArray/\xs.length<=sizeLine:=by
 rcases h with h|⟨o,its,n,hk,hc,hd,hs,hz,r⟩
 ·obtain⟨z,its,n,r,e⟩:=h.ok I.hok
  exact⟨its,r,⟨_,n,e,rfl,rfl,rfl⟩,z⟩
 ·refine⟨its.toList,r,⟨o,n,I.kIn a o hk,hc,hd,by simpa using hs⟩,?_⟩
  have e:=r.length
  simp only[ZaK]at e
  omega
theorem Inv.tuple(I:Inv X pj σ H s)(h:SqT X.K H a xs):∃its:To,Vals xs its/\IsTup s.heap a its.toArray/\xs.length<=sizeLine:=by
 rcases h with h|⟨o,its,n,hk,hc,hs,hz,r⟩
 ·obtain⟨z,its,r,p⟩:=h.ok I.hok
  exact⟨its,r,p,z⟩
 ·refine⟨its.toList,r,⟨o,I.kIn a o hk,hc,n,by simpa using hs⟩,?_⟩
  have e:=r.length
  simp only[ZaK]at e
  omega
theorem Inv.list_inj(I:Inv X pj σ H s)(h:SqL X.K H a xs)(h':SqL X.K H a ys):xs=ys:=by
 obtain⟨its,r,⟨o,n,e,_,_,d⟩,_⟩:=I.list h
 obtain⟨its',r',⟨o',n',e',_,_,d'⟩,_⟩:=I.list h'
 rw[e]at e';cases e'
 rw[d]at d'
 injection d' with d1 _
 have:its=its':=by simpa using congrArg Array.toList d1
 subst this
 exact r.inj r'
theorem Inv.tuple_inj(I:Inv X pj σ H s)(h:SqT X.K H a xs)(h':SqT X.K H a ys):xs=ys:=by
 obtain⟨its,r,⟨o,e,_,n,d⟩,_⟩:=I.tuple h
 obtain⟨its',r',⟨o',e',_,n',d'⟩,_⟩:=I.tuple h'
 rw[e]at e';cases e'
 rw[d]at d'
 injection d' with d1 _
 have:its=its':=by simpa using congrArg Array.toList d1
 subst this
 exact r.inj r'
end
noncomputable abbrev Cx.wish (X:Cx)(E:QvT):Cx:={X with xe:=E}
abbrev Cx.nox(X:Cx):Cx:=X.wish λ_ _=>False
theorem Cx.Ok.wish{X:Cx}(ok:X.Ok)(E:QvT):(X.wish E).Ok:=
 ⟨ok.mod,ok.kind,ok.glob,ok.blt,ok.above,ok.inj,ok.has,ok.cab,ok.hd,ok.frames,ok.stk,ok.exf,ok.bs,ok.bsz,ok.noex,ok.exfs,ok.funs,ok.frf⟩
theorem Cx.Ok.unwish{X:Cx}{E:QvT}(ok:(X.wish E).Ok):X.Ok:=
 ⟨ok.mod,ok.kind,ok.glob,ok.blt,ok.above,ok.inj,ok.has,ok.cab,ok.hd,ok.frames,ok.stk,ok.exf,ok.bs,ok.bsz,ok.noex,ok.exfs,ok.funs,ok.frf⟩
section
variable{X:Cx}{pj:PnT}{σ:St}{H:Hp}{s:Zn}{E:QvT}
theorem Inv.wish(I:Inv X pj σ H s)(E:QvT):Inv (X.wish E) pj σ H s:=⟨I.ok.wish E,I.os,I.bare,I.base,I.loc,I.cell,I.free,I.freeC,I.pin,I.hok,I.len⟩
theorem Inv.unwish(I:Inv (X.wish E) pj σ H s):Inv X pj σ H s:=⟨I.ok.unwish,I.os,I.bare,I.base,I.loc,I.cell,I.free,I.freeC,I.pin,I.hok,I.len⟩
end
section
variable{X:Cx}{st:Zdt}{rest:Ti}{t u:TS}{e:Expr}{te:TE}{pos:Pos}
theorem Inv.quiet{pj:PnT}{σ:St}{H:Hp}{s:Zn}(I:Inv X pj σ H s):interactive X.env=Zk:=by simp[interactive,I.ok.kind]
end
abbrev TSet:=V->V->V->Hp->(Hp->Prop)->Prop
def PSet(X:Cx)(t:TSet):Prop:=
 ∀(pj:PnT)(s:Zn)(σ:St)(H:Hp)(o i v:V)(ov iv u:Ze)(Q:Hp->Prop),Inv X pj σ H s->RelV o ov->RelV i iv->RelV v u->t o i v H Q ->
  Z0 (Z9 X.prog X.w) X.A (setItem ov iv u) (λ_ s'=>∃H',Inv X pj σ H' s'/\Q H') X.xe s
section
variable{X:Cx}{pos:Pos}
end
structure It where
 go:Nat->Hp->Prop
 yld:Nat->Hp->V->Hp->Prop
 stop:Nat->Hp->Prop
def FpOk(X:Cx)(pj:PnT)(H:Hp)(b:Zq):Prop:=
 H b=Zc/\b≠X.env.locals/\b∉X.fs/\(b∈X.ex∨X.s₀.heap.objs.size<=b)/\(∀x c,X.env.cells.lookup x=Za c->c≠b)/\∀p∈X.pn++pj,p.1≠b
theorem Inv.fpOk{X:Cx}{pj:PnT}{σ:St}{H H':Hp}{s:Zn}{b:Zq}(I:Inv X pj σ H s)(hb:s.heap.objs.size<=b)(hn:H' b=Zc):FpOk X pj H' b:=by
 refine⟨hn,Zby<|ZH I.lt hb,I.nofs hb,.inr<|ZW I.sz hb,λx c e z=>?_,λp hp z=>?_⟩
 ·obtain⟨v,q⟩:=I.cell x c e
  exact absurd (ZH q.lt<|by rw[z];exact hb)<|ZbX _
 ·exact absurd (ZH (Z3 (I.pin p hp).1)<|by rw[z];exact hb)<|ZbX _
structure Turn(P:ZB)(w:ZV)(K:W.Frag)(tg:Expr)(J:It)(fp:Tp)(it:Zq)(tn:Nat->Zax->Prop):Prop where
 mem:it∈fp
 obj:∀i h,tn i h->∀b∈fp,∃o,h.get? b=Za o/\∀v,o.data≠.cell v
 keep:∀i h h',tn i h->(∀b∈fp,∀o,h.get? b=Za o->h'.get? b=Za o)->tn i h'
 item:∀(X:Cx),X.prog=P->X.w=w->X.K=K->X.calm=Zh->∀(i:Nat)(pj:PnT)(s:Zn)(σ:St)(H:Hp)(E:QvT),Inv X pj σ H s->(∀b∈fp,FpOk X pj H b)->tn i s.heap->J.go i H ->
  Z0 (Z9 P w) X.A (Zc3<|.ref it) (λr s1=>∃u,r=Za u /\
   Z0 (Z9 P w) X.A (Zco tg (.ref it) u) (λ_ s2=>∃x H',Inv X pj σ H' s2/\RelV x u/\J.yld i H x H'/\tn (i+1) s2.heap/\∀b∈fp,H' b=Zc) E s1) E s
 done:∀(X:Cx),X.prog=P->X.w=w->X.K=K->X.calm=Zh->∀(i:Nat)(pj:PnT)(s:Zn)(σ:St)(H:Hp)(E:QvT),Inv X pj σ H s->(∀b∈fp,FpOk X pj H b)->tn i s.heap->J.stop i H ->
  Z0 (Z9 P w) X.A (Zc3<|.ref it) (λr s1=>r=Zc/\Inv X pj σ H s1) E s
 self:∀(A:ZN)(i:Nat)(s:Zn)(Q:QvT)(E:QvT),tn i s.heap->Q (.ref it) s->Z0 (Z9 P w) A (ZdV<|.ref it) Q E s
def PIE(X:Cx)(pj:PnT)(σ:St)(tg:Expr)(R:It->Hp->Prop)(itv:Ze)(s2:Zn):Prop:=
 ∃(it:Zq)(fp:Tp)(tn:Nat->Zax->Prop)(J:It)(H':Hp),itv=.ref it/\Inv X pj σ H' s2/\Turn X.prog X.w X.K tg J fp it tn/\tn 0 s2.heap/\(∀b∈fp,FpOk X pj H' b)/\R J H'
theorem Ju7{M:Model}{A:ZN}{E:QvT}{s:Zn}{tg:Expr}{it:Zq}{u:Ze}{o:Obj}{n:String}{vs:Tf}{Q:Unit->Zn->Prop}(ho:s.heap.get? it=Za o)(hc:o.cls=.type n)(hd:o.data=.fields vs)
  (hn:["enumerate","zip","dict_itemiterator","dict_reverseitemiterator","odict_iterator","itertools.zip_longest","itertools.pairwise"].contains n=Zk)(hQ:Q () s):Z0 M A (Zco tg (.ref it) u) Q E s:=by
 unfold Zco
 cases tg<;>first
  |exact Zv hQ
  | (cases u<;>first
    |exact Zv hQ
    | (refine Zd (wpAny_load ho ?_)
       rw[hc,hd]
       show Z0 M A (if (["enumerate","zip","dict_itemiterator","dict_reverseitemiterator","odict_iterator","itertools.zip_longest","itertools.pairwise"].contains n&&vs[0]?==Za (ZeO _))=Zh then _ else _) Q E s
       rw[if_neg (by intro h;rw[hn,Bool.false_and]at h;cases h)]
       exact Zv hQ))
def Itl(K:W.Frag)(a:Zq):It:=
 ⟨λi H=>∃xs x,SqL K H a xs/\xs[i]?=Za x,λi H x H'=>H'=H/\∀xs,SqL K H a xs->xs[i]?=Za x,λi H=>∃xs,SqL K H a xs/\xs.length<=i⟩
def Itt(K:W.Frag)(a:Zq):It:=
 ⟨λi H=>∃xs x,SqT K H a xs/\xs[i]?=Za x,λi H x H'=>H'=H/\∀xs,SqT K H a xs->xs[i]?=Za x,λi H=>∃xs,SqT K H a xs/\xs.length<=i⟩
def Itr(lo:Int)(n:Nat):It:=⟨λi _=>i<n,λi H x H'=>H'=H/\x=.int (lo+i),λi _=>n<=i⟩
theorem Jm5{P:ZB}{w:ZV}{K:W.Frag}{tg:Expr}(a it:Zq):Turn P w K tg (Itl K a) [it] it (λi h=>h.IsListIter it a i) where
 mem:=03
 obj:=λi h st b hb=>by
  have e:b=it:=by simpa using hb
  subst e
  obtain⟨o,e,c,d⟩:=st
  exact⟨o,e,λv z=>by rw[d]at z;cases z⟩
 keep:=λi h h' st k=>st.at λo e=>k it 03 o e
 item:=by
  intro X hP hw hK hc i pj s σ H E I hf st hg
  subst hP hw hK
  obtain⟨xs,x,hq,hx⟩:=hg
  obtain⟨its,rv,p,hz⟩:=I.list hq
  obtain⟨u,hu,ru⟩:=rv.get hx
  obtain⟨f0,f1,f2,f3,f4,f5⟩:=hf it 03
  refine ZdW st p.isList (x:=u) (by simpa using hu) λh' st' sb=>?_
  have I1:Inv X pj σ H {s with heap:=h'}:=I.turned (t':=s.toks) (λb o hb e=>(sb.2 b hb).trans e) f0 f1 f3 f4 f5
  obtain⟨o,e,c,d⟩:=id st'
  exact⟨u,rfl,Ju7 (s:={s with heap:=h'}) e c d 01 ⟨x,H,I1,ru,⟨rfl,λys hy=>by rw[I.list_inj hy hq];exact hx⟩,st',λb hb=>(hf b hb).1⟩⟩
 done:=by
  intro X hP hw hK hc i pj s σ H E I hf st hg
  subst hP hw hK
  obtain⟨xs,hq,hx⟩:=hg
  obtain⟨its,rv,p,hz⟩:=I.list hq
  obtain⟨f0,f1,f2,f3,f4,f5⟩:=hf it 03
  have hl:=rv.length
  exact Zek (I.ok.hd hc) st p.isList (by simp;omega) λh' eb=>⟨rfl,I.turned (t':=s.toks) (λb o hb e=>eb b o hb e) f0 f1 f3 f4 f5⟩
 self:=λ_ _ _ _ _ st h=>wpAny_pyIter_listiter st h
theorem Jq4{P:ZB}{w:ZV}{K:W.Frag}{tg:Expr}(a it:Zq):Turn P w K tg (Itt K a) [it] it (λi h=>h.IsTupleIter it a i) where
 mem:=03
 obj:=λi h st b hb=>by
  have e:b=it:=by simpa using hb
  subst e
  obtain⟨o,e,c,d⟩:=st
  exact⟨o,e,λv z=>by rw[d]at z;cases z⟩
 keep:=λi h h' st k=>st.at λo e=>k it 03 o e
 item:=by
  intro X hP hw hK hc i pj s σ H E I hf st hg
  subst hP hw hK
  obtain⟨xs,x,hq,hx⟩:=hg
  obtain⟨its,rv,p,hz⟩:=I.tuple hq
  obtain⟨u,hu,ru⟩:=rv.get hx
  obtain⟨f0,f1,f2,f3,f4,f5⟩:=hf it 03
  refine wpAny_pyNext_tuple_item st (show s.heap.IsTuple a its.toArray from p) (x:=u) (by simpa using hu) λh' st' sb=>?_
  have I1:Inv X pj σ H {s with heap:=h'}:=I.turned (t':=s.toks) (λb o hb e=>(sb.2 b hb).trans e) f0 f1 f3 f4 f5
  obtain⟨o,e,c,d⟩:=id st'
  exact⟨u,rfl,Ju7 (s:={s with heap:=h'}) e c d 01 ⟨x,H,I1,ru,⟨rfl,λys hy=>by rw[I.tuple_inj hy hq];exact hx⟩,st',λb hb=>(hf b hb).1⟩⟩
 done:=by
  intro X hP hw hK hc i pj s σ H E I hf st hg
  subst hP hw hK
  obtain⟨xs,hq,hx⟩:=hg
  obtain⟨its,rv,p,hz⟩:=I.tuple hq
  obtain⟨f0,f1,f2,f3,f4,f5⟩:=hf it 03
  have hl:=rv.length
  exact wpAny_pyNext_tuple_end (I.ok.hd hc) st (show s.heap.IsTuple a its.toArray from p) (by simp;omega) λh' eb=>⟨rfl,I.turned (t':=s.toks) (λb o hb e=>eb b o hb e) f0 f1 f3 f4 f5⟩
 self:=λ_ _ _ _ _ st h=>wpAny_pyIter_tupleiter st h
theorem Jq3{P:ZB}{w:ZV}{K:W.Frag}{tg:Expr}(it:Zq)(lo:Int)(n:Nat):Turn P w K tg (Itr lo n) [it] it (λi h=>IsRangeIter h it (lo+(i:Nat)*1) ((n:Int)-(i:Nat)) 1) where
 mem:=03
 obj:=λi h st b hb=>by
  have e:b=it:=by simpa using hb
  subst e
  exact⟨_,st,λv z=>by
   have z':Data.fields _=ZeP v:=z
   cases z'⟩
 keep:=λi h h' st k=>k it 03 _ st
 item:=by
  intro X hP hw hK hc i pj s σ H E I hf st hg
  subst hP hw hK
  obtain⟨f0,f1,f2,f3,f4,f5⟩:=hf it 03
  have W:=Walks.range (prog:=X.prog) (w:=X.w) (I.ok.hd hc) it lo 1 n
  refine W.item i s _ _ hg st λv h' tk hv st' kk=>?_
  obtain⟨t,rfl⟩:=hv
  have I1:Inv X pj σ H {s with heap:=h',toks:=tk}:=I.turned (λb o hb e=>kk b o (by simpa using hb) e) f0 f1 f3 f4 f5
  refine⟨_,rfl,Ju7 (s:={s with heap:=h',toks:=tk}) (n:="range_iterator") st' rfl rfl 01 ⟨.int<|lo+i,H,I1,⟨t,?_⟩,⟨rfl,rfl⟩,st',λb hb=>(hf b hb).1⟩⟩
  rw[Int.mul_one]
 done:=by
  intro X hP hw hK hc i pj s σ H E I hf st hg
  subst hP hw hK
  obtain⟨f0,f1,f2,f3,f4,f5⟩:=hf it 03
  exact wpAny_pyNext_range_end (I.ok.hd hc) st (by have:n<=i:=hg;omega) λh' eb=>⟨rfl,I.turned (t':=s.toks) (λb o hb e=>eb b o hb e) f0 f1 f3 f4 f5⟩
 self:=λ_ _ _ _ _ st h=>wpAny_pyIter_rangeiter st h
section
variable{X:Cx}{tg:Expr}
theorem Jv8{pj:PnT}{σ:St}{H:Hp}{s:Zn}{R:It->Hp->Prop}{E:QvT}{lo hi:Int}{t u v:Tok}{tk:Nat}(I:Inv X pj σ H s)(h1: -(2^62)<=lo)(h2:lo<2^62)(h3: -(2^62)<=hi)(h4:hi<2^62)
  (q:R (Itr lo (hi-lo).toNat) H):Z0 (Z9 X.prog X.w) X.A (ZdV<|.ref s.heap.objs.size) (PIE X pj σ tg R) E {s with heap:=s.heap.push {cls:=.type "range",data:=.fields #[.int lo t,.int hi u,.int 1 v]},toks:=tk}:=by
 refine wpAny_pyIter_range (IsRange.new ..) (small_one h1 h2 h3 h4) ?_
 have I1:Inv X pj σ H {s with heap:=s.heap.push {cls:=.type "range",data:=.fields #[.int lo t,.int hi u,.int 1 v]},toks:=tk}:=I.kept λb o e=>Zj _ e
 refine⟨(s.heap.push {cls:=.type "range",data:=.fields #[.int lo t,.int hi u,.int 1 v]}).objs.size,[(s.heap.push {cls:=.type "range",data:=.fields #[.int lo t,.int hi u,.int 1 v]}).objs.size],_,_,H,rfl,
  I1.kept (t':=tk) λb o e=>Zj _ e,Jq3 _ lo (hi-lo).toNat,?_,λb hb=>?_,q⟩
 ·have e1:lo+((0:Nat):Int)*1=lo:=03
  have e2:(((hi-lo).toNat:Nat):Int)-((0:Nat):Int)=ZdG lo hi 1:=by rw[rangeSize_one];split<;>omega
  show IsRangeIter _ _ (lo+((0:Nat):Int)*1) ((((hi-lo).toNat:Nat):Int)-((0:Nat):Int)) 1
  rw[e1,e2]
  exact Z2 _ rfl
 ·have e:b=(s.heap.push {cls:=.type "range",data:=.fields #[.int lo t,.int hi u,.int 1 v]}).objs.size:=by simpa using hb
  subst e
  exact I1.fpOk (Zm _)<|I1.hok.fresh<|Zm _
def Vj(fp:Tp)(h:Zax):PnT:=fp.filterMap λb=>(h.get? b).map λo=>(b,o)
theorem Y9{fp:Tp}{h:Zax}{b:Zq}{o:Obj}(hb:b∈fp)(e:h.get? b=Za o):(b,o)∈Vj fp h:=List.mem_filterMap.mpr ⟨b,hb,by rw[e];rfl⟩
theorem Js6{fp:Tp}{h:Zax}{p:Zq×Obj}(hp:p∈Vj fp h):p.1∈fp/\h.get? p.1=Za p.2:=by
 obtain⟨b,hb,e⟩:=List.mem_filterMap.mp hp
 cases q:h.get? b with
 |none=>rw[q]at e;cases e
 |some o=>
  rw[q]at e
  have e':(b,o)=p:=Zaq e
  subst e'
  exact⟨hb,q⟩
theorem Inv.pinned{pj:PnT}{σ:St}{H:Hp}{s:Zn}{fp:Tp}(I:Inv X pj σ H s)(hf:∀b∈fp,FpOk X pj H b)(ho:∀b∈fp,∃o,s.heap.get? b=Za o/\∀v,o.data≠.cell v):Inv X (pj++Vj fp s.heap) σ H s:=
 I.pins_of λp hp=>(ZK.mp hp).elim (λz=>I.pin p<|Zl _ z) λz=>by
  obtain⟨hb,e⟩:=Js6 z
  obtain⟨f0,f1,f2,_⟩:=hf p.1 hb
  obtain⟨o,e',d⟩:=ho p.1 hb
  rw[e]at e';cases e'
  exact⟨e,f0,f1,f2,d⟩
theorem Inv.unpinned{pj pl:PnT}{σ:St}{H:Hp}{s:Zn}(I:Inv X (pj++pl) σ H s):Inv X pj σ H s:=I.pins_of λp hp=>I.pin p<|Zl _<|ZQ _ hp
end
abbrev R2:=V->V->Hp->VK->Prop
def OpR(X:Cx)(f:Ze->Ze->Sem Ze)(r:R2):Prop:=
 ∀(pj:PnT)(s:Zn)(σ:St)(H:Hp)(x y:V)(v u:Ze)(Q:VK),Inv X pj σ H s->RelV x v->RelV y u->r x y H Q ->
  Z0 (Z9 X.prog X.w) X.A (f v u) (EP X pj σ Q) X.xe s
def UnR(X:Cx)(f:Ze->Sem Ze)(r:V->Hp->VK->Prop):Prop:=
 ∀(pj:PnT)(s:Zn)(σ:St)(H:Hp)(x:V)(v:Ze)(Q:VK),Inv X pj σ H s->RelV x v->r x H Q ->
  Z0 (Z9 X.prog X.w) X.A (f v) (EP X pj σ Q) X.xe s
def VN(X:Cx)(f:Ze)(r:Tu->Hp->VK->Prop):Prop:=
 ∀(pj:PnT)(s:Zn)(σ:St)(H:Hp)(xs:Tu)(us:To)(Q:VK),Inv X pj σ H s->Vals xs us->r xs H Q ->
  Z0 (Z9 X.prog X.w) X.A (call f us) (EP X pj σ Q) X.xe s
def TruR(X:Cx)(r:V->Hp->(Bool->Hp->Prop)->Prop):Prop:=
 ∀(pj:PnT)(s:Zn)(σ:St)(H:Hp)(x:V)(v:Ze)(Q:Bool->Hp->Prop),Inv X pj σ H s->RelV x v->r x H Q ->
  Z0 (Z9 X.prog X.w) X.A (truthy v) (TP X pj σ Q) X.xe s
def rI(C:Int->Int->Prop)(g:Int->Int->V):R2:=λx y H Q=>∃i j,x=.int i/\y=.int j/\C i j/\Q (g i j) H
def rI0(g:Int->Int->V):R2:=λx y H Q=>∃i j,x=.int i/\y=.int j/\Q (g i j) H
def rU(g:Int->V):V->Hp->VK->Prop:=λx H Q=>∃i,x=.int i/\Q (g i) H
section
variable{X:Cx}{a b c:Expr}{ta tb tc:TE}{pos:Pos}
theorem opI{f:Ze->Ze->Sem Ze}{C:Int->Int->Prop}{g:Int->Int->Int}
  (rule:∀(i j:Int)(t u:Tok)(s:Zn)(Q E:QvT),C i j->Q (.int (g i j) s.toks) {s with toks:=s.toks+1}->Z0 (Z9 X.prog X.w) X.A (f (.int i t)<|.int j u) Q E s):
  OpR X f (rI C λi j=>.int<|g i j):=by
 intro pj s σ H x y v u Q I rx ry h
 obtain⟨i,j,rfl,rfl,hc,q⟩:=h
 obtain⟨t,rfl⟩:=rx
 obtain⟨t',rfl⟩:=ry
 exact rule i j t t' s _ _ hc ⟨.int<|g i j,H,I.tok _,⟨_,rfl⟩,q⟩
theorem opI0{f:Ze->Ze->Sem Ze}{g:Int->Int->Int}
  (rule:∀(i j:Int)(t u:Tok)(s:Zn)(Q E:QvT),Q (.int (g i j) s.toks) {s with toks:=s.toks+1}->Z0 (Z9 X.prog X.w) X.A (f (.int i t)<|.int j u) Q E s):
  OpR X f (rI0 λi j=>.int<|g i j):=by
 intro pj s σ H x y v u Q I rx ry h
 obtain⟨i,j,rfl,rfl,q⟩:=h
 obtain⟨t,rfl⟩:=rx
 obtain⟨t',rfl⟩:=ry
 exact rule i j t t' s _ _ ⟨.int<|g i j,H,I.tok _,⟨_,rfl⟩,q⟩
theorem opB0{f:Ze->Ze->Sem Ze}{g:Int->Int->Bool}
  (rule:∀(i j:Int)(t u:Tok)(s:Zn)(Q E:QvT),Q (.bool<|g i j) s->Z0 (Z9 X.prog X.w) X.A (f (.int i t)<|.int j u) Q E s):
  OpR X f (rI0 λi j=>.bl<|g i j):=by
 intro pj s σ H x y v u Q I rx ry h
 obtain⟨i,j,rfl,rfl,q⟩:=h
 obtain⟨t,rfl⟩:=rx
 obtain⟨t',rfl⟩:=ry
 exact rule i j t t' s _ _ ⟨.bl<|g i j,H,I,rfl,q⟩
def CPow(i j:Int):Prop:=0<=j/\j<=1000000/\i.natAbs<2^64
theorem J3e:OpR X (ZaS .Add) (rI0 λi j=>.int<|i+j):=opI0 λ_ _ _ _ _ _ _ q=>add_int q
theorem J3j:OpR X (ZaS .Sub) (rI0 λi j=>.int<|i-j):=opI0 λ_ _ _ _ _ _ _ q=>sub_int q
theorem J3g:OpR X (ZaS .Mod) (rI (λ_ j=>0<j) λi j=>.int<|i%j):=opI λi j _ _ _ _ _ hc q=>by
 have h1:(0:Int)<j:=hc
 exact mod_int' 00<|by rw[Int.fmod_eq_emod_of_nonneg i 00];exact q
theorem J3h:OpR X (ZaS .Pow) (rI CPow λi j=>.int<|i^j.toNat):=opI λ_ _ _ _ _ _ _ hc q=>pow_int_small hc.1 hc.2.1 hc.2.2 q
theorem unI{f:Ze->Sem Ze}{g:Int->Int}
  (rule:∀(i:Int)(t:Tok)(s:Zn)(Q E:QvT),Q (.int (g i) s.toks) {s with toks:=s.toks+1}->Z0 (Z9 X.prog X.w) X.A (f<|.int i t) Q E s):
  UnR X f (rU λi=>.int<|g i):=by
 intro pj s σ H x v Q I rx h
 obtain⟨i,rfl,q⟩:=h
 obtain⟨t,rfl⟩:=rx
 exact rule i t s _ _ ⟨.int<|g i,H,I.tok _,⟨_,rfl⟩,q⟩
theorem J4k:UnR X (unaryOp .USub) (rU λi=>.int (-i)):=unI λ_ _ _ _ _ q=>neg_int q
end
noncomputable def scal:V->V->Bool
 |.non,.non=>Zh|.non,.int _=>Zh|.int _,.non=>Zh|.non,.bl _=>Zh|.bl _,.non=>Zh|.non,.str _=>Zh|.str _,.non=>Zh
 |.int _,.int _=>Zh|.bl _,.bl _=>Zh|.str _,.str _=>Zh|.byt _,.byt _=>Zh
 |.int _,.str _=>Zh|.str _,.int _=>Zh|.bl _,.str _=>Zh|.str _,.bl _=>Zh
 |_,_=>Zk
def rEq:R2:=λx y H Q=>scal x y=Zh/\Q (.bl<|decide (x=y)) H
def rNe:R2:=λx y H Q=>scal x y=Zh/\Q (.bl (!decide (x=y))) H
theorem Jrv{i j:Int}:decide (V.int i=V.int j)=(i==j):=by
 rw[Zcp]
 simp
theorem Jxe{i j:Bool}:decide (V.bl i=V.bl j)=(i==j):=by
 rw[Zcp]
 simp
theorem Jrw{i j:Str}:decide (V.str i=V.str j)=(i==j):=by
 rw[Zcp]
 simp
theorem Jru{i j:Array UInt8}:decide (V.byt i=V.byt j)=(i.toList==j.toList):=by
 rw[Zcp]
 cases i
 cases j
 simp
section
variable{X:Cx}{a b c:Expr}{ta tb tc:TE}{pos:Pos}
theorem JC{pj:PnT}{σ:St}{H:Hp}{s:Zn}{Q:VK}{k k':Bool}(I:Inv X pj σ H s)(q:Q (.bl k) H)(e:k=k'):EP X pj σ Q (.bool k') s:=by
 subst e
 exact⟨.bl k,H,I,rfl,q⟩
theorem J5x:OpR X (Zas .Eq) rEq:=by
 intro pj s σ H x y v u Q I rx ry h
 obtain⟨hs,q⟩:=h
 cases x with
 |non=>
  cases rx
  cases y with
  |non=>cases ry;exact PySem.EqNone.eq_none_none<|JC I q 03
  |bl j=>cases ry;exact PySem.EqNone.eq_none_bool<|JC I q 03
  |int j=>obtain⟨t',rfl⟩:=ry;exact PySem.EqNone.eq_none_int<|JC I q 03
  |str j=>obtain⟨t',rfl⟩:=ry;exact PySem.EqNone.eq_none_str<|JC I q 03
  |_=>exact absurd (show Zk=Zh from hs) Zu
 |bl i=>
  cases rx
  cases y with
  |non=>cases ry;exact PySem.EqNone.eq_bool_none<|JC I q 03
  |bl j=>cases ry;exact eq_bool<|JC I q Jxe
  |str j=>obtain⟨t',rfl⟩:=ry;exact PySem.EqMixed.eq_bool_str<|JC I q 03
  |_=>exact absurd (show Zk=Zh from hs) Zu
 |int i=>
  obtain⟨t,rfl⟩:=rx
  cases y with
  |non=>cases ry;exact PySem.EqNone.eq_int_none<|JC I q 03
  |int j=>obtain⟨t',rfl⟩:=ry;exact eq_int<|JC I q Jrv
  |str j=>obtain⟨t',rfl⟩:=ry;exact PySem.EqMixed.eq_int_str<|JC I q 03
  |_=>exact absurd (show Zk=Zh from hs) Zu
 |str i=>
  obtain⟨t,rfl⟩:=rx
  cases y with
  |non=>cases ry;exact PySem.EqNone.eq_str_none<|JC I q 03
  |bl j=>cases ry;exact PySem.EqMixed.eq_str_bool<|JC I q 03
  |int j=>obtain⟨t',rfl⟩:=ry;exact PySem.EqMixed.eq_str_int<|JC I q 03
  |str j=>obtain⟨t',rfl⟩:=ry;exact eq_str<|JC I q Jrw
  |_=>exact absurd (show Zk=Zh from hs) Zu
 |byt i=>
  obtain⟨t,rfl⟩:=rx
  cases y with
  |byt j=>obtain⟨t',rfl⟩:=ry;exact W.eq_bytes<|JC I q Jru
  |_=>exact absurd (show Zk=Zh from hs) Zu
 |_=>cases y<;>exact absurd (show Zk=Zh from hs) Zu
theorem J52:OpR X (Zas .NotEq) rNe:=by
 intro pj s σ H x y v u Q I rx ry h
 obtain⟨hs,q⟩:=h
 cases x with
 |non=>
  cases rx
  cases y with
  |non=>cases ry;exact PySem.EqNone.ne_none_none<|JC I q 03
  |bl j=>cases ry;exact PySem.EqNone.ne_none_bool<|JC I q 03
  |int j=>obtain⟨t',rfl⟩:=ry;exact PySem.EqNone.ne_none_int<|JC I q 03
  |str j=>obtain⟨t',rfl⟩:=ry;exact PySem.EqNone.ne_none_str<|JC I q 03
  |_=>exact absurd (show Zk=Zh from hs) Zu
 |bl i=>
  cases rx
  cases y with
  |non=>cases ry;exact PySem.EqNone.ne_bool_none<|JC I q 03
  |bl j=>cases ry;exact ne_bool<|JC I q<|congrArg not Jxe
  |str j=>obtain⟨t',rfl⟩:=ry;exact PySem.EqMixed.ne_bool_str<|JC I q 03
  |_=>exact absurd (show Zk=Zh from hs) Zu
 |int i=>
  obtain⟨t,rfl⟩:=rx
  cases y with
  |non=>cases ry;exact PySem.EqNone.ne_int_none<|JC I q 03
  |int j=>obtain⟨t',rfl⟩:=ry;exact ne_int<|JC I q<|congrArg not Jrv
  |str j=>obtain⟨t',rfl⟩:=ry;exact PySem.EqMixed.ne_int_str<|JC I q 03
  |_=>exact absurd (show Zk=Zh from hs) Zu
 |str i=>
  obtain⟨t,rfl⟩:=rx
  cases y with
  |non=>cases ry;exact PySem.EqNone.ne_str_none<|JC I q 03
  |bl j=>cases ry;exact PySem.EqMixed.ne_str_bool<|JC I q 03
  |int j=>obtain⟨t',rfl⟩:=ry;exact PySem.EqMixed.ne_str_int<|JC I q 03
  |str j=>obtain⟨t',rfl⟩:=ry;exact ne_str<|JC I q<|congrArg not Jrw
  |_=>exact absurd (show Zk=Zh from hs) Zu
 |byt i=>
  obtain⟨t,rfl⟩:=rx
  cases y with
  |byt j=>obtain⟨t',rfl⟩:=ry;exact W.ne_bytes<|JC I q<|congrArg not Jru
  |_=>exact absurd (show Zk=Zh from hs) Zu
 |_=>cases y<;>exact absurd (show Zk=Zh from hs) Zu
theorem J51:OpR X (Zas .Lt) (rI0 λi j=>.bl<|decide (i<j)):=opB0 λ_ _ _ _ _ _ _ q=>lt_int q
theorem J50:OpR X (Zas .LtE) (rI0 λi j=>.bl<|decide (i<=j)):=opB0 λ_ _ _ _ _ _ _ q=>le_int q
theorem J5z:OpR X (Zas .Gt) (rI0 λi j=>.bl<|decide (j<i)):=opB0 λ_ _ _ _ _ _ _ q=>gt_int q
theorem J5y:OpR X (Zas .GtE) (rI0 λi j=>.bl<|decide (j<=i)):=opB0 λ_ _ _ _ _ _ _ q=>ge_int q
theorem Js7:OpR X (Zas .Lt) (λx y H Q=>∃i j,x=.str i/\y=.str j/\Q (.bl<|decide (i.cps.toList<j.cps.toList)) H):=by
 intro pj s σ H x y v u Q I rx ry h
 obtain⟨i,j,rfl,rfl,q⟩:=h
 obtain⟨t,rfl⟩:=rx
 obtain⟨t',rfl⟩:=ry
 exact lt_str<|JC I q rfl
def TruV(K:W.Frag)(x:V)(H:Hp)(k:Bool):Prop:=
 match x with
 |.non=>k=Zk
 |.bl b=>k=b
 |.int i=>k=(i != 0)
 |.str y=>y.length<=sizeLine/\k=((y.length:Int) != 0)
 |.byt y=>y.size<=sizeLine/\k=((y.size:Int) != 0)
 |.ref p=>(∃xs,SqL K H p xs/\k=!xs.isEmpty)∨(∃xs,SqT K H p xs/\k=!xs.isEmpty)∨∃kvs,H p=Za (.dK kvs)/\k=!kvs.isEmpty
 |_=>False
theorem Jqf{κ:Type}{kvs:List (κ×V)}{vs:List (κ×Ze)}(r:KV kvs vs):(!vs.isEmpty)=!kvs.isEmpty:=by
 cases r<;>rfl
theorem Ji7{xs:Tu}{its:To}(r:Vals xs its):(!its.toArray.isEmpty)=!xs.isEmpty:=by
 cases r<;>simp
theorem Xm:(sizeLine:Nat)<2^63:=by rw[Zbl];decide
theorem Xa:TruR X (λx H Q=>∃k,TruV X.K x H k/\Q k H):=by
 intro pj s σ H x v Q I rx h
 obtain⟨k,e,q⟩:=h
 have hl:=Xm
 have hs:sizeLine=16777216:=Zbl
 cases x with
 |non=>
  cases rx
  have e':k=Zk:=e
  subst e'
  exact truthy_none ⟨H,I,q⟩
 |bl b=>
  cases rx
  have e':k=b:=e
  subst e'
  exact Zbp ⟨H,I,q⟩
 |int i=>
  obtain⟨t,rfl⟩:=rx
  have e':k=(i != 0):=e
  subst e'
  exact PySem.P.truthy_int ⟨H,I,q⟩
 |str y=>
  obtain⟨t,rfl⟩:=rx
  obtain⟨hy,e'⟩:y.length<=sizeLine/\k=((y.length:Int) != 0):=e
  subst e'
  exact PySem.P.truthy_str 00 ⟨H,I.tok _,q⟩
 |byt y=>
  obtain⟨t,rfl⟩:=rx
  obtain⟨hy,e'⟩:y.size<=sizeLine/\k=((y.size:Int) != 0):=e
  subst e'
  exact W.truthy_bytes 00 ⟨H,I.tok _,q⟩
 |ref p=>
  cases rx
  have e':(∃xs,SqL X.K H p xs/\k=!xs.isEmpty)∨(∃xs,SqT X.K H p xs/\k=!xs.isEmpty)∨∃kvs,H p=Za (.dK kvs)/\k=!kvs.isEmpty:=e
  rcases e' with⟨xs,hx,e'⟩|⟨xs,hx,e'⟩|⟨kvs,hx,e'⟩
  ·subst e'
   obtain⟨its,r,pl,hz⟩:=I.list hx
   have hlen:=r.length
   exact wpAny_truthy_list pl.isList (by simp only[Zt];omega) ⟨H,I.tok _,by rw[Ji7 r];exact q⟩
  ·subst e'
   obtain⟨its,r,pl,hz⟩:=I.tuple hx
   have hlen:=r.length
   exact truthy_tuple pl (by simp only[Zt];omega) ⟨H,I.tok _,by rw[Ji7 r];exact q⟩
  ·subst e'
   obtain⟨hz,hS,vs,r,m⟩:kvs.length<=sizeLine/\(p==Zct)=Zk/\∃vs,KV kvs vs/\s.heap.DictOf (Vz X.prog X.w) p vs:=I.hok p _ hx
   have hlen:kvs.length=vs.length:=Ze6 r
   exact wpAny_truthy_dict hS m 00 ⟨H,I.tok _,by rw[Jqf r];exact q⟩
 |_=>exact Zf e
theorem Jqp:OpR X (ZaS .Add) (λx y H Q=>∃i j,x=.str i/\y=.str j/\i.length+j.length<=sizeLine/\Q (.str<|i++j) H):=by
 intro pj s σ H x y v u Q I rx ry h
 obtain⟨i,j,rfl,rfl,hz,q⟩:=h
 obtain⟨t,rfl⟩:=rx
 obtain⟨t',rfl⟩:=ry
 exact add_str (λt' tk=>⟨.str<|i++j,H,I.tok _,⟨_,rfl⟩,q⟩) hz
theorem Qn{x:V}{us:To}(r:Vals [x] us):∃u,us=[u]/\RelV x u:=by
 cases r with
 |cons r1 r2=>cases r2;exact⟨_,rfl,r1⟩
theorem J4m{x y:V}{us:To}(r:Vals [x,y] us):∃u w',us=[u,w']/\RelV x u/\RelV y w':=by
 cases r with
 |cons r1 r2=>
  cases r2 with
  |cons r3 r4=>cases r4;exact⟨_,_,rfl,r1,r3⟩
theorem Jrp(hc:X.calm=Zh):VN X (.builtin "max") (λxs H Q=>∃i j,xs=[.int i,.int j]/\Q (.int (if j>i then j else i)) H):=by
 intro pj s σ H xs us Q I r h
 obtain⟨i,j,rfl,q⟩:=h
 obtain⟨u,w',rfl,⟨t,rfl⟩,⟨t',rfl⟩⟩:=J4m r
 refine max_two_ints (I.ok.hd hc) λh' tk k=>⟨_,H,I.kept k,?_,q⟩
 by_cases hj:j>i
 ·rw[if_pos hj,if_pos hj];exact⟨_,rfl⟩
 ·rw[if_neg hj,if_neg hj];exact⟨_,rfl⟩
theorem Jrq(hc:X.calm=Zh):VN X (.builtin "min") (λxs H Q=>∃i j,xs=[.int i,.int j]/\Q (.int (if j<i then j else i)) H):=by
 intro pj s σ H xs us Q I r h
 obtain⟨i,j,rfl,q⟩:=h
 obtain⟨u,w',rfl,⟨t,rfl⟩,⟨t',rfl⟩⟩:=J4m r
 refine min_two_ints (I.ok.hd hc) λh' tk k=>⟨_,H,I.kept k,?_,q⟩
 by_cases hj:j<i
 ·rw[if_pos hj,if_pos hj];exact⟨_,rfl⟩
 ·rw[if_neg hj,if_neg hj];exact⟨_,rfl⟩
theorem Jli:VN X (.type "int") (λxs H Q=>(∃i,xs=[.int i]/\Q (.int i) H)∨∃k,xs=[.bl k]/\Q (.int (if k then 1 else 0)) H):=by
 intro pj s σ H xs us Q I r h
 rcases h with⟨i,rfl,q⟩|⟨k,rfl,q⟩
 ·obtain⟨u,rfl,t,rfl⟩:=Qn r
  exact call_int_int ⟨.int i,H,I,⟨_,rfl⟩,q⟩
 ·obtain⟨u,rfl,r1⟩:=Qn r
  cases r1
  exact call_int_bool ⟨.int (if k then 1 else 0),H,I.tok _,⟨_,rfl⟩,q⟩
theorem Jlj:VN X (.type "str") (λxs H Q=>∃i,xs=[.int i]/\i.natAbs.log2<1920/\Q (.str<|toString i) H):=by
 intro pj s σ H xs us Q I r h
 obtain⟨i,rfl,hz,q⟩:=h
 obtain⟨u,rfl,t,rfl⟩:=Qn r
 exact PySem.P.str_of_int hz ⟨.str _,H,I.tok _,⟨_,rfl⟩,q⟩
def LenV(K:W.Frag)(x:V)(H:Hp)(n:Nat):Prop:=
 match x with
 |.str y=>y.length<=sizeLine/\n=y.length
 |.byt y=>y.size<=sizeLine/\n=y.size
 |.ref p=>(∃xs,SqL K H p xs/\n=xs.length)∨∃xs,SqT K H p xs/\n=xs.length
 |_=>False
theorem Jgs:VN X (.builtin "len") (λxs H Q=>∃x n,xs=[x]/\LenV X.K x H n/\Q (.int n) H):=by
 intro pj s σ H xs us Q I r h
 obtain⟨x,n,rfl,e,q⟩:=h
 obtain⟨u,rfl,rx⟩:=Qn r
 have hl:=Xm
 have hs:sizeLine=16777216:=Zbl
 cases x with
 |str y=>
  obtain⟨t,rfl⟩:=rx
  obtain⟨hy,e'⟩:y.length<=sizeLine/\n=y.length:=e
  subst e'
  exact len_str 00 ⟨.int _,H,I.tok _,⟨_,rfl⟩,q⟩
 |byt y=>
  obtain⟨t,rfl⟩:=rx
  obtain⟨hy,e'⟩:y.size<=sizeLine/\n=y.size:=e
  subst e'
  exact W.len_bytes 00 ⟨.int _,H,I.tok _,⟨_,rfl⟩,q⟩
 |ref p=>
  cases rx
  have e':(∃xs,SqL X.K H p xs/\n=xs.length)∨∃xs,SqT X.K H p xs/\n=xs.length:=e
  rcases e' with⟨xs,hx,e'⟩|⟨xs,hx,e'⟩
  ·subst e'
   obtain⟨its,r',pl,hz⟩:=I.list hx
   have hlen:=r'.length
   exact Calls.call_len_list pl.isList (by simp only[Zt];omega) ⟨.int xs.length,H,I.tok _,⟨_,by simp only[Zt];rw[hlen]⟩,q⟩
  ·subst e'
   obtain⟨its,r',pl,hz⟩:=I.tuple hx
   have hlen:=r'.length
   exact len_tuple pl (by simp only[Zt];omega) ⟨.int xs.length,H,I.tok _,⟨_,by simp only[Zt];rw[hlen]⟩,q⟩
 |_=>exact Zf e
end
structure ObjM(h:Zax)(x dx C:Zq)(mA:Str->Wx):Prop where
 obj:h.get? x=Za (W.instObj C dx)
 ns:h.Ns1 dx mA
 ne:dx≠x
theorem Jsz{h:Zax}{dx:Zq}{mA:Str->Wx}(n:h.Ns1 dx mA):∃od,h.get? dx=Za od/\∀name,W.lookIn name od=Za (mA name):=by
 obtain⟨o,es,ep,ho,hd,hk,_,hm⟩:=n
 refine⟨o,ho,λname=>?_⟩
 have e:=hm name
 unfold nsFind findBy at e
 rw[<-Array.find?_toList]at e
 unfold W.lookIn
 rw[hd]
 dsimp only
 split
 ·rename_i y q
  rw[q]at e
  exact congrArg Za e
 ·rename_i q
  rw[q]at e
  have a:es.toList.any (·.refKey)=Zk:=by
   rw[List.any_eq_false]
   intro y hy
   obtain⟨z,t,hkey⟩:=hk y<|Array.mem_toList_iff.mp hy
   simp[DictEntry.refKey,hkey]
  have a':¬es.toList.any (·.refKey)=Zh:=by rw[a];exact Zu
  rw[if_neg a']
  exact congrArg Za e
theorem ObjM.look{h:Zax}{x dx C:Zq}{mA:Str->Wx}(I:ObjM h x dx C mA):∃od,W.InstAt h x (W.instObj C dx) C (Za od)/\∀name,W.lookIn name od=Za (mA name):=
 let ⟨od,ho,hl⟩:=Jsz I.ns
 ⟨od,⟨I.obj,rfl,rfl,ho⟩,hl⟩
section
variable{prog:ZB}{w:ZV}{A:ZN}{E:QvT}{s:Zn}{K:W.Frag}{x dx C f:Zq}{mA:Str->Wx}{name:Str}{v:Ze}
theorem Jy9{expr:Bool}{Q:QvT}(X:K.In s.heap)(I:ObjM s.heap x dx C mA)(hg:W.plainGet K C name=Zh)(hh:W.hasDictIn K C=Zh)
  (ha:W.findIn K (.ref C) name=Za Zc)(hv:mA name=Za v)(hv':W.handedIn v=Zh)(h:Q v {s with toks:=s.toks+1}):
  Z0 (Z9 prog w) A (getAttr (.ref x) name expr) Q E s:=by
 obtain⟨od,J,hl⟩:=I.look
 exact W.get_value X J (W.plainGet_of hg).1 (W.findObj_own hh ha rfl (by rw[hl,hv])) hv' h
theorem Ju6{pl:Sem Bool}{Q:Ze×To->Zn->Prop}(X:K.In s.heap)(I:ObjM s.heap x dx C mA)(hg:W.plainGet K C name=Zh)
  (hf:W.findIn K (.ref C) name=Za (Za<|.ref f))(ht:W.isFn K (.ref f)=Zh)(hv:mA name=Zc)(h:Q (.ref f,[.ref x]) s):
  Z0 (Z9 prog w) A (ZdH (.ref x) name pl) Q E s:=by
 obtain⟨od,J,hl⟩:=I.look
 exact W.method_fn X J (W.plainGet_of hg).1 (W.plainGet_of hg).2 hf (beq_iff_eq.mp ht) (by show(W.lookIn name od).map (·.isSome)=Za Zk;rw[hl,hv];rfl) h
theorem J0p{ns:Tg}{Q:Unit->Zn->Prop}(X:K.In s.heap)(I:ObjM s.heap x dx C mA)
  (hs:W.findIn K (.ref C) "__setattr__"=Za (Za<|.builtin "object.__setattr__"))(hp:W.plainOver K C=Zh)(ht:W.takerIn K C name=Za Zc)(hh:W.hasDictIn K C=Zh)
  (hw:ZeF mA ns)(hsz:ns.length<=sizeLine)
  (h:∀h',ObjM h' x dx C (λy=>if y=name then Za v else mA y)->Zc2 dx s.heap h'->Q () {s with heap:=h',toks:=s.toks+2}):
  Z0 (Z9 prog w) A (setAttr (.ref x) name v) Q E s:=by
 obtain⟨od,J,hl⟩:=I.look
 refine W.set_plain X J hs (W.osa_open (s:={s with toks:=s.toks+1}) (r:=Zc) X J hp ht λb=>?_)
 obtain⟨cd,hc,hd'⟩:=W.any_some hh
 have hx:s.heap.get? x=Za ⟨.ref C,Za dx,.plain,#[]⟩:=I.obj
 refine Zd (Zv<|Zd<|Zd<|wpAny_loadPart hx<|Zd<|W.Looks.here (s:={s with toks:=s.toks+1}) (W.looks_clsIn X hc) ?_)
 rw[hd']
 refine Zv (a:=Za dx)<|Zd<|Zv<|Zd ?_
 refine wpAny_nsSet1 (s:={s with toks:=s.toks+1}) I.ns λh' hn2 hs2=>?_
 obtain⟨oD,esD,epD,hoD,hdD,hcD⟩:=hn2.count<|PySem.Within.cons name v hw
 refine Zd (wpAny_lookBehind hoD (by rw[hdD];exact pastItsLine_dict<|ZW hcD<|by rw[ZA];omega) ?_)
 exact Zv<|h _ ⟨(hs2.2 _<|Zab I.ne).trans I.obj,hn2,I.ne⟩ hs2
theorem Jvz{R:Zep->Zn->Prop}{vs:To}{kw:Wj}(X:K.In s.heap)(hm:W.makesIn K C=Zh)
  (hi:W.findIn K (.ref C) "__init__"=Za (Za<|.ref f))(hf:W.typeIn K (.ref f)=Za (.type "function"))
  (h:Zc4 (Z9 prog w) (A.under<|.builtin "type.__call__" ⟨.ref C::vs,kw⟩) (.call (.ref f) ⟨.ref (s.heap.objs.size+1)::vs,kw⟩) (W.InitBack (s.heap.objs.size+1) R)
   {s with heap:=(s.heap.push W.emptyDict).push (W.instObj C s.heap.objs.size)}):
  Zc4 (Z9 prog w) A (.call (.ref C) ⟨vs,kw⟩) R s:=by
 obtain⟨hh,g,d,t,os⟩:=s
 exact W.make_core (W.makes_of X hm) (W.looks_findIn X hi) (λself=>W.bind_fn X self hf) (.inl rfl) h
end
noncomputable def putF (f:Str)(v:V):Wq->Wq
 |[]=>[(f,v)]
 |(g,x)::r=>if g=f then(g,v)::r else(g,x)::putF f v r
theorem Jhz(f g:Str)(v:V):∀fs:Wq,(putF f v fs).lookup g=if g=f then Za v else fs.lookup g
 |[]=>by
  show Zb8 g [(f,v)]=_
  by_cases h:g=f
  ·have hb:(g==f)=Zh:=beq_iff_eq.mpr h
   simp only[Zb8,hb,if_pos h]
  ·have hb:(g==f)=Zk:=beq_eq_false_iff_ne.mpr h
   simp only[Zb8,hb,if_neg h]
 |(k,x)::r=>by
  have ih:=Jhz f g v r
  rw[show putF f v ((k,x)::r)=(if k=f then(k,v)::r else(k,x)::putF f v r)from rfl]
  by_cases hk:k=f
  ·rw[if_pos hk]
   by_cases h:g=k
   ·have hb:(g==k)=Zh:=beq_iff_eq.mpr h
    simp only[Zb8,hb,if_pos<|h.trans hk]
   ·have hb:(g==k)=Zk:=beq_eq_false_iff_ne.mpr h
    simp only[Zb8,hb,if_neg λe:g=f=>h<|e.trans hk.symm]
  ·rw[if_neg hk]
   by_cases h:g=k
   ·have hb:(g==k)=Zh:=beq_iff_eq.mpr h
    simp only[Zb8,hb,if_neg λe:g=f=>hk<|h.symm.trans e]
   ·have hb:(g==k)=Zk:=beq_eq_false_iff_ne.mpr h
    simp only[Zb8,hb]
    exact ih
theorem Jhx(f:Str)(v:V):∀fs:Wq,f∈(putF f v fs).map (·.1)/\∀g,g∈fs.map (·.1)->g∈(putF f v fs).map (·.1)
 |[]=>⟨by simp[putF],λg h=>by simp at h⟩
 |(k,x)::r=>by
  obtain⟨i1,i2⟩:=Jhx f v r
  rw[show putF f v ((k,x)::r)=(if k=f then(k,v)::r else(k,x)::putF f v r)from rfl]
  by_cases hk:k=f
  ·rw[if_pos hk]
   subst hk
   exact⟨03,λg h=>by simpa using h⟩
  ·rw[if_neg hk]
   refine⟨?_,λg h=>?_⟩
   ·rw[Z1]
    exact Zp _ i1
   ·rw[Z1]at h ⊢
    rcases Z6.mp h with e|e
    ·exact Z6.mpr<|.inl e
    ·exact Zp _<|i2 g e
theorem Jhy(f:Str)(v:V):∀fs:Wq,(putF f v fs).length<=fs.length+1
 |[]=>by simp[putF]
 |(k,x)::r=>by
  have ih:=Jhy f v r
  rw[show putF f v ((k,x)::r)=(if k=f then(k,v)::r else(k,x)::putF f v r)from rfl]
  by_cases hk:k=f
  ·rw[if_pos hk,ZA,ZA];omega
  ·rw[if_neg hk,ZA,ZA];omega
theorem RelO.some_of{v:V}{o:Wx}(r:RelO (Za v) o):∃u,o=Za u/\RelV v u:=by
 cases o with
 |none=>exact Zf r
 |some u=>exact⟨u,rfl,r⟩
theorem RelO.none_of{o:Wx}(r:RelO Zc o):o=Zc:=by
 cases o with
 |none=>rfl
 |some u=>exact Zf r
theorem Jr9{v:V}{u:Ze}(r:RelV v u):W.handedIn u=Zh:=by
 cases v with
 |non=>cases (show u=ZaA from r);rfl
 |bl b=>cases (show u=ZcL b from r);rfl
 |int i=>obtain⟨t,e⟩:=(show ∃t,u=Zcx i t from r);cases e;rfl
 |str x=>obtain⟨t,e⟩:=(show ∃t,u=Zez x t from r);cases e;rfl
 |byt b=>obtain⟨t,e⟩:=(show ∃t,u=Value.bytes b t from r);cases e;rfl
 |flt b=>obtain⟨t,e⟩:=(show ∃t,u=Value.float b t from r);cases e;rfl
 |ref a=>cases (show u=Ze0 a from r);rfl
 |ty n=>cases (show u=ZeD n from r);rfl
section
variable{P:ZB}{w:ZV}{H H':Hp}{h h':Zax}{a C dx:Zq}{fs fs':Wq}
theorem Jj8(hok:HOk P w H h)(e:H a=Za (.ins C dx fs)):∃mA,ObjM h a dx C mA/\(∀f,RelO (fs.lookup f)<|mA f)/\ZeF mA (fs.map (·.1))/\fs.length<=1000/\H dx=Za (.own a):=by
 obtain⟨d,z,ne,ob,mA,n,r,q⟩:=(show JQ P w H h a (.ins C dx fs)from hok a _ e)
 exact⟨mA,⟨ob,n,ne⟩,r,q,z,d⟩
end
structure Cls(K:W.Frag)(C:Zq):Prop where
 pg:W.plainGet K C Str.empty=Zh
 hd:W.hasDictIn K C=Zh
 po:W.plainOver K C=Zh
 sa:W.findIn K (.ref C) "__setattr__"=Za (Za<|.builtin "object.__setattr__")
theorem Cls.get{K:W.Frag}{C:Zq}(c:Cls K C)(f:Str):W.plainGet K C f=Zh:=c.pg
def QM(K:W.Frag)(C:Zq)(f:Str):Prop:=W.findIn K (.ref C) f=Za Zc
theorem QM.taker{K:W.Frag}{C:Zq}{f:Str}(n:QM K C f):W.takerIn K C f=Za Zc:=by
 unfold W.takerIn
 rw[show W.findIn K (.ref C) f=Za Zc from n]
 rfl
structure Meth(K:W.Frag)(C:Zq)(m:Str)(f:Zq):Prop where
 at_:W.findIn K (.ref C) m=Za (Za<|.ref f)
 fn:W.isFn K (.ref f)=Zh
 kp:W.keepIn K (.ref f)=Zh
section
variable{X:Cx}{pj:PnT}{σ:St}{H:Hp}{s:Zn}{a C dx:Zq}{fs:Wq}{f:Str}{v:V}{A:ZN}{E:QvT}
theorem Ji4{b:Bool}{Q:QvT}(I:Inv X pj σ H s)(e:H a=Za (.ins C dx fs))(c:Cls X.K C)(n:QM X.K C f)(l:fs.lookup f=Za v)
  (h:∀u s',Inv X pj σ H s'->RelV v u->Q u s'):Z0 (Z9 X.prog X.w) A (getAttr (.ref a) f b) Q E s:=by
 obtain⟨mA,O,r,_,_,_⟩:=Jj8 I.hok e
 obtain⟨u,hu,ru⟩:=RelO.some_of (v:=v) (o:=mA f)<|by rw[<-l];exact r f
 exact Jy9 I.kIn O (c.get f) c.hd n hu (Jr9 ru)<|h u _ (I.tok _) ru
theorem Ji5{m:Str}{g:Zq}{pl:Sem Bool}{Q:Ze×To->Zn->Prop}(I:Inv X pj σ H s)(e:H a=Za (.ins C dx fs))(c:Cls X.K C)(k:Meth X.K C m g)(l:fs.lookup m=Zc)
  (h:Q (.ref g,[.ref a]) s):Z0 (Z9 X.prog X.w) A (ZdH (.ref a) m pl) Q E s:=by
 obtain⟨mA,O,r,_,_,_⟩:=Jj8 I.hok e
 have hn:mA m=Zc:=RelO.none_of<|by rw[<-l];exact r m
 exact Ju6 I.kIn O (c.get m) k.at_ k.fn hn h
theorem Jja{y:V}{u:Ze}{Q:Unit->Zn->Prop}(I:Inv X pj σ H s)(e:H a=Za (.ins C dx fs))(c:Cls X.K C)(n:QM X.K C f)(hl:fs.length<1000)(ry:RelV y u)
  (h:∀s',Inv X pj σ (upd H a<|.ins C dx<|putF f y fs) s'->Q () s'):Z0 (Z9 X.prog X.w) A (setAttr (.ref a) f u) Q E s:=by
 obtain⟨mA,O,r,wi,_,ho⟩:=Jj8 I.hok e
 have hz:(fs.map (·.1)).length<=sizeLine:=by rw[Zg,Zbl];omega
 refine J0p I.kIn O c.sa c.po n.taker c.hd wi hz λh' O' sb=>h _ ?_
 have hd:∃o,h'.get? dx=Za o:=let ⟨o,_,_,e',_⟩:=O'.ns;⟨o,e'⟩
 refine I.write (x:=a) (e:=dx) (by rw[e];exact Zar) (.inr ho) (λb q hb z=>(sb.2 b hb).trans z) hd ?_
 refine⟨by rw[Jx O.ne];exact ho,?_,O.ne,O'.obj,_,O'.ns,λg=>?_,λg hg=>?_⟩
 ·have:=Jhy f y fs;omega
 ·show RelO ((putF f y fs).lookup g) (if g=f then Za u else mA g)
  rw[Jhz]
  by_cases q:g=f
  ·rw[if_pos q,if_pos q];exact ry
  ·rw[if_neg q,if_neg q];exact r g
 ·by_cases q:g=f
  ·rw[q];exact(Jhx f y fs).1
  ·refine(Jhx f y fs).2 g (wi g λz=>hg ?_)
   show(if g=f then Za u else mA g)=Zc
   rw[if_neg q];exact z
theorem Inv.made(I:Inv X pj σ H s):Inv X pj σ (upd (upd H s.heap.objs.size<|.own<|s.heap.objs.size+1) (s.heap.objs.size+1)<|.ins C s.heap.objs.size [])
  {s with heap:=(s.heap.push W.emptyDict).push (W.instObj C s.heap.objs.size)}:=by
 have e1:(s.heap.push W.emptyDict).get? s.heap.objs.size=Za W.emptyDict:=Z2 s.heap rfl
 have e2:((s.heap.push W.emptyDict).push<|W.instObj C s.heap.objs.size).get? (s.heap.objs.size+1)=Za (W.instObj C s.heap.objs.size):=by
  have:=Z2 (s.heap.push W.emptyDict) (o:=W.instObj C s.heap.objs.size) rfl
  rwa [Zc5]at this
 have e3:(s.heap.push W.emptyDict).Ns s.heap.objs.size (λ_=>Zc):=⟨W.emptyDict,#[],_,e1,rfl,(λe he=>absurd he 03),λ_=>rfl⟩
 have I1:=I.laid (a:=s.heap.objs.size) (o:=.own<|s.heap.objs.size+1) (h':=s.heap.push W.emptyDict) (t':=s.toks) (λb u q=>Zj _ q) (Zm _) ⟨_,e1⟩
 refine I1.laid (a:=s.heap.objs.size+1) (o:=.ins C s.heap.objs.size []) (t':=s.toks) (λb u q=>Zj _ q) (Zc6<|Zc5 _ _) ?_
 have ne:s.heap.objs.size≠s.heap.objs.size+1:=Z7<|Zaz _
 refine⟨by rw[Jx ne,JH],ZR _,ne,e2,λ_=>Zc,(Heap.Ns1.of_empty e3).at λo q=>Zj _ q,λ_=>Zar,λy hy=>absurd rfl hy⟩
theorem Jyq{prog:ZB}{w:ZV}{env:Env}{e:Expr}{f:Str}{pos:Pos}{s:Zn}{Q:QvT}(hb:ZcS e f env (ZaY e env)=ZaY e env)
  (h:Z0 (Z9 prog w) A (ZaY e env) (λo s₁=>Z0 (Z9 prog w) A (getAttr o f Zh) Q E s₁) E s):Z0 (Z9 prog w) A (ZaY (.Attribute e f pos) env) Q E s:=
 Attribute_any_ h (by rw[arm_eval_Attribute,hb])
end
section
variable{X:Cx}{o e value:Expr}{f:Str}{pos pos' tpos:Pos}{ta tv:TE}
end
section
variable{X:Cx}{pj:PnT}{σ:St}{H:Hp}{s:Zn}{A:ZN}{E Q:QvT}{c:Ze}{b:Bool}
end
structure Room(k:Nat)(A:ZN):Prop where
 hd:A.handled=Zc
 dp:A.depth+3*k+5<recursionLimit
 un:A.units+16*k+200<Ze7
theorem Room.mono{j k:Nat}{A:ZN}(r:Room k A)(h:j<=k):Room j A:=⟨r.hd,by have:=r.dp;omega,by have:=r.un;omega⟩
theorem Room.deeper{k:Nat}{A:ZN}(r:Room (k+1) A)(env:Env):Room k (A.deeper env):=
 ⟨r.hd,by have:=r.dp;show A.depth+1+3*k+5<_;omega,by have:=r.un;show A.units+3+16*k+200<_;omega⟩
theorem Room.in1{k:Nat}{A:ZN}(r:Room (k+1) A):Room k A.in1:=
 ⟨r.hd,by have:=r.dp;show A.depth+3*k+5<_;omega,by have:=r.un;show A.units+1+16*k+200<_;omega⟩
theorem Jqm{A:ZN}{C:Zq}{us:To}{kw:Wj}:(A.under<|.builtin "type.__call__" ⟨.ref C::us,kw⟩).depth=A.depth+1:=by
 first|rfl|simp[ZeH,Code.weight,Code.isCreation,Code.isGuard,Code.isCaller,Code.frames,ZeI,guardIds]
theorem Jqn{A:ZN}{C:Zq}{us:To}{kw:Wj}:(A.under<|.builtin "type.__call__" ⟨.ref C::us,kw⟩).units=A.units+1:=by
 first|rfl|simp[ZeH,Code.cUnits,Code.frames,ZeI]
theorem Room.make{k:Nat}{A:ZN}(r:Room (k+1) A)(C:Zq)(us:To)(kw:Wj):Room k (A.under<|.builtin "type.__call__" ⟨.ref C::us,kw⟩):=
 ⟨r.hd,by have:=r.dp;rw[Jqm];omega,by have:=r.un;rw[Jqn];omega⟩
theorem Room.depth{k:Nat}{A:ZN}(r:Room k A):A.depth<recursionLimit:=by have:=r.dp;omega
theorem Room.units{k:Nat}{A:ZN}(r:Room k A):A.units+64<Ze7:=by have:=r.un;omega
section
variable{X:Cx}{e:Expr}{es:Ta}{te:TE}{t:TA}{pos:Pos}
end
abbrev Sp:=Tu->Hp->VK->XK->Prop
abbrev CXT:=Th->Hp->Zn->XK->QvT
structure Env0(P:ZB)(w:ZV)(K:W.Frag)(mg:Str->Wx)(base:Zax)(A:ZN)(outer:Th)(s:Zn)(H:Hp):Prop where
 frames:A.frames=Za outer
 mod:Mod K mg base
 bs:∀b o,base.get? b=Za o->s.heap.get? b=Za o/\H b=Zc
 bsz:base.objs.size<=s.heap.objs.size
 funs:s.heap.FunFrames base outer
 frf:∀b∈frs outer,H b=Zc
 hok:HOk P w H s.heap
 bare:Zdo s.gens
def CE(outer:Th)(P:ZB)(w:ZV)(H:Hp)(s:Zn)(Q:VK)(u:Ze)(s':Zn):Prop:=
 ∃v H',s'.os=s.os/\Zdo s'.gens/\Un (frs outer) [] H H' s.heap s'.heap/\HOk P w H' s'.heap/\RelV v u/\Q v H'
def CR(CX:CXT)(outer:Th)(P:ZB)(w:ZV)(H:Hp)(s:Zn)(Q:VK)(E:XK)(r:Zep)(s':Zn):Prop:=
 match r with
 |.ok (.ret u)=>CE outer P w H s Q u s'
 |.ok _=>False
 |.error e=>CX outer H s E e s'
structure FnOk(P:ZB)(w:ZV)(K:W.Frag)(mg:Str->Wx)(base:Zax)(CX:CXT)(k:Nat)(f:Zq)(fd:ZaH)(ps:Tg)(sp:Sp):Prop where
 len:∀vs H Q E,sp vs H Q E->vs.length=ps.length
 run:∀(A:ZN)(outer:Th)(s:Zn)(H:Hp)(args:Args)(us:To)(vs:Tu)(Q:VK)(E:XK),Room k A->Env0 P w K mg base A outer s H->Zc7 s fd args (ps.zip us)->Vals vs us->sp vs H Q E ->
  Zc4 (Z9 P w) A (.call (.ref f) args) (CR CX outer P w H s Q E) s
theorem FnOk.imp{P:ZB}{w:ZV}{K:W.Frag}{mg:Str->Wx}{base:Zax}{CX:CXT}{k:Nat}{f:Zq}{fd:ZaH}{ps:Tg}{sp sp':Sp}(F:FnOk P w K mg base CX k f fd ps sp)
  (h:∀vs H Q E,sp' vs H Q E->sp vs H Q E):FnOk P w K mg base CX k f fd ps sp':=
 ⟨λvs H Q E q=>F.len vs H Q E<|h _ _ _ _ q,λA outer s H args us vs Q E hr he hb hv hs=>F.run A outer s H args us vs Q E hr he hb hv<|h _ _ _ _ hs⟩
theorem Env0.make{P:ZB}{w:ZV}{K:W.Frag}{mg:Str->Wx}{base:Zax}{A:ZN}{outer:Th}{s:Zn}{H:Hp}(e:Env0 P w K mg base A outer s H)(C:Zq)(us:To)(kw:Wj):
  Env0 P w K mg base (A.under<|.builtin "type.__call__" ⟨.ref C::us,kw⟩) outer s H:=⟨by first|exact e.frames|(simpa[ZeH,Code.envs,ZeI,pushEnvs]using e.frames),e.mod,e.bs,e.bsz,e.funs,e.frf,e.hok,e.bare⟩
section
variable{X:Cx}{pj:PnT}{σ:St}{H:Hp}{s s':Zn}
theorem Inv.env0(I:Inv X pj σ H s):Env0 X.prog X.w X.K X.mg X.base X.A X.stack s H:=
 ⟨I.ok.frames,I.ok.mod,I.bs,ZW I.ok.bsz I.sz,I.stack,I.stkFree,I.hok,I.bare⟩
theorem Inv.after{Q:VK}{u:Ze}(I:Inv X pj σ H s)(h:CE X.stack X.prog X.w H s Q u s'):EP X pj σ Q u s':=by
 obtain⟨v,H',os,bare,un,hok,r,q⟩:=h
 obtain⟨hh,g,d,t,os'⟩:=s'
 obtain rfl:os'=s.os:=os
 exact⟨v,H',I.call (h':=hh) (g':=g) (d':=d) (t':=t) (ch:=[]) un hok bare λb z=>absurd z 03,r,q⟩
end
def Qp(K:W.Frag)(fd:ZaH)(ps:Tg)(ds:To):Prop:=
 ∀(s:Zn)(us:To),K.In s.heap->(us++ds).length=ps.length->Zc7 s fd ⟨us,[]⟩ (ps.zip<|us++ds)
theorem Qp.all{K:W.Frag}{fd:ZaH}{ps:Tg}(h:∀us:To,us.length=ps.length->Zeq fd ⟨us,[]⟩=pure (ps.zip us)):Qp K fd ps []:=λs us _ hl=>by
 rw[Zam]at hl ⊢
 exact .of_eq<|h us hl
section
variable{X:Cx}{CX:CXT}{k:Nat}{f C:Zq}{fd:ZaH}{ps:Tg}{sp:Sp}{dvs:Tu}{ds:To}{E:XK}{x m:Str}{p pos apos:Pos}{e o:Expr}{es:Ta}{ta:TE}{t:TA}
structure Mk(K:W.Frag)(C f:Zq):Prop where
 makes:W.makesIn K C=Zh
 init:W.findIn K (.ref C) "__init__"=Za (Za<|.ref f)
 fn:W.isFn K (.ref f)=Zh
 kp:W.keepIn K (.ref C)=Zh
end
section
variable{X:Cx}{CX:CXT}{k:Nat}{f C:Zq}{fd:ZaH}{ps ks:Tg}{sp:Sp}{E:XK}{x m:Str}{p pos apos kpos:Pos}{e o:Expr}{es:Ta}{kws:Tj}{te ta:TE}{t tk:TA}{nm:Option Str}
variable{g:To->To->To}{gV:Tu->Tu->Tu}
end
structure FnScope(N P:Tg)(sc:Zbg):Prop where
 kind:sc.kind=.function
 co:sc.isCoroutine=Zk
 gen:sc.isGenerator=Zk
 nd:N.Nodup
 pre:N.take P.length=P
 par:∀x∈P,sc.names.lookup x=Za .local∨sc.names.lookup x=Za .cell
 nofree:∀y∈sc.names,y.2≠.free
theorem Jlf{kindOf:Str->Wu}{x:Str}:∀{binds:Wj}{m:Str->Wx},(∀v,(x,v)∉binds)->bindL kindOf binds m x=m x
 |[],_,_=>rfl
 |(n,v)::r,m,h=>by
  unfold bindL
  rw[Jlf λw hw=>h w<|Zp _ hw]
  split
  ·have:x≠n:=by rintro rfl;exact h v Zy
   simp[this]
  ·rfl
theorem Jld{kindOf:Str->Wu}{x:Str}:∀{binds:Wj}{m:Str->Wx},(∀v,(x,v)∉binds)->bindC kindOf binds m x=m x
 |[],_,_=>rfl
 |(n,v)::r,m,h=>by
  unfold bindC
  rw[Jld λw hw=>h w<|Zp _ hw]
  split
  ·rfl
  ·have:x≠n:=by rintro rfl;exact h v Zy
   simp[this]
theorem Jle{kindOf:Str->Wu}{x:Str}{v:Ze}:∀{P:Tg}{vs:To}{i:Nat}{m:Str->Wx},P.Nodup->P[i]?=Za x->vs[i]?=Za v->kindOf x=Za .local ->
  bindL kindOf (P.zip vs) m x=Za v
 |[],_,_,_,_,h,_,_=>by simp at h
 |_::_,[],_,_,_,_,h,_=>by simp at h
 |p::P,w::vs,0,m,nd,h1,h2,hk=>by
  simp at h1 h2;subst h1;subst h2
  show bindL kindOf ((p,w)::P.zip vs) m p=_
  unfold bindL
  rw[Jlf λv hv=>(Zcq.mp nd).1 (Zeh hv).1,if_pos hk]
  simp
 |p::P,w::vs,i+1,m,nd,h1,h2,hk=>by
  show bindL kindOf ((p,w)::P.zip vs) m x=_
  unfold bindL
  exact Jle (i:=i) (Zcq.mp nd).2 (by simpa using h1) (by simpa using h2) hk
theorem Jlc{kindOf:Str->Wu}{x:Str}{v:Ze}:∀{P:Tg}{vs:To}{i:Nat}{m:Str->Wx},P.Nodup->P[i]?=Za x->vs[i]?=Za v->kindOf x≠Za .local ->
  bindC kindOf (P.zip vs) m x=Za v
 |[],_,_,_,_,h,_,_=>by simp at h
 |_::_,[],_,_,_,_,h,_=>by simp at h
 |p::P,w::vs,0,m,nd,h1,h2,hk=>by
  simp at h1 h2;subst h1;subst h2
  show bindC kindOf ((p,w)::P.zip vs) m p=_
  unfold bindC
  rw[Jld λv hv=>(Zcq.mp nd).1 (Zeh hv).1,if_neg hk]
  simp
 |p::P,w::vs,i+1,m,nd,h1,h2,hk=>by
  show bindC kindOf ((p,w)::P.zip vs) m x=_
  unfold bindC
  exact Jlc (i:=i) (Zcq.mp nd).2 (by simpa using h1) (by simpa using h2) hk
noncomputable def start (N:Tg)(vs:Tu):St:=vs.map Za++ZU (N.length-vs.length) Zc
noncomputable def cxOf (CX:CXT)(P:ZB)(w:ZV)(K:W.Frag)(mg:Str->Wx)(base:Zax)(N:Tg)(qual:Str)(scope:Zbg)(f:Zq)(cd:Ze)(A:ZN)(outer:Th)(s:Zn)(H:Hp)(E:XK):Cx where
 prog:=P
 w:=w
 K:=K
 mg:=mg
 base:=base
 A:=A.deeper<|Zer qual scope s.heap.objs.size f cd
 N:=N
 s₀:=s
 H₀:=H
 env:=Zer qual scope s.heap.objs.size f cd
 outer:=outer
 stack:=Zer qual scope s.heap.objs.size f cd::outer
 ex:=[]
 calm:=Zh
 fn:=λ_=>Zh
 pn:=[]
 xe:=λe s'=>Z0 (Z9 P w) (A.deeper<|Zer qual scope s.heap.objs.size f cd) (leaving (Zer qual scope s.heap.objs.size f cd) e) (λ_ s''=>CX outer H s E e s'') (λe' s''=>CX outer H s E e' s'') s'
theorem Jom{sc:Zbg}{n:Nat}{x:Str}(h:sc.names.lookup x=Za .cell):∃c,(cellsFrom n sc.names []).lookup x=Za c:=by
 have q:=W.cellsFrom_some sc.names n []<|.inl h
 exact Zbh.mp q
theorem Jsg{CX:CXT}{P:ZB}{w:ZV}{K:W.Frag}{mg:Str->Wx}{base:Zax}{N ps:Tg}{qual:Str}{scope:Zbg}{f:Zq}{cd:Ze}{A:ZN}{outer:Th}{s s1:Zn}{H:Hp}{E:XK}{us:To}{vs:Tu}
  (S:FnScope N ps scope)(hd:A.handled=Zc)(e0:Env0 P w K mg base A outer s H)(hl:vs.length=ps.length)(r:Vals vs us)
  (x:InCallC s s.heap.objs.size (bindL (Zer qual scope s.heap.objs.size f cd).kindOf (ps.zip us) λ_=>Zc) (cellsFrom (s.heap.objs.size+1) scope.names []) (bindC (Zer qual scope s.heap.objs.size f cd).kindOf (ps.zip us) λ_=>Zc) s1):
  Inv (cxOf CX P w K mg base N qual scope f cd A outer s H E) [] (start N vs) H s1:=by
 have hpl:ps.length<=N.length:=by have:=congrArg List.length S.pre;rw[Zaa]at this;omega
 obtain⟨h1,tk,rfl,hk⟩:=x.done
 have noA:∀b:Zq,b∉(cxOf CX P w K mg base N qual scope f cd A outer s H E).ex:=λb z=>absurd (show b∈([]:Tp)from z) 03
 refine⟨⟨e0.mod,S.kind,rfl,rfl,Zm _,λy z c h1 h2=>?_,λy hy=>?_,λy c _ h=>?_,λ_=>hd,Around.frames_deeper e0.frames,.inr ⟨rfl,rfl⟩,λb z=>absurd z<|noA b,e0.bs,e0.bsz,λb _ _=>noA b,λb z=>absurd z<|noA b,e0.funs,e0.frf⟩,
  rfl,e0.bare,Un.kept hk,⟨_,x.toInCall.ns,λi y v h1 h2 h3=>?_⟩,λy c h=>⟨_,x.cell y c h⟩,e0.hok.fresh<|Zm _,λy c h=>?_,λp hp=>absurd (show p∈([]:PnT)from hp) 03,e0.hok.kept hk,?_⟩
 ·exact name_of_addr x.apart (Zah h1)<|Zah h2
 ·have hy:scope.names.lookup y=Za .cell∨scope.names.lookup y=Za .free:=hy
  rcases hy with hy|hy
  ·exact Jom hy
  ·exact absurd rfl (S.nofree _<|Zah hy)
 ·exact Zcf<|x.above y c<|Zah h
 ·have hi:i<vs.length:=by
   unfold start at h2
   by_cases hi:i<vs.length
   ·exact hi
   ·rw[Z8<|by simpa using hi]at h2
    rw[ZbJ]at h2
    split at h2<;>cases h2
  have ha:vs[i]?=Za v:=by
   unfold start at h2
   rw[ZE (by simpa using hi),Z4]at h2
   cases e:vs[i]? with
   |none=>rw[e]at h2;cases h2
   |some a=>rw[e]at h2;cases h2;rfl
  obtain⟨u,hu,rv⟩:=r.get ha
  have hp:ps[i]?=Za y:=by
   rw[<-S.pre,Zcl 00];exact h1
  have ndP:ps.Nodup:=by rw[<-S.pre];exact S.nd.sublist<|List.take_sublist _ _
  refine⟨u,rv,?_⟩
  rcases S.par y (ZaT hp)with k|k
  ·exact .inl ⟨k,Jle ndP hp hu k⟩
  ·obtain⟨c,e⟩:=Jom (n:=s.heap.objs.size+1) k
   refine .inr ⟨.inl k,c,e,?_⟩
   have q:=x.cell y c e
   rw[Jlc ndP hp hu (by show scope.names.lookup y≠_;rw[k];decide)]at q
   exact q
 ·exact e0.hok.fresh<|Zcf<|x.above y c<|Zah h
 ·unfold start
  show _=N.length
  rw[Zs,Zg,Zb3]
  omega
theorem J47{CX:CXT}{P:ZB}{w:ZV}{K:W.Frag}{mg:Str->Wx}{base:Zax}{k:Nat}{f:Zq}{name qual:Str}{params:ZbY}{body:Ti}{scope:Zbg}{dV kV doc pm cdv ct oc:Ze}{an od:Wz}
  {osl:Wb}{N ps:Tg}{sp:Sp}(lk:K.lookup f=Za ⟨oc,od,.func<|W.fnOf name qual params body scope dV kV doc pm an cdv ct,osl⟩)(hcd:W.codeIn K cdv qual=Zh)(S:FnScope N ps scope)
  (len:∀vs H Q E,sp vs H Q E->vs.length=ps.length)
  (hbody:∀(A:ZN)(outer:Th)(s:Zn)(H:Hp)(vs:Tu)(Q:VK)(E:XK),Room k (A.deeper<|Zer qual scope s.heap.objs.size f cdv)->sp vs H Q E ->
   ∃t,PSs (cxOf CX P w K mg base N qual scope f cdv A outer s H E) body t/\t {nx:=λ_ H'=>Q .non H',rt:=Q} (start N vs) H):
  FnOk P w K mg base CX (k+1) f (W.fnOf name qual params body scope dV kV doc pm an cdv ct) ps sp:=by
 refine⟨len,λA outer s H args us vs Q E hr e0 hb r hsp=>?_⟩
 have hl:=len _ _ _ _ hsp
 have KX:K.In s.heap:=e0.mod.kin.keeps λb o e=>(e0.bs b o e).1
 have lim:s.heap.NoLimit:=e0.mod.nolimit.keeps λb o e=>(e0.bs b o e).1
 have hkind:∀y∈ps.zip us,scope.names.lookup y.1=Za .local∨(scope.names.lookup y.1=Za .cell/\((cellsFrom (s.heap.objs.size+1) scope.names []).lookup y.1).isSome=Zh):=λ⟨n,v⟩ hy=>by
  rcases S.par n (Zeh hy).1 with q|q
  ·exact .inl q
  ·exact .inr ⟨q,W.cellsFrom_some _ _ _<|.inl q⟩
 refine codeAny_call_function hr.depth (KX _ _ lk) rfl S.co S.gen rfl (W.codeRec_of KX hcd) (hb _ _ _ _ ?_)
 refine wpAny_newFunctionEnv_cells S.kind hkind λenv he s1 x=>?_
 subst he
 refine⟨lim.keeps x.toInCall.keep,codeAny_func ?_⟩
 obtain⟨t,ht,hq⟩:=hbody A outer s H vs Q E (hr.deeper _) hsp
 have I:Inv (cxOf CX P w K mg base N qual scope f cdv A outer s H E) [] (start N vs) H s1:=Jsg S hr.hd e0 hl r x
 refine Zal (ht [] s1 (start N vs) H _ I hq) (λfl s' hs=>?_) λe s' hs=>hs
 have fin:∀{σ':St}{H':Hp}{v:V}{u:Ze},Inv (cxOf CX P w K mg base N qual scope f cdv A outer s H E) [] σ' H' s'->RelV v u->Q v H'->CE outer P w H s Q u s':=
  λ{σ' H' v u} J rv q=>⟨v,H',J.os,J.bare,J.base,J.hok,rv,q⟩
 cases fl with
 |ret u=>
  obtain⟨v,σ',H',J,rv,q⟩:=hs
  exact fin J rv q
 |next=>
  obtain⟨σ',H',J,q⟩:=hs
  exact fin (v:=V.non) (u:=ZaA) J rfl q
 |brk=>
  obtain⟨_,_,_,q⟩:=hs
  exact Zbt q
 |cont=>
  obtain⟨_,_,_,q⟩:=hs
  exact Zbt q
section
variable{X:Cx}{x:Str}{p pos:Pos}{e:Expr}{es:Ta}{t:TA}{id T:String}{r:Tu->Hp->VK->Prop}
end
end L2
namespace HT
open PySem PyProof.Rows
section
open PySem.SeqAt
open PySem.AutoSeq1 (wpAny_loadPart')
open PySem.MeetsSeq PySem.MeetsSeq2 PySem.MeetsSeq3
end
section
variable{prog:ZB}{w:ZV}{A:ZN}{E:QvT}{s:Zn}
theorem cat_tup{t b:Zq}{vs ws:To}{Q:QvT}(ht:IsTup s.heap t vs.toArray)(hb:IsTup s.heap b ws.toArray)(hv:vs≠[])
  (h1:ws=[]->Q (.ref t) s)(h2:ws≠[]->Q (.ref s.heap.objs.size) {s with heap:=s.heap.push {cls:=.type "tuple",data:=.seq (vs++ws).toArray} })
  (hsz:vs.length+ws.length<=sizeLine):Z0 (Z9 prog w) A (ZaS .Add (.ref t)<|.ref b) Q E s:=by
 obtain⟨⟨cls,dd,data,sl⟩,ho,hc,n,hd⟩:=id ht
 obtain⟨⟨cls2,dd2,data2,sl2⟩,ho2,hc2,n2,hd2⟩:=id hb
 simp only at hc hd hc2 hd2
 subst hc hd hc2 hd2
 have e:vs.toArray++ws.toArray=(vs++ws).toArray:=03
 by_cases hw:ws=[]
 ·exact concat_meets ⟨_,ho,rfl⟩ ⟨_,ho2,rfl⟩ noFill_tuple_add seq_tuple_add ZdX ZdI (ZdB _ _)
   (tuple_addW1 t b vs.toArray ws.toArray n n2 dd dd2 sl sl2 (by simpa using hv)<|by simp[hw]) ⟨ho,ho2,h1 hw⟩
 ·refine concat_meets ⟨_,ho,rfl⟩ ⟨_,ho2,rfl⟩ noFill_tuple_add seq_tuple_add ZdX ZdI (ZdB _ _)
   (tuple_addW2 t b vs.toArray ws.toArray n n2 dd dd2 sl sl2 (by simpa using hv) (by simpa using hw)<|by rw[Zt,Zt];exact hsz) ⟨ho,ho2,?_⟩
  rw[e]
  exact h2 hw
noncomputable def sIx (n d:Nat):Wv->Nat
 |none=>d
 |some v=>if v<0 then(v+(n:Int)).toNat else min v.toNat n
theorem sIx_none(n d:Nat):sIx n d Zc=d:=rfl
theorem sIx_nat(n d k:Nat):sIx n d (Za (k:Int))=min k n:=by
 show(if (k:Int)<0 then((k:Int)+(n:Int)).toNat else min (k:Int).toNat n)=min k n
 rw[if_neg 00,ZaZ]
theorem sIx_le(n d:Nat)(hd:d<=n)(o:Wv):sIx n d o<=n:=by
 cases o with
 |none=>exact hd
 |some v=>
  show(if v<0 then(v+(n:Int)).toNat else min v.toNat n)<=n
  by_cases hv:v<0
  ·rw[if_pos hv];omega
  ·rw[if_neg hv];exact Nat.min_le_right _ _
theorem Jrr(v:Int)(n d:Nat):(if v<0 then max (v+(n:Int)) 0 else min v (n:Int))=((sIx n d (Za v):Nat):Int):=by
 show(if v<0 then max (v+(n:Int)) 0 else min v (n:Int))=(((if v<0 then(v+(n:Int)).toNat else min v.toNat n):Nat):Int)
 by_cases hv:v<0
 ·simp only[if_pos hv];omega
 ·simp only[if_neg hv];omega
theorem Jpx(lo hi:Wv)(n:Nat):Zcj lo hi 1 (n:Int)=(((sIx n 0 lo:Nat):Int),((sIx n n hi:Nat):Int)):=by
 have h1:¬((1:Int)<0):=00
 unfold Zcj
 simp only[h1,if_false]
 refine Prod.ext ?_ ?_
 ·cases lo with
  |none=>rfl
  |some v=>exact Jrr v n 0
 ·cases hi with
  |none=>rfl
  |some v=>exact Jrr v n n
theorem Jqs(i j:Nat):Zb6 (i:Int) (j:Int) 1=j-i:=by
 unfold Zb6
 have h1:(1:Int)>0:=00
 simp only[h1,if_true,Int.ediv_one]
 split<;>omega
theorem Jjb{v:Ze}{o:Wv}{Q:Wv->Zn->Prop}(p:Zdv v o)(h:Q o s):Z0 (Z9 prog w) A (Builtin.Slice.slicePartIndex v) Q E s:=by
 cases p with
 |none=>exact slicePart_none h
 |int i t=>exact slicePart_int h
theorem sliceApplied_gen{sl:Zq}{vl vu:Ze}{lo hi:Wv}{n:Nat}{Q:Int×Int×Nat->Zn->Prop}(hs:s.heap.IsSliceOf sl vl vu .none)(pl:Zdv vl lo)(pu:Zdv vu hi)
  (h:Q (((sIx n 0 lo:Nat):Int),1,sIx n n hi-sIx n 0 lo) s):Z0 (Z9 prog w) A (Zdw (.ref sl)<|pure (n:Int)) Q E s:=by
 obtain⟨os,hos,hcs,hds⟩:=id hs
 unfold Zdw Builtin.Slice.sliceFields
 refine Zd<|Zd<|wpAny_field hos hds (x:=vl) rfl (Zd<|wpAny_field hos hds (x:=vu) rfl (Zd<|wpAny_field hos hds (x:=.none) rfl (Zv ?_)))
 refine Zd<|slicePart_none ?_
 show Z0 _ _ (if ((1:Int)==0)=Zh then _ else _) _ _ s
 rw[if_neg 01]
 refine Zd<|Jjb pl<|Zd<|Jjb pu<|Zd<|Zv ?_
 show Z0 _ _ (match Zcj lo hi 1 (n:Int)with|(lo,hi)=>pure (lo,(1:Int),Zb6 lo hi 1)) _ _ s
 rw[Jpx lo hi n]
 show Z0 _ _ (pure (((sIx n 0 lo:Nat):Int),(1:Int),Zb6 ((sIx n 0 lo:Nat):Int) ((sIx n n hi:Nat):Int) 1)) _ _ s
 rw[Jqs]
 exact Zv h
theorem pick_gen(xs:Tf)(i k:Nat):((ZM k).filterMap λ(m:Nat)=>xs[((i:Int)+(m:Int)*1).toNat]?).toArray=((xs.toList.drop i).take k).toArray:=by
 have e:(λ(m:Nat)=>xs[((i:Int)+(m:Int)*1).toNat]?)=λm=>xs[i+m]?:=by
  funext m
  have:((i:Int)+(m:Int)*1).toNat=i+m:=00
  rw[this]
 rw[e]
 have:=pick_run xs i k
 rw[List.filterMap_map]at this
 have e2:((λx=>xs[x]?)∘λx=>i+x)=λm=>xs[i+m]?:=rfl
 rw[e2]at this
 rw[this]
end
end HT
namespace L2
open PySem PySem.Spec PyProof.Rows
abbrev TO:=St->Hp->(Wv->Hp->Prop)->Prop
section
variable{X:Cx}{e:Expr}{te:TE}{lo hi:Wr}{tl th:TO}{pos p2:Pos}
def SlR(X:Cx)(r:V->Wv->Wv->Hp->VK->Prop):Prop:=
 ∀(pj:PnT)(s:Zn)(σ:St)(H:Hp)(x:V)(v vl vu:Ze)(lo hi:Wv)(sl:Zq)(Q:VK),Inv X pj σ H s->RelV x v->s.heap.IsSliceOf sl vl vu .none->Zdv vl lo->Zdv vu hi->r x lo hi H Q ->
  ∃T id,typeLookup (.type T) "__getitem__"=pure (Za<|.builtin id)/\s.TypeIs v T/\Z0 (Z9 X.prog X.w) X.A (Zdp v<|.ref sl) (EP X pj σ Q) X.xe s
def cutV(xs:Tu)(lo hi:Wv):Tu:=(xs.drop<|HT.sIx xs.length 0 lo).take<|HT.sIx xs.length xs.length hi-HT.sIx xs.length 0 lo
theorem Jhl(xs:Tu)(lo hi:Wv):(cutV xs lo hi).length<=xs.length:=by
 unfold cutV
 rw[Zaa,ZaF]
 omega
def J56(K:W.Frag):R2:=λx y H Q=>∃a b xs ys,x=.ref a/\y=.ref b/\SqT K H a xs/\SqT K H b ys/\xs≠[]/\xs.length+ys.length<=sizeLine /\
 (ys=[]->Q (.ref a) H)/\(ys≠[]->∀p,H p=Zc->Q (.ref p) (upd H p<|.tup<|xs++ys))
theorem Vals.nil_iff{xs:Tu}{us:To}(r:Vals xs us):us=[]↔xs=[]:=by
 cases r with
 |nil=>simp
 |cons _ _=>simp
theorem Jz9:OpR X (ZaS .Add) (J56 X.K):=by
 intro pj s σ H x y v u Q I rx ry h
 obtain⟨a,b,xs,ys,rfl,rfl,ha,hb,hx,hz,q1,q2⟩:=h
 cases rx
 cases ry
 obtain⟨its,r1,p1,_⟩:=I.tuple ha
 obtain⟨its2,r2,p2,_⟩:=I.tuple hb
 refine HT.cat_tup p1 p2 (λz=>hx<|r1.nil_iff.mp z) (λz=>⟨.ref a,H,I,rfl,q1<|r2.nil_iff.mp z⟩) (λz=>?_)<|by rw[<-r1.length,<-r2.length];exact hz
 refine⟨.ref s.heap.objs.size,_,I.laid (t':=s.toks) (o:=.tup<|xs++ys) (λb ob q=>Zj _ q) (Zm _) ?_,rfl,q2 (λw=>z<|r2.nil_iff.mpr w) _<|I.hok.fresh<|Zm _⟩
 exact⟨by rw[Zs];exact hz,_,r1.append r2,IsTup.new _ _⟩
end
noncomputable def ixN (n:Nat)(i:Int):Ww:=if 0<=i then(if i<n then Za i.toNat else Zc)else if -(n:Int)<=i then Za (i+n).toNat else Zc
noncomputable def atI {α:Type}(xs:List α)(i:Int):Option α:=(ixN xs.length i).bind λj=>xs[j]?
theorem Jsk{n:Nat}{i:Int}{j:Nat}(h:ixN n i=Za j):seqIndex? i n=Za j/\j<n/\ -(n:Int)<=i/\i<n:=by
 unfold ixN at h
 by_cases h0:0<=i
 ·rw[if_pos h0]at h
  by_cases h1:i<n
  ·rw[if_pos h1]at h
   have e:i.toNat=j:=Zaq h
   exact⟨by rw[Zes h0 h1,e],00,00,h1⟩
  ·rw[if_neg h1]at h;cases h
 ·rw[if_neg h0]at h
  by_cases h1: -(n:Int)<=i
  ·rw[if_pos h1]at h
   have e:(i+n).toNat=j:=Zaq h
   exact⟨by rw[ZeJ 00 h1,e],00,h1,00⟩
  ·rw[if_neg h1]at h;cases h
theorem Jjf{α:Type}{xs:List α}{i:Int}{v:α}(h:atI xs i=Za v):∃j,seqIndex? i xs.length=Za j/\xs[j]?=Za v/\j<xs.length/\ -(xs.length:Int)<=i/\i<xs.length:=by
 unfold atI at h
 cases e:ixN xs.length i with
 |none=>rw[e]at h;cases h
 |some j=>
  rw[e]at h
  obtain⟨h1,h2,h3,h4⟩:=Jsk e
  exact⟨j,h1,h,h2,h3,h4⟩
def Jq6(b:Expr):Prop:=∀o i,Zet b Zk o i=operate [o,i] (Zdp o i)
def IxR(X:Cx)(r:R2):Prop:=
 ∀(value slice:Expr)(pj:PnT)(s:Zn)(σ:St)(H:Hp)(x y:V)(v u:Ze)(Q:VK),Inv X pj σ H s->RelV x v->RelV y u->r x y H Q ->
  Zet slice Zk v u=operate [v,u] (Zdp v u)->Z0 (Z9 X.prog X.w) X.A (ZdC value slice v u) (EP X pj σ Q) X.xe s
section
variable{X:Cx}{a b:Expr}{ta tb:TE}{pos:Pos}
def rIxL(K:W.Frag):R2:=λx y H Q=>∃p xs i v,x=.ref p/\y=.int i/\SqL K H p xs/\atI xs i=Za v/\Q v H
def rIxT(K:W.Frag):R2:=λx y H Q=>∃p xs i v,x=.ref p/\y=.int i/\SqT K H p xs/\atI xs i=Za v/\Q v H
def rIxS:R2:=λx y H Q=>∃z i c,x=.str z/\y=.int i/\z.length<=sizeLine/\atI z.cps.toList i=Za c/\Q (.str ⟨#[c]⟩) H
theorem Jsl:IxR X (rIxL X.K):=by
 intro value slice pj s σ H x y v u Q I rx ry h hs
 obtain⟨p,xs,i,z,rfl,rfl,hq,he,q⟩:=h
 cases rx
 obtain⟨t,rfl⟩:=ry
 obtain⟨its,r,pl,hz⟩:=I.list hq
 obtain⟨j,h1,h2,h3,h4,h5⟩:=Jjf he
 obtain⟨w,ew,rw'⟩:=r.get h2
 have hl:=r.length
 have hn:=Xm
 have fin:EP X pj σ Q w s:=⟨z,H,I,rw',q⟩
 by_cases h0:0<=i
 ·have hj:i.toNat=j:=by
   rw[Zes h0 h5]at h1
   exact Zaq h1
  exact item_listR pl.isList h0 00 (by rw[hj];simpa using ew) fin hs
 ·have hj:(i+(its.toArray.size:Int)).toNat=j:=by
   rw[ZeJ 00 h4]at h1
   rw[Zt,<-hl]
   exact Zaq h1
  exact Zc8 (x:=w) pl.isList.typeIs slot_list_getitem.lookup
   (wpAny_getItem_list_neg (Q:=λr s'=>r=w/\EP X pj σ Q r s') pl.isList 00 (by rw[Zt]<;>omega) 00 (by rw[hj];simpa using ew) ⟨rfl,fin⟩) hs
theorem J2x:IxR X (rIxT X.K):=by
 intro value slice pj s σ H x y v u Q I rx ry h hs
 obtain⟨p,xs,i,z,rfl,rfl,hq,he,q⟩:=h
 cases rx
 obtain⟨t,rfl⟩:=ry
 obtain⟨its,r,pl,hz⟩:=I.tuple hq
 obtain⟨j,h1,h2,h3,h4,h5⟩:=Jjf he
 obtain⟨w,ew,rw'⟩:=r.get h2
 have hl:=r.length
 have hn:=Xm
 have fin:EP X pj σ Q w s:=⟨z,H,I,rw',q⟩
 exact Zc8 (x:=w) pl.typeIs slot_tuple_getitem.lookup
  (getItem_tuple (j:=j) (Q:=λr s'=>r=w/\EP X pj σ Q r s') pl 00 00 (by rw[Zt,<-hl];exact h1) (by simpa using ew) ⟨rfl,fin⟩) hs
theorem J2w:IxR X rIxS:=by
 intro value slice pj s σ H x y v u Q I rx ry h hs
 obtain⟨z,i,c,rfl,rfl,hz,he,q⟩:=h
 obtain⟨t,rfl⟩:=rx
 obtain⟨t',rfl⟩:=ry
 obtain⟨j,h1,h2,h3,h4,h5⟩:=Jjf he
 have hl:z.cps.toList.length=z.length:=by simp[ZdY]
 rw[hl]at h1 h4 h5
 have hn:=Xm
 exact tail_any (typeIs_str s z t) slot_str_getitem.lookup (getItem_str (c:=c) (by
  have e1:decide (i< -(2^63:Int))=Zk:=decide_eq_false 00
  have e2:decide (i ≥ 2^63)=Zk:=decide_eq_false 00
  rw[e1,e2,Bool.or_false]) (by rw[h1];simpa using h2) ⟨.str ⟨#[c]⟩,H,I.tok _,⟨_,rfl⟩,q⟩) hs
theorem Jqo(its:To)(n j:Nat)(u:Ze):Zao (·.setIfInBounds j u) {cls:=.type "list",data:=.seq its.toArray n}={cls:=.type "list",data:=.seq (its.set j u).toArray n}:=by
 simp[Zao]
theorem Inv.lst{pj:PnT}{σ:St}{H:Hp}{s:Zn}{p:Zq}{xs:Tu}(I:Inv X pj σ H s)(h:H p=Za (.lst xs)):
  ∃(its:To) (n:Nat),Vals xs its/\s.heap.get? p=Za {cls:=.type "list",data:=.seq its.toArray n}/\xs.length<=sizeLine:=by
 obtain⟨z,its,n,r,e⟩:=I.hok p _ h
 exact⟨its,n,r,e,z⟩
theorem Inv.lstUpd{pj:PnT}{σ:St}{H:Hp}{s:Zn}{p:Zq}{xs ys:Tu}{its its':To}{n n':Nat}{f:Obj->Obj}(I:Inv X pj σ H s)(h:H p=Za (.lst xs))
  (ho:s.heap.get? p=Za {cls:=.type "list",data:=.seq its.toArray n})(hf:f {cls:=.type "list",data:=.seq its.toArray n}={cls:=.type "list",data:=.seq its'.toArray n'})(r:Vals ys its')(hz:ys.length<=sizeLine)(t:Nat):
  Inv X pj σ (upd H p<|.lst ys) {s with heap:=s.heap.update p f,toks:=t}:=by
 have e:(s.heap.update p f).get? p=Za {cls:=.type "list",data:=.seq its'.toArray n'}:=by
  rw[ZcJ f ho (by rw[hf]<;>rfl),hf]
 refine I.write (x:=p) (e:=p) (by rw[h];trivial) (.inl rfl) (λb u hb q=>(ZI _ _<|Zab hb).trans q) ⟨_,e⟩ ?_
 exact⟨hz,its',n',r,e⟩
def J57:V->V->V->Hp->(Hp->Prop)->Prop:=λo i v H Q=>∃p xs k j,o=.ref p/\i=.int k/\H p=Za (.lst xs)/\ixN xs.length k=Za j/\Q (upd H p<|.lst<|xs.set j v)
theorem Jwf:PSet X J57:=by
 intro pj s σ H o i v ov iv u Q I ro ri rv h
 obtain⟨p,xs,k,j,rfl,rfl,hp,hj,q⟩:=h
 cases ro
 obtain⟨t,rfl⟩:=ri
 obtain⟨its,n,r,ho,hz⟩:=I.lst hp
 obtain⟨h1,h2,h3,h4⟩:=Jsk hj
 have hl:=r.length
 have hn:=Xm
 have I':Inv X pj σ (upd H p<|.lst<|xs.set j v) {s with heap:=s.heap.update p (Zao (·.setIfInBounds j u))}:=
  I.lstUpd hp ho (Jqo its n j u) (r.set rv j) (by rw[Zbu];exact hz) s.toks
 by_cases h0:0<=k
 ·have hk:k.toNat=j:=by
   rw[Zes h0 h4]at h1
   exact Zaq h1
  exact W.ki_setAt ho h0 00 (by rw[Zt,<-hl];exact h4)<|by rw[hk];exact⟨_,I',q⟩
 ·have hk:(k+(its.toArray.size:Int)).toNat=j:=by
   rw[ZeJ 00 h3]at h1
   rw[Zt,<-hl]
   exact Zaq h1
  exact W.ki_setBack ho 00 (by rw[Zt,<-hl];exact h3) 00<|by rw[hk];exact⟨_,I',q⟩
theorem Jm2(lo hi:Wv)(n:Nat):(Zcy lo hi Zc n).1=((HT.sIx n 0 lo:Nat):Int)/\(Zcy lo hi Zc n).2.1=((HT.sIx n n hi:Nat):Int)/\(Zcy lo hi Zc n).2.2=1:=by
 refine⟨?_,?_,rfl⟩
 ·cases lo with
  |none=>simp[Zcy,HT.sIx]
  |some i=>
   simp only[Zcy,HT.sIx,Option.getD_none,show(1:Int)>0 by decide,if_true]
   by_cases h:i<0
   ·simp only[h,if_true]<;>omega
   ·simp only[h,if_false]<;>omega
 ·cases hi with
  |none=>simp[Zcy,HT.sIx]
  |some i=>
   simp only[Zcy,HT.sIx,Option.getD_none,show(1:Int)>0 by decide,if_true]
   by_cases h:i<0
   ·simp only[h,if_true]<;>omega
   ·simp only[h,if_false]<;>omega
theorem Jkn(its:To)(lo hi:Wv):slicePick its.toArray lo hi Zc=((its.drop<|HT.sIx its.length 0 lo).take<|HT.sIx its.length its.length hi-HT.sIx its.length 0 lo).toArray:=by
 obtain⟨h1,h2,h3⟩:=Jm2 lo hi its.toArray.size
 unfold slicePick
 rw[h1,h2,h3]
 simp only[sliceRange_one,pick_run,Zt]<;>rfl
def rSlL(K:W.Frag):V->Wv->Wv->Hp->VK->Prop:=λx lo hi H Q=>∃a xs,x=.ref a/\SqL K H a xs/\∀p,H p=Zc->Q (.ref p) (upd H p<|.lst<|cutV xs lo hi)
theorem Jtl:SlR X (rSlL X.K):=by
 intro pj s σ H x v vl vu lo hi sl Q I rx hs pl pu h
 obtain⟨a,xs,rfl,hx,q⟩:=h
 cases rx
 obtain⟨its,r,ht,hz⟩:=I.list hx
 have hlen:=r.length
 refine⟨"list",_,slot_list_getitem.lookup,ht.isList.typeIs,?_⟩
 refine wpAny_getItem_list_slice ht.isList hs pl pu .none 03 ?_<|by rw[Zt]<;>omega
 rw[Jkn,<-hlen]
 refine⟨.ref s.heap.objs.size,_,I.laid (t':=s.toks) (o:=.lst<|cutV xs lo hi) (λb ob q=>Zj _ q) (Zm _) ?_,rfl,q _<|I.hok.fresh<|Zm _⟩
 exact⟨ZW (Jhl xs lo hi) hz,_,0,(r.drop<|HT.sIx xs.length 0 lo).take<|HT.sIx xs.length xs.length hi-HT.sIx xs.length 0 lo,Z2 _ rfl⟩
theorem Jc7:VN X (.type "list") (λxs H Q=>∃p ys,xs=[.ref p]/\(SqL X.K H p ys∨SqT X.K H p ys)/\∀l,H l=Zc->Q (.ref l) (upd H l<|.lst ys)):=by
 intro pj s σ H xs us Q I r h
 obtain⟨p,ys,rfl,hq,q⟩:=h
 obtain⟨u,rfl,rx⟩:=Qn r
 cases rx
 have fin:∀(its:To),Vals ys its->ys.length<=sizeLine->∀(h':Zax)(c':Nat),(∀b o',s.heap.get? b=Za o'->h'.get? b=Za o') ->
   h'.get? s.heap.objs.size=Za {cls:=.type "list",dict:=Zc,data:=.seq its.toArray c',slots:=#[]}->EP X pj σ Q (.ref s.heap.objs.size) {s with heap:=h'}:=λits r' hz h' c' kp e=>
  ⟨.ref s.heap.objs.size,_,I.laid (t':=s.toks) kp (Zm _) (show JQ X.prog X.w _ h' _ (.lst ys)from⟨hz,its,c',r',e⟩),rfl,q _<|I.hok.fresh<|Zm _⟩
 rcases hq with hq|hq
 ·obtain⟨its,r',pl,hz⟩:=I.list hq
  have hlen:=r'.length
  obtain⟨o,ho,hc,n,hd⟩:=pl.isList
  exact call_list_seq p (.inl rfl) ho hc hd (λh' c' kp e=>fin its r' hz h' c' kp e)<|by simp only[Zt]<;>omega
 ·obtain⟨its,r',pl,hz⟩:=I.tuple hq
  have hlen:=r'.length
  obtain⟨o,ho,hc,n,hd⟩:=pl
  exact call_list_seq p (.inr rfl) ho hc hd (λh' c' kp e=>fin its r' hz h' c' kp e)<|by simp only[Zt]<;>omega
theorem Je9:VN X (.type "tuple") (λxs H Q=>∃p ys,xs=[.ref p]/\((SqL X.K H p ys/\∀l,H l=Zc->Q (.ref l) (upd H l<|.tup ys))∨(SqT X.K H p ys/\Q (.ref p) H))):=by
 intro pj s σ H xs us Q I r h
 obtain⟨p,ys,rfl,h⟩:=h
 obtain⟨u,rfl,rx⟩:=Qn r
 cases rx
 rcases h with⟨hq,q⟩|⟨hq,q⟩
 ·obtain⟨its,r',pl,hz⟩:=I.list hq
  have hlen:=r'.length
  refine call_tuple_list pl.isList (λh' kp=>?_)<|by simp only[Zt]<;>omega
  have I1:Inv X pj σ H {s with heap:=h'}:=I.kept (t':=s.toks) kp
  have I2:Inv X pj σ (upd H h'.objs.size<|.tup ys) {s with heap:=h'.push {cls:=.type "tuple",data:=.seq its.toArray} }:=
   I1.laid (t':=s.toks) (λb o e=>Zj _ e) (Zm _) (show JQ X.prog X.w _ _ _ (.tup ys)from⟨hz,its,r',IsTup.new _ _⟩)
  exact⟨.ref h'.objs.size,_,I2,rfl,q _<|I1.hok.fresh<|Zm _⟩
 ·obtain⟨its,r',pl,hz⟩:=I.tuple hq
  exact call_tuple_same pl ⟨.ref p,H,I,rfl,q⟩
def tyV(K:W.Frag)(T:String)(x:V)(H:Hp):Prop:=match x with
 |.str _=>T="str"
 |.int _=>T="int"
 |.ref p=>(T="list"/\∃xs,SqL K H p xs)∨(T="tuple"/\∃o,K.lookup p=Za o/\o.cls=.type "tuple"/\o.dict=Zc) ∨
   (T="dict"/\((∃kvs,H p=Za (.dK kvs))∨∃kvs,H p=Za (.dT kvs)))∨(T="set"/\∃S n,H p=Za (.set S n))
 |_=>False
theorem Jyb{pj:PnT}{σ:St}{H:Hp}{s:Zn}{T:String}{x:V}{v:Ze}(I:Inv X pj σ H s)(r:RelV x v)(ty:tyV X.K T x H):
  s.TypeIs v T/\∀a,v=.ref a->∃ob,s.heap.get? a=Za ob/\ob.dict=Zc:=by
 cases x with
 |str z=>
  obtain⟨t,rfl⟩:=r
  cases (show T="str" from ty)
  exact⟨typeIs_str s z t,λ_ e=>nomatch e⟩
 |int i=>
  obtain⟨t,rfl⟩:=r
  cases (show T="int" from ty)
  exact⟨typeIs_int s i t,λ_ e=>nomatch e⟩
 |ref p=>
  cases r
  rcases ty with⟨rfl,xs,hq⟩|⟨rfl,o,hk,hc,hd⟩|⟨rfl,hk⟩|⟨rfl,S,n,hk⟩
  ·obtain⟨its,_,pl,_⟩:=I.list hq
   refine⟨pl.isList.typeIs,λa e=>?_⟩
   cases e
   obtain⟨o,n,e,c,hd,_⟩:=pl
   exact⟨o,e,hd⟩
  ·refine⟨⟨o,I.kIn p o hk,hc⟩,λa e=>?_⟩
   cases e
   exact⟨o,I.kIn _ o hk,hd⟩
  ·have z:∃o,s.heap.get? p=Za o/\o.ExactDict:=by
    rcases hk with⟨kvs,hk⟩|⟨kvs,hk⟩
    ·obtain⟨_,_,_,_,o,_,_,e,ex,_⟩:=I.hok p _ hk
     exact⟨o,e,ex⟩
    ·obtain⟨_,_,_,_,o,_,_,e,ex,_⟩:=I.hok p _ hk
     exact⟨o,e,ex⟩
   obtain⟨o,e,ex⟩:=z
   refine⟨⟨o,e,ex.1⟩,λa e2=>?_⟩
   cases e2
   exact⟨o,e,ex.2.1⟩
  ·obtain⟨o,_,_,_,e,ex,_⟩:=I.hok p _ hk
   refine⟨⟨o,e,ex.1⟩,λa e2=>?_⟩
   cases e2
   exact⟨o,e,ex.2.1⟩
 |_=>exact Zbt ty
variable{o e:Expr}{es:Ta}{to:TE}{t:TA}{name:Str}{apos cpos:Pos}{T id:String}{r:V->Tu->Hp->VK->Prop}
end
def MtM(X:Cx)(id:String)(r:V->Tu->Hp->VK->Prop):Prop:=
 ∀(pj:PnT)(s:Zn)(σ:St)(H:Hp)(x:V)(xs:Tu)(v:Ze)(us:To)(Q:VK),Inv X pj σ H s->RelV x v->Vals xs us->r x xs H Q ->
  Z0 (Z9 X.prog X.w) X.A (call (.builtin id)<|v::us) (EP X pj σ Q) X.xe s
theorem Vals.one{x:V}{us:To}(h:Vals [x] us):∃u,us=[u]/\RelV x u:=by
 cases h with|cons r e=>cases e;exact⟨_,rfl,r⟩
theorem Vals.zero:∀{us:To},Vals [] us->us=[]
 |_,.nil=>rfl
theorem Vals.dropLast{xs:Tu}{us:To}(h:Vals xs us):Vals xs.dropLast us.dropLast:=by
 induction h with
 |nil=>exact .nil
 |cons r t ih=>
  cases t with
  |nil=>exact .nil
  |cons q t'=>exact .cons r ih
theorem Vals.eraseIdx:∀{xs:Tu}{us:To}(i:Nat),Vals xs us->Vals (xs.eraseIdx i) (us.eraseIdx i)
 |_,_,_,.nil=>.nil
 |_,_,0,.cons _ t=>t
 |_,_,i+1,.cons r t=>.cons r<|Vals.eraseIdx i t
theorem Vals.reverse{xs:Tu}{us:To}(h:Vals xs us):Vals xs.reverse us.reverse:=by
 induction h with
 |nil=>exact .nil
 |cons r t ih=>rw[ZaM,ZaM];exact Vals.append ih<|.cons r .nil
theorem Vals.rep{xs:Tu}{us:To}(h:Vals xs us):∀k:Nat,Vals (ZU k xs).flatten (ZU k us).flatten
 |0=>.nil
 |k+1=>by
  rw[Zbc,Zbc,Zb9,Zb9]
  exact Vals.append h<|Vals.rep h k
theorem Jp4{α:Type}(l:List α):l.eraseIdx (l.length-1)=l.dropLast:=by
 induction l with
 |nil=>rfl
 |cons a r ih=>
  cases r with
  |nil=>rfl
  |cons b r=>
   have e:(a::b::r).length-1=((b::r).length-1)+1:=by
    have h1:(a::b::r).length=r.length+2:=rfl
    have h2:(b::r).length=r.length+1:=rfl
    omega
   rw[e,List.eraseIdx_cons_succ,ih]
   all_goals rfl
theorem Jma{α:Type}:∀(l:List α)(i:Nat),(l.eraseIdx i).length<=l.length
 |[],_=>Zm _
 |_::_,0=>ZaU _
 |_::r,i+1=>ZcN<|Jma r i
theorem Jlr(its:To):∀(k:Nat)(acc:To),
  List.foldl (λx1 x2=>x1++x2) acc.toArray (ZU k its.toArray)=(acc++(ZU k its).flatten).toArray
 |0,acc=>03
 |k+1,acc=>by
  have e:acc.toArray++its.toArray=(acc++its).toArray:=03
  have e2:(acc++its)++(ZU k its).flatten=acc++(ZU (k+1) its).flatten:=by
   rw[Zbc,Zb9,Zac]
  rw[<-e2,<-Jlr its k (acc++its),<-e,Zbc,List.foldl_cons]
section
variable{X:Cx}{pj:PnT}{σ:St}{H:Hp}{s:Zn}{l b:Zq}{xs ys zs:Tu}
theorem Inv.lset{its its':To}{n:Nat}{f:Tf->Tf}{t':Nat}(I:Inv X pj σ H s)(hH:H l=Za (.lst xs))
  (e:s.heap.get? l=Za {cls:=.type "list",data:=.seq its.toArray n})(hf:f its.toArray=its'.toArray)(hv:Vals ys its')(hz:ys.length<=sizeLine):
  Inv X pj σ (upd H l<|.lst ys) {s with heap:=s.heap.update l<|Zao f,toks:=t'}:=by
 have q:=PySem.IsL.update e f
 rw[hf]at q
 refine I.write (x:=l) (e:=l) (by rw[hH];exact trivial) (.inl rfl) (λb' u hb hu=>(ZI s.heap (Zao f)<|Zab hb).trans hu) ⟨_,q⟩ ?_
 exact⟨hz,its',_,hv,q⟩
theorem Inv.lnew{its:To}{t':Nat}(I:Inv X pj σ H s)(hv:Vals ys its)(hz:ys.length<=sizeLine):
  Inv X pj σ (upd H s.heap.objs.size<|.lst ys) {s with heap:=s.heap.push {cls:=.type "list",data:=.seq its.toArray},toks:=t'}:=
 I.laid (λ_ _ q=>Zj _ q) (Zm _) ⟨hz,its,0,hv,Z2 _ rfl⟩
theorem Inv.fresh(I:Inv X pj σ H s):H s.heap.objs.size=Zc:=I.hok.fresh<|Zm _
theorem Inv.lstM(I:Inv X pj σ H s)(hH:H l=Za (.lst xs)):xs.length<=sizeLine/\∃(its:To) (n:Nat),Vals xs its/\xs.length=its.length/\s.heap.get? l=Za {cls:=.type "list",data:=.seq its.toArray n}:=by
 obtain⟨z,its,n,r,e⟩:=I.hok l _ hH
 exact⟨z,its,n,r,r.length,e⟩
theorem Joy{n:Nat}(h:n<=sizeLine):ZbE n=Zk:=by
 unfold ZbE
 exact decide_eq_false 00
end
section
variable{X:Cx}
def J0e:V->Tu->Hp->VK->Prop:=λx vs H Q=>∃l xs y,x=.ref l/\vs=[y]/\H l=Za (.lst xs)/\xs.length<sizeLine/\Q .non (upd H l<|.lst<|xs++[y])
theorem Jmd:MtM X "list.append" J0e:=by
 intro pj s σ H x vs v us Q I rx rv h
 obtain⟨l,xs,y,rfl,rfl,hH,hz,q⟩:=h
 cases rx
 obtain⟨u,rfl,ru⟩:=rv.one
 obtain⟨z,its,n,r,hl,e⟩:=I.lstM hH
 refine ZcO F.slot_list_append ⟨_,e,rfl⟩ F.entry_list_append (F.args_list_append_2 _ _) (PySem.list_append l its.toArray n u<|by rw[Zt];omega) ⟨e,?_⟩
 refine⟨.non,_,I.lset (its':=its++[u]) hH e 03 (r.append<|.cons ru .nil) ?_,rfl,q⟩
 rw[Zs,ZaP]
 omega
def J0f:V->Tu->Hp->VK->Prop:=λx vs H Q=>∃l b xs zs,x=.ref l/\vs=[.ref b]/\H l=Za (.lst xs)/\H b=Za (.lst zs)/\xs.length+zs.length<=sizeLine/\Q .non (upd H l<|.lst<|xs++zs)
theorem Js3:MtM X "list.extend" J0f:=by
 intro pj s σ H x vs v us Q I rx rv h
 obtain⟨l,b,xs,zs,rfl,rfl,hH,hB,hz,q⟩:=h
 cases rx
 obtain⟨u,rfl,ru⟩:=rv.one
 cases ru
 obtain⟨z,its,n,r,hl,e⟩:=I.lstM hH
 obtain⟨z2,its2,n2,r2,hl2,e2⟩:=I.lstM hB
 have hsz:its.toArray.size+its2.toArray.size<=sizeLine:=by rw[Zt,Zt];omega
 have hlong:¬(!its.toArray.isEmpty&&ZbE (its.toArray.size+its2.toArray.size))=Zh:=by
  rw[Joy hsz,Bool.and_false]
  exact Zu
 refine ZcO F.slot_list_extend ⟨_,e,rfl⟩ F.entry_list_extend (F.args_list_extend_2 _ _)
  (AutoSeq1.list_extend_list_list_0 l its.toArray n b its2.toArray n2 hlong (by rw[Zt];omega) 00) ⟨e,e2,?_⟩
 refine⟨.non,_,I.lset (its':=its++its2) hH e 03 (r.append r2) ?_,rfl,q⟩
 rw[Zs]
 omega
def rPop:V->Tu->Hp->VK->Prop:=λx vs H Q=>∃l xs y,x=.ref l/\vs=[]/\H l=Za (.lst xs)/\xs[xs.length-1]?=Za y/\Q y (upd H l<|.lst xs.dropLast)
theorem J3a:MtM X "list.pop" rPop:=by
 intro pj s σ H x vs v us Q I rx rv h
 obtain⟨l,xs,y,rfl,rfl,hH,hy,q⟩:=h
 cases rx
 have hus:=rv.zero
 subst hus
 obtain⟨z,its,n,r,hl,e⟩:=I.lstM hH
 obtain⟨u,hu,ru⟩:=r.get hy
 have hy':its.toArray[its.toArray.size-1]?=Za u:=by
  show its.toArray[its.length-1]?=Za u
  rw[<-Zel,<-hl]
  exact hu
 refine ZcO F.slot_list_pop ⟨_,e,rfl⟩ F.entry_list_pop (F.args_list_pop_1 _) (MeetsSeq.list_pop_last l its.toArray n u hy'<|by rw[Zt];omega) ⟨e,?_⟩
 refine⟨y,_,I.lset (its':=its.dropLast) hH e ?_ r.dropLast ?_,ru,q⟩
 ·show its.toArray.eraseIdxIfInBounds (its.toArray.size-1)=its.dropLast.toArray
  rw[Zt,ZcH,Jp4]
 ·rw[List.length_dropLast]
  omega
def J3t:V->Tu->Hp->VK->Prop:=λx vs H Q=>∃l xs,x=.ref l/\vs=[]/\H l=Za (.lst xs)/\Q .non (upd H l<|.lst [])
theorem Jv2:MtM X "list.clear" J3t:=by
 intro pj s σ H x vs v us Q I rx rv h
 obtain⟨l,xs,rfl,rfl,hH,q⟩:=h
 cases rx
 have hus:=rv.zero
 subst hus
 obtain⟨z,its,n,r,hl,e⟩:=I.lstM hH
 refine ZcO F.slot_list_clear ⟨_,e,rfl⟩ F.entry_list_clear (F.args_list_clear_1 _) (AutoSeq1.list_clear_list_0 l its.toArray n<|by rw[Zt];omega) ⟨e,?_⟩
 exact⟨.non,_,I.lset (its':=[]) (ys:=[]) hH e rfl .nil (ZR _),rfl,q⟩
def rCat:R2:=λx y H Q=>∃l b xs zs,x=.ref l/\y=.ref b/\H l=Za (.lst xs)/\H b=Za (.lst zs)/\xs.length+zs.length<=sizeLine/\∀p,H p=Zc->Q (.ref p) (upd H p<|.lst<|xs++zs)
theorem J3f:OpR X (ZaS .Add) rCat:=by
 intro pj s σ H x y v u Q I rx ry h
 obtain⟨l,b,xs,zs,rfl,rfl,hH,hB,hz,q⟩:=h
 cases rx
 cases ry
 obtain⟨z,its,n,r,hl,e⟩:=I.lstM hH
 obtain⟨z2,its2,n2,r2,hl2,e2⟩:=I.lstM hB
 refine PySem.P.add_list e e2 ?_<|by rw[Zt,Zt];omega
 have ea:its.toArray++its2.toArray=(its++its2).toArray:=03
 rw[ea]
 exact⟨.ref _,_,I.lnew (t':=s.toks) (r.append r2) (by rw[Zs];omega),rfl,q _ I.fresh⟩
def rRep:R2:=λx y H Q=>∃l k xs,x=.ref l/\y=.int k/\H l=Za (.lst xs)/\ -(2^63)<=k/\k<2^63/\xs.length*k.toNat<=sizeLine /\
 ∀p,H p=Zc->Q (.ref p) (upd H p<|.lst (ZU k.toNat xs).flatten)
theorem Jzt{α:Type}(xs:List α)(k:Nat):(ZU k xs).flatten.length=k*xs.length:=by
 induction k with
 |zero=>simp
 |succ k ih=>rw[Zbc,Zb9,Zs,ih,Nat.succ_mul,Nat.add_comm]
theorem J3i:OpR X (ZaS .Mult) rRep:=by
 intro pj s σ H x y v u Q I rx ry h
 obtain⟨l,k,xs,rfl,rfl,hH,h1,h2,hz,q⟩:=h
 cases rx
 obtain⟨t,rfl⟩:=ry
 obtain⟨z,its,n,r,hl,e⟩:=I.lstM hH
 have hlen:its.toArray.size*k.toNat<=sizeLine:=by rw[Zt,<-hl];exact hz
 have hcap:¬its.toArray.size*k.toNat>(2^63-1)/8:=by
  have:(sizeLine:Nat)<=(2^63-1)/8:=01
  omega
 have hfit:¬(!Builtin.List.listFitsIndex k)=Zh:=by
  rw[fitsIndex_both h1 h2]
  exact Zu
 have hlong:¬ZbE (its.toArray.size*k.toNat)=Zh:=by
  rw[Joy hlen]
  exact Zu
 have hnew:List.foldl (λx1 x2=>x1++x2) #[] (ZU (if its.toArray.isEmpty=Zh then 0 else k.toNat) its.toArray)=(ZU k.toNat its).flatten.toArray:=by
  have f0:∀m:Nat,List.foldl (λx1 x2=>x1++x2) #[] (ZU m its.toArray)=(ZU m its).flatten.toArray:=λm=>by
   have:=Jlr its m []
   rw[Zaw]at this
   exact this
  rw[f0]
  cases its with
  |nil=>simp
  |cons a r'=>rw[if_neg 03]
 refine wpAny_binaryOp_repeat_ref (T:="list") (U:="int") 01 ⟨_,e,rfl⟩ (λs'=>typeIs_int s' k t) noFill_list_mul F.fills_int_mul F.slot_int_rmul repeat_list F.slot_int_index.lookup
  (ZcO F.slot_int_rmul (typeIs_int s k t) F.entry_int_rmul (F.args_int_rmul_2 _ _) (int___rmul___int_list k t l its.toArray n)
   ⟨e,rfl,⟨_,e,rfl⟩,ZcO F.slot_list_mul ⟨_,e,rfl⟩ F.entry_list_mul (F.args_list_mul_2 _ _) (AutoListH.list___mul___list_int_3 l its.toArray n k t hfit hcap hlong) ⟨e,?_⟩⟩)
 rw[hnew]
 exact⟨.ref _,_,I.lnew (t':=s.toks) (r.rep k.toNat) (by rw[Jzt,Nat.mul_comm];exact hz),rfl,q _ I.fresh⟩
end
section
variable{prog:ZB}{w:ZV}{A:ZN}{E:QvT}{s:Zn}
end
section
variable{X:Cx}
end
section
variable{κ:Type}[DecidableEq κ]
noncomputable def valV (kvs:List<|κ×V)(k:κ):Te:=(kvs.find? λkv=>decide (kv.1=k)).map (·.2)
noncomputable def putK (kvs:List<|κ×V)(k:κ)(v:V):List (κ×V):=
 if (kvs.any λkv=>decide (kv.1=k))=Zh then kvs.map (λkv=>if kv.1=k then(kv.1,v)else kv)else kvs++[(k,v)]
theorem Jku{p:κ×V}{r:List (κ×V)}{k:κ}(e:p.1=k):valV (p::r) k=Za p.2:=by simp[valV,ZbU,e]
theorem Jkt{p:κ×V}{r:List (κ×V)}{k:κ}(e:¬p.1=k):valV (p::r) k=valV r k:=by simp[valV,ZbU,e]
theorem Jpi(k:κ):∀kvs:List<|κ×V,(kvs.any λkv=>decide (kv.1=k))=(valV kvs k).isSome
 |[]=>rfl
 |p::r=>by
  rw[ZbF]
  by_cases e:p.1=k
  ·simp only[Jku e,decide_eq_true e,Bool.true_or,Option.isSome_some]
  ·rw[Jkt e,decide_eq_false e,Bool.false_or];exact Jpi k r
theorem Jno(kvs:List<|κ×V)(k:κ)(v:V):(putK kvs k v).length<=kvs.length+1:=by
 unfold putK
 split
 ·rw[Zg];omega
 ·rw[Zs,ZA,ZaD];omega
theorem RelO.isSome_eq{o:Te}{u:Wx}(r:RelO o u):o.isSome=u.isSome:=by
 cases o with
 |none=>cases u with
  |none=>rfl
  |some _=>exact Zf r
 |some _=>cases u with
  |none=>exact Zf r
  |some _=>rfl
theorem KV.val{kvs:List (κ×V)}{vs:List (κ×Ze)}(r:KV kvs vs)(k:κ):RelO (valV kvs k) (ZeK vs k):=by
 unfold KV at r
 induction r with
 |nil=>exact Zar
 |@cons p q ps qs h t ih=>
  obtain⟨h1,h2⟩:=h
  by_cases e:p.1=k
  ·have e':q.1=k:=h1.symm.trans e
   have b:ZeK (q::qs) k=Za q.2:=by simp[ZeK,ZbU,e']
   rw[Jku e,b];exact h2
  ·have e':¬q.1=k:=λz=>e<|h1.trans z
   have b:ZeK (q::qs) k=ZeK qs k:=by simp[ZeK,ZbU,e']
   rw[Jkt e,b];exact ih
theorem KV.any{kvs:List (κ×V)}{vs:List (κ×Ze)}(r:KV kvs vs)(k:κ):(kvs.any λkv=>decide (kv.1=k))=vs.any λkv=>decide (kv.1=k):=by
 unfold KV at r
 induction r with
 |nil=>rfl
 |cons h t ih=>rw[ZbF,ZbF,ih,h.1]
theorem KV.repl{kvs:List (κ×V)}{vs:List (κ×Ze)}(r:KV kvs vs)(k:κ){y:V}{u:Ze}(ry:RelV y u):
  KV (kvs.map λkv=>if kv.1=k then(kv.1,y)else kv) (vs.map λkv=>if kv.1=k then(kv.1,u)else kv):=by
 unfold KV at r ⊢
 induction r with
 |nil=>exact .nil
 |@cons p q ps qs h t ih=>
  rw[Z1,Z1]
  refine .cons ?_ ih
  obtain⟨h1,h2⟩:=h
  by_cases e:p.1=k
  ·rw[if_pos e,if_pos<|h1.symm.trans e];exact⟨h1,ry⟩
  ·rw[if_neg e,if_neg λz=>e<|h1.trans z];exact⟨h1,h2⟩
theorem KV.put{kvs:List (κ×V)}{vs:List (κ×Ze)}(r:KV kvs vs)(k:κ){y:V}{u:Ze}(ry:RelV y u):KV (putK kvs k y) (stored vs k u):=by
 unfold putK stored
 rw[r.any k]
 by_cases e:(vs.any λkv=>decide (kv.1=k))=Zh
 ·rw[if_pos e,if_pos e];exact r.repl k ry
 ·rw[if_neg e,if_neg e];exact Paired.snoc r ⟨rfl,ry⟩
theorem KV.length{kvs:List (κ×V)}{vs:List (κ×Ze)}(r:KV kvs vs):kvs.length=vs.length:=Ze6 r
end
theorem Jvq{P:ZB}{w:ZV}{k:Key}{u:Ze}(r:RelV (kV k) u):(Vz P w).is k u=Zh:=by
 cases k with
 |inl i=>obtain⟨t,e⟩:=(show ∃t,u=Zcx i t from r);subst e;exact Jnr P w i t
 |inr x=>obtain⟨t,e⟩:=(show ∃t,u=Zez x t from r);subst e;exact Jns P w x t
section
variable{P:ZB}{w:ZV}{H:Hp}{h:Zax}{a:Zq}
theorem J58{u:HO}(ok:HOk P w H h)(e:Rd H a u):JQ P w H h a u:=e.ok ok
theorem J44{kvs:Wp}(ok:HOk P w H h)(e:Rd H a<|.dK kvs):kvs.length<=sizeLine/\(a==Zct)=Zk/\∃vs,KV kvs vs/\h.DictOf (Vz P w) a vs:=
 show JQ P w H h a (.dK kvs)from J58 ok e
theorem Juy{kvs:Wp}(ok:HOk P w H h)(e:H a=Za (.dK kvs)):kvs.length<=sizeLine/\(a==Zct)=Zk/\∃vs,KV kvs vs/\h.DictOf (Vz P w) a vs:=J44 ok<|.inl e
end
section
variable{X:Cx}{pj:PnT}{σ:St}{H:Hp}{s:Zn}{a:Zq}{y v:V}{u r:Ze}{o:Te}{A:ZN}{E:QvT}
theorem Inv.big(I:Inv X pj σ H s):Zct<s.heap.objs.size:=by
 have h:Z5<s.heap.objs.size:=(I.mod.glob.keeps I.bk).lt
 exact Nat.lt_trans 01 h
theorem Jrt{h':Zax}{t':Nat}{ob:HO}(I:Inv X pj σ H s)(mu:Mut<|H a)(hs:Zc2 a s.heap h')(he:∃q,h'.get? a=Za q)(new:JQ X.prog X.w (upd H a ob) h' a ob):
  Inv X pj σ (upd H a ob) {s with heap:=h',toks:=t'}:=
 I.write (x:=a) (e:=a) mu (.inl rfl) (λb q hb z=>(hs.2 b hb).trans z) he new
theorem Jxh{P:ZB}{w:ZV}{H':Hp}{h':Zax}{kvs:Wp}{vs:List (Key×Ze)}(z:kvs.length<=sizeLine)(hd:(a==Zct)=Zk)(rel:KV kvs vs)(dd:h'.DictOf (Vz P w) a vs):
  JQ P w H' h' a (.dK kvs):=⟨z,hd,vs,rel,dd⟩
end
section
variable{X:Cx}{pj:PnT}{σ:St}{H:Hp}{s:Zn}{a:Zq}{kvs:Wp}{k:Key}{u:Ze}{A:ZN}{E:QvT}
end
section
variable{X:Cx}{o i e value:Expr}{pos pos' tpos:Pos}{td ty tv:TE}
end
theorem Jux{P:ZB}{w:ZV}{H:Hp}(h:Zax)(hb:Zct<h.objs.size):JQ P w H (h.push {cls:=.type "dict",data:=.dict #[]}) h.objs.size (.dK []):=
 ⟨ZR _,beq_eq_false_iff_ne.mpr<|Zab<|Z7 hb,[],.nil,Heap.DictOf.new h⟩
section
variable{X:Cx}{pos:Pos}
end
section
variable{X:Cx}{pj:PnT}{σ:St}{H:Hp}{s:Zn}{a:Zq}{y d:V}{u r:Ze}{o:Te}{A:ZN}{E:QvT}
end
section
variable{X:Cx}{o e f:Expr}{apos cpos:Pos}{td ty tx:TE}
end
section
variable{X:Cx}{pj:PnT}{σ:St}{H:Hp}{s:Zn}{a:Zq}{kvs:Wp}{A:ZN}{E:QvT}
end
end L2
namespace Att
open PySem PySem.W PySem.Calls PyProof.Rows
theorem Jhv{P:Params}{h:Zax}:∀(ns:Tk)(vs:To),WellAll P h vs (ns.map WData.int)->Zb4 vs ns:=by
 intro ns
 induction ns with
 |nil=>
  intro vs w
  rw[Zbi]at w
  cases w
  exact .nil
 |cons n ns ih=>
  intro vs w
  rw[Z1]at w
  cases w with
  |cons a b=>
   cases a
   exact .cons _ _<|ih _ b
theorem Jtk{l:OpenLaw}{n:Nat}(hn:l.most=Za n){P:Params}{h:Zax}{args:List WData}{vals:To}
  (hpre:l.row.toRowW.claim.pre args=Zh)(hwl:WellAll P h vals args):
  ∃a vs ns,vals=[Ze0 a]/\args=[WData.list<|ns.map WData.int]/\h.get? a=Za {cls:=.type "list",data:=.seq vs.toArray}/\Zb4 vs ns/\ns.length<=n:=by
 have hsh:WShape.hasAll [] args [.list .int]=Zh:=(pre_splitW hpre).1
 have hc:l.pre.holds [] {args:=args}=Zh:=(pre_splitW hpre).2
 obtain⟨d,r,rfl,h1,h2⟩:=hasAllW_cons hsh
 obtain rfl:=hasAllW_nil h2
 obtain⟨xs,rfl,h3⟩:=hasW_list h1
 obtain⟨ns,rfl⟩:=items_int h3
 have hlen:ns.length<=n:=by
  unfold OpenLaw.pre at hc
  have h4:(WTm.not<|.lt (.lit<|.int (n:Int))<|.len<|.arg 0).holds [] {args:=[.list<|ns.map .int]}=Zh:=by
   have h4:=(holds_andW hc).1
   rw[hn]at h4
   exact h4
  have h5:=condW_of h4<|w_not<|w_lt w_lit<|w_len_list<|w_arg rfl
  rw[Zg]at h5
  refine ZcP λq=>?_
  have q':(n:Int)<((ns.length:Nat):Int):=00
  first
   | (rw[decide_eq_true q']at h5;exact absurd h5 01)
   | (simp at h5;omega)
 cases hwl with
 |cons w1 w2=>
  cases w2
  cases w1 with
  |list ho hall=>exact⟨_,_,ns,rfl,rfl,ho,Jhv ns _ hall,hlen⟩
theorem Jta(l:OpenLaw)(args:List WData):l.row.toRowW.claim.post args (.bool Zh) args=Zh:=
 postW_of (r:=l.row.toRowW) (X:=(Zh==Zh))
  (show WShape.has [] (.bool Zh) .bool=Zh by first|rfl|decide|simp[WShape.has,WShape.arms,WShape.armsAll])
  (show(WTm.eq .res<|.lit<|.bool Zh).value [] {args:=args,res:=Za<|.bool Zh,after:=args}=Za (.bool<|Zh==Zh)from w_eq_bool (w_res rfl) w_lit) rfl
theorem attach_call{l:OpenLaw}{n:Nat}{q:ZB}{loose:Tg}{XP:(Str->Wx)->Zax->Prop}{YP:ZV->Zax->Prop}{d:DefRec}
  (hn:l.most=Za n)(hdf:d.params.defaults=[])
  (call:∀(w:ZV)(s₀ s₁:Zn)(mg mb:Str->Wx)(fa:Zq)(o:Obj)(pm cd doc:Ze)(a:Zq)(vs:To)(ns:Tk),
   Ground q loose [] XP w s₀ mg mb s₁.heap->YP w s₁.heap ->
   s₁.heap.get? fa=Za o->o.data=.func (docDef d.name d.params d.body d.scope pm cd doc)->s₁.heap.CodeRec cd d.name->mg d.name=Za (.ref fa) ->
   s₁.heap.get? a=Za {cls:=.type "list",data:=.seq vs.toArray}->Zb4 vs ns->ns.length<=n->s₁.gens=#[] ->
   Zc4 (Z9 l.prog w) Ze2 (.call (.ref fa) ⟨[.ref a],[]⟩) (λr s'=>r=.ok (.ret<|.bool Zh)/\OldK s₁.heap s'.heap/\s'.os=s₁.os/\Zdo s'.gens) s₁):
  WalkO q loose XP YP l.row.toRowW d [] (λf vs=>PySem.call f vs):=by
 intro w s₀ s₁ mg mb G Y fa o pm cd doc dV kV ho hd hcd hD hmg hg args vals as hpre hlay hrd hwl hlo
 obtain rfl:dV=.none:=Dflts.none hD hdf
 obtain rfl:kV=.none:=Dflts.noKw hD
 obtain⟨a,vs,ns,rfl,rfl,hobj,hints,hlen⟩:=Jtk hn hpre hwl
 refine enter_call<|Zc9 (call w s₀ s₁ mg mb fa o pm cd doc a vs ns G Y ho (fd_plain hd) hcd hmg hobj hints hlen hg) λr s' hq=>?_
 obtain⟨rfl,h2,h3,h4⟩:=hq
 exact⟨.inl ⟨.bool Zh,.bool Zh,[],rfl,λ_=>rfl,.bool Zh,Jta l _,λ_=>⟨List.Pairwise.nil,λ_ hm=>(nomatch hm)⟩⟩,h2,h3,h4⟩
section
variable{prog:ZB}{w:ZV}{A:ZN}{E:QvT}{s:Zn}{K:Frag}
end
end Att
namespace L2
open PySem PySem.Spec PyProof.Rows
theorem Yf:∀{vs:To}{ns:Tk},Zb4 vs ns->Vals (ns.map V.int) vs
 |_,_,.nil=>.nil
 |_,_,.cons n t h=>.cons ⟨t,rfl⟩<|Yf h
noncomputable def JW (s:Zdt)(j:Nat):Zdt:=match s with
 |.ClassDef _ _ _ body _ _ _ _ _ _ _=>body.getD j<|.Pass ⟨0,0,0,0⟩
 |_=>.Pass ⟨0,0,0,0⟩
def Vb(s:Zdt):ZbY:=match s with
 |.FunctionDef _ a _ _ _ _ _ _ _ _=>a
 |_=>{posonlyargs:=[],args:=[],vararg:=Zc,kwonlyargs:=[],kw_defaults:=[],kwarg:=Zc,defaults:=[]}
def Q0(s:Zdt):Ti:=match s with
 |.FunctionDef _ _ b _ _ _ _ _ _ _=>b
 |_=>[]
def JV(s:Zdt):Zbg:=match s with
 |.FunctionDef _ _ _ _ _ _ sc _ _ _=>sc
 |_=>{kind:=.function,names:=[],isGenerator:=Zk,isCoroutine:=Zk}
section
variable{P:ZB}{w:ZV}{K:W.Frag}{mg:Str->Wx}{base:Zax}
end
section
variable{X:Cx}
end
end L2
set_option maxHeartbeats 4000000
namespace L3
open PySem PySem.Spec PyProof.Rows L2
inductive IV where
 |non|bl (b:Bool)|int (i:Int)|str (x:Str)|tup (xs:List IV)|rol (xs:List IV)|ref (i:Nat)
abbrev _root_.Wl:=List<|Str×IV
abbrev _root_.Wm:=List<|Key×IV
abbrev _root_.Tb:=Option IV
abbrev _root_.Tq:=List IV
inductive IX where
 |lst (xs:Tq)
 |ins (c:Str) (fs:Wl)
 |dct (kvs:Wm)
 |exc (c:Str) (fs:Wl)
 |tab (q:Str)
 |hld (c:Str) (fs:Wl)
abbrev IH:=List IX
abbrev ISt:=List<|Tb
inductive Res(α:Type) where
 |ok (a:α) (h:IH)|exc (n:Nat) (h:IH)|stuck
noncomputable def Res.bind {α β:Type}:Res α->(α->IH->Res β)->Res β
 |.ok a h,f=>f a h
 |.exc n h,_=>.exc n h
 |.stuck,_=>.stuck
inductive SRes where
 |next (σ:ISt) (h:IH)|ret (v:IV) (h:IH)|brk (σ:ISt) (h:IH)|cont (σ:ISt) (h:IH)|exc (n:Nat) (σ:ISt) (h:IH)|stuck
def SqR(K:W.Frag)(H:Hp)(a:Zq)(xs:Tu):Prop:=
 (∃o,H a=Za (.frz o<|.lst xs)) ∨
  ∃(o:Obj) (its:Tf) (n:Nat),K.lookup a=Za o/\o.cls=.type "list"/\o.dict=Zc/\o.data=.seq its n/\its.size<=sizeLine/\Vals xs its.toList
theorem SqR.sq{K:W.Frag}{H:Hp}{a:Zq}{xs:Tu}(h:SqR K H a xs):SqL K H a xs:=by
 rcases h with⟨o,h⟩|h
 ·exact .inl<|.inr ⟨o,h⟩
 ·exact .inr h
mutual
def RV(K:W.Frag)(ι:Tp)(H:Hp):IV->V->Prop
 |.non,v=>v=.non
 |.bl b,v=>v=.bl b
 |.int i,v=>v=.int i
 |.str x,v=>v=.str x
 |.tup xs,v=>∃a vs,v=.ref a/\SqT K H a vs/\RVs K ι H xs vs
 |.rol xs,v=>∃a vs,v=.ref a/\SqR K H a vs/\RVs K ι H xs vs
 |.ref i,v=>∃a,v=.ref a/\ι[i]?=Za a
def RVs(K:W.Frag)(ι:Tp)(H:Hp):Tq->Tu->Prop
 |[],vs=>vs=[]
 |x::xs,vs=>∃v r,vs=v::r/\RV K ι H x v/\RVs K ι H xs r
end
structure Ext(H H':Hp):Prop where
 tups:∀b xs,H b=Za (.tup xs)->H' b=Za (.tup xs)
 frzs:∀b o u,H b=Za (.frz o u)->H' b=Za (.frz o u)
structure Nxt(ι:Tp)(H:Hp)(ι':Tp)(H':Hp):Prop where
 pre:∃m,ι'=ι++m
 ext:Ext H H'
theorem Nxt.refl:Nxt ι H ι H:=⟨⟨[],03⟩,⟨λ_ _ h=>h,λ_ _ _ h=>h⟩⟩
theorem Nxt.trans(a:Nxt ι H ι1 H1)(b:Nxt ι1 H1 ι2 H2):Nxt ι H ι2 H2:=by
 obtain⟨⟨m,e⟩,x⟩:=a
 obtain⟨⟨m',e'⟩,y⟩:=b
 exact⟨⟨m++m',by rw[e',e,Zac]⟩,⟨λb xs h=>y.tups b xs<|x.tups b xs h,λb o u h=>y.frzs b o u<|x.frzs b o u h⟩⟩
theorem Nxt.at(n:Nxt ι H ι' H'){i:Nat}(h:ι[i]?=Za a):ι'[i]?=Za a:=by
 obtain⟨⟨m,e⟩,_⟩:=n
 subst e
 rw[ZE (Zr.mp h).1]
 exact h
theorem Ext.rd(x:Ext H H')(h:Rd H a<|.tup xs):Rd H' a (.tup xs):=by
 rcases h with h|⟨o,h⟩
 ·exact .inl<|x.tups _ _ h
 ·exact .inr ⟨o,x.frzs _ _ _ h⟩
theorem Ext.sqT{K:W.Frag}{H H':Hp}(x:Ext H H'){a:Zq}{xs:Tu}(h:SqT K H a xs):SqT K H' a xs:=by
 rcases h with h|h
 ·exact .inl<|x.rd h
 ·exact .inr h
theorem Ext.sqR{K:W.Frag}{H H':Hp}(x:Ext H H'){a:Zq}{xs:Tu}(h:SqR K H a xs):SqR K H' a xs:=by
 rcases h with⟨o,h⟩|h
 ·exact .inl ⟨o,x.frzs _ _ _ h⟩
 ·exact .inr h
mutual
theorem RV.mono{K:W.Frag}{ι ι':Tp}{H H':Hp}(n:Nxt ι H ι' H'):∀(x:IV)(v:V),RV K ι H x v->RV K ι' H' x v
 |.non,_,h=>h
 |.bl _,_,h=>h
 |.int _,_,h=>h
 |.str _,_,h=>h
 |.tup xs,_,h=>by
  obtain⟨a,vs,e,q,r⟩:=h
  exact⟨a,vs,e,n.ext.sqT q,RVs.mono n xs vs r⟩
 |.rol xs,_,h=>by
  obtain⟨a,vs,e,q,r⟩:=h
  exact⟨a,vs,e,n.ext.sqR q,RVs.mono n xs vs r⟩
 |.ref i,_,h=>by
  obtain⟨a,e,q⟩:=h
  exact⟨a,e,n.at q⟩
theorem RVs.mono{K:W.Frag}{ι ι':Tp}{H H':Hp}(n:Nxt ι H ι' H'):∀(xs:Tq)(vs:Tu),RVs K ι H xs vs->RVs K ι' H' xs vs
 |[],_,h=>h
 |x::xs,_,h=>by
  obtain⟨v,r,e,q,t⟩:=h
  exact⟨v,r,e,RV.mono n x v q,RVs.mono n xs r t⟩
end
theorem RVs.length{K:W.Frag}{ι:Tp}{H:Hp}:∀{xs:Tq}{vs:Tu},RVs K ι H xs vs->vs.length=xs.length
 |[],_,h=>by
  have e:_=[]:=h
  subst e
  rfl
 |x::xs,_,h=>by
  obtain⟨v,r,e,_,t⟩:=h
  subst e
  simp[RVs.length t]
theorem RVs.get{K:W.Frag}{ι:Tp}{H:Hp}:∀{xs:Tq}{vs:Tu}{i:Nat}{x:IV},RVs K ι H xs vs->xs[i]?=Za x->∃v,vs[i]?=Za v/\RV K ι H x v
 |[],_,_,_,_,e=>by simp at e
 |x::xs,_,0,y,h,e=>by
  obtain⟨v,r,e1,q,t⟩:=h
  subst e1
  simp at e
  subst e
  exact⟨v,rfl,q⟩
 |x::xs,_,i+1,y,h,e=>by
  obtain⟨v,r,e1,q,t⟩:=h
  subst e1
  obtain⟨u,h1,h2⟩:=RVs.get (i:=i) (x:=y) t<|by simpa using e
  exact⟨u,by simpa using h1,h2⟩
theorem RVs.get'{K:W.Frag}{ι:Tp}{H:Hp}{xs:Tq}{vs:Tu}{i:Nat}{v:V}(h:RVs K ι H xs vs)(e:vs[i]?=Za v):∃x,xs[i]?=Za x/\RV K ι H x v:=by
 have hl:=h.length
 have hi:i<vs.length:=(Zr.mp e).1
 have hx:xs[i]?=Za xs[i]:=Zb 00
 obtain⟨u,h1,h2⟩:=h.get hx
 rw[e]at h1
 cases h1
 exact⟨_,hx,h2⟩
theorem RVs.append{K:W.Frag}{ι:Tp}{H:Hp}:∀{xs ys:Tq}{vs us:Tu},RVs K ι H xs vs->RVs K ι H ys us->RVs K ι H (xs++ys) (vs++us)
 |[],_,_,_,h,g=>by
  have e:_=[]:=h
  subst e
  exact g
 |x::xs,_,_,_,h,g=>by
  obtain⟨v,r,e,q,t⟩:=h
  subst e
  exact⟨v,_,rfl,q,RVs.append t g⟩
theorem RVs.take{K:W.Frag}{ι:Tp}{H:Hp}:∀{xs:Tq}{vs:Tu}(n:Nat),RVs K ι H xs vs->RVs K ι H (xs.take n) (vs.take n)
 |_,_,0,_=>by simp;exact rfl
 |[],_,n+1,h=>by
  have e:_=[]:=h
  subst e
  exact rfl
 |x::xs,_,n+1,h=>by
  obtain⟨v,r,e,q,t⟩:=h
  subst e
  exact⟨v,r.take n,rfl,q,RVs.take n t⟩
theorem RVs.drop{K:W.Frag}{ι:Tp}{H:Hp}:∀{xs:Tq}{vs:Tu}(n:Nat),RVs K ι H xs vs->RVs K ι H (xs.drop n) (vs.drop n)
 |_,_,0,h=>h
 |[],_,n+1,h=>by
  have e:_=[]:=h
  subst e
  exact rfl
 |x::xs,_,n+1,h=>by
  obtain⟨v,r,e,q,t⟩:=h
  subst e
  exact RVs.drop n t
theorem RVs.set{K:W.Frag}{ι:Tp}{H:Hp}{x:IV}{v:V}(q:RV K ι H x v):∀{xs:Tq}{vs:Tu}(i:Nat),RVs K ι H xs vs->RVs K ι H (xs.set i x) (vs.set i v)
 |[],_,_,h=>by
  have e:_=[]:=h
  subst e
  exact rfl
 |y::xs,_,0,h=>by
  obtain⟨u,r,e,_,t⟩:=h
  subst e
  exact⟨v,r,rfl,q,t⟩
 |y::xs,_,i+1,h=>by
  obtain⟨u,r,e,p,t⟩:=h
  subst e
  exact⟨u,r.set i v,rfl,p,RVs.set q i t⟩
theorem RVs.one{K:W.Frag}{ι:Tp}{H:Hp}{x:IV}{v:V}(q:RV K ι H x v):RVs K ι H [x] [v]:=⟨v,[],rfl,q,rfl⟩
theorem RVs.rev{K:W.Frag}{ι:Tp}{H:Hp}:∀{xs:Tq}{vs:Tu},RVs K ι H xs vs->RVs K ι H xs.reverse vs.reverse
 |[],_,h=>by
  have e:_=[]:=h
  subst e
  exact rfl
 |x::xs,_,h=>by
  obtain⟨v,r,e,q,t⟩:=h
  subst e
  rw[ZaM,ZaM]
  exact RVs.append (RVs.rev t)<|RVs.one q
theorem RVs.ints{K:W.Frag}{ι:Tp}{H:Hp}:∀(ns:Tk),RVs K ι H (ns.map IV.int) (ns.map V.int)
 |[]=>rfl
 |_::ns=>⟨_,_,rfl,rfl,RVs.ints ns⟩
def RPs{κ:Type}(K:W.Frag)(ι:Tp)(H:Hp):List (κ×IV)->List (κ×V)->Prop
 |[],vs=>vs=[]
 |x::xs,vs=>∃v r,vs=(x.1,v)::r/\RV K ι H x.2 v/\RPs K ι H xs r
theorem RPs.mono{κ:Type}{K:W.Frag}{ι ι':Tp}{H H':Hp}(n:Nxt ι H ι' H'):∀(xs:List<|κ×IV)(vs:List<|κ×V),RPs K ι H xs vs->RPs K ι' H' xs vs
 |[],_,h=>h
 |x::xs,_,h=>by
  obtain⟨v,r,e,q,t⟩:=h
  exact⟨v,r,e,RV.mono n _ v q,RPs.mono n xs r t⟩
theorem RPs.length{κ:Type}{K:W.Frag}{ι:Tp}{H:Hp}:∀{xs:List (κ×IV)}{vs:List (κ×V)},RPs K ι H xs vs->vs.length=xs.length
 |[],_,h=>by
  have e:_=[]:=h
  subst e
  rfl
 |x::xs,_,h=>by
  obtain⟨v,r,e,_,t⟩:=h
  subst e
  simp[RPs.length t]
theorem RPs.lookup{κ:Type}[BEq κ]{K:W.Frag}{ι:Tp}{H:Hp}{f:κ}:∀{xs:List (κ×IV)}{vs:List (κ×V)},RPs K ι H xs vs ->
  (∀x,xs.lookup f=Za x->∃v,vs.lookup f=Za v/\RV K ι H x v)/\(xs.lookup f=Zc->vs.lookup f=Zc)
 |[],_,h=>by
  have e:_=[]:=h
  subst e
  exact⟨λx e=>by simp at e,λ_=>rfl⟩
 |(k,x)::xs,_,h=>by
  obtain⟨v,r,e,q,t⟩:=h
  subst e
  have ih:=RPs.lookup (f:=f) t
  simp only[Zad]
  cases hb:f==k with
  |true=>exact⟨λy e=>by cases e;exact⟨v,rfl,q⟩,λe=>by cases e⟩
  |false=>exact ih
def QL(H:Hp)(q:Str)(cv:Ze):Prop:=∃c oc vs t,cv=.ref c/\H c=Za (.frz oc<|.own 0)/\oc.data=.fields vs/\vs[1]?=Za (.str (q++".<locals>."++"<lambda>") t)
def TabO(K:W.Frag)(H:Hp)(q:Str)(a:Zq):Prop:=(∀cdv,W.codeIn K cdv q=Zh->∃c,cdv=.ref c/\W.codeHdIn K c a=Zh) /\
 ∃ps,H a=Za (.tbl ps)/\TriplesOk ps.toList/\∀pos cv,ZdJ pos ps.toList=Za cv->QL H q cv
theorem TabO.mono{K:W.Frag}{H H':Hp}{q:Str}{a:Zq}(fz:∀b o u,H b=Za (.frz o u)->H' b=Za (.frz o u))(k:∀u,H a=Za u->H' a=Za u)(h:TabO K H q a):TabO K H' q a:=by
 obtain⟨h1,ps,e,ht,hc⟩:=h
 refine⟨h1,ps,k _ e,ht,λpos cv q=>?_⟩
 obtain⟨c,oc,vs,t,e1,e2,r⟩:=hc pos cv q
 exact⟨c,oc,vs,t,e1,fz _ _ _ e2,r⟩
def ExF(a C:Zq)(tv:Ze)(d:Wz):HO:=.ext λh=>∃oe vs,h.get? a=Za oe/\oe.cls=.ref C/\oe.data=.fields vs/\vs[1]?=Za tv/\vs[2]?=Za .none/\oe.dict=d
def XV(ι:Tp):IV->Ze->Prop
 |.int i,u=>∃t,u=.int i t
 |.ref j,u=>∃b,u=.ref b/\ι[j]?=Za b
 |_,_=>False
def XdOk(ι:Tp)(H:Hp)(d:Wz)(fs:Wl):Prop:=(fs=[]/\d=Zc)∨∃f v dx od u,fs=[(f,v)]/\d=Za dx/\H dx=Za (.frz od<|.own 0)/\W.lookIn f od=Za (Za u)/\XV ι v u
theorem XdOk.nxt(n:Nxt ι H ι' H')(h:XdOk ι H d fs):XdOk ι' H' d fs:=by
 rcases h with h|⟨f,v,dx,od,t,e,q,r,z,x⟩
 ·exact .inl h
 ·refine .inr ⟨f,v,dx,od,t,e,q,n.ext.frzs _ _ _ r,z,?_⟩
  cases v with
  |ref j=>
   obtain⟨b,e,q⟩:=x
   obtain⟨⟨m,rfl⟩,_⟩:=n
   exact⟨b,e,by rw[ZE (Zr.mp q).1];exact q⟩
  |_=>exact x
def TvOk(H:Hp)(tv:Ze):Prop:=tv=.none∨∃T oT ts,tv=.ref T/\H T=Za (.frz oT<|.own 0)/\oT.data=.fields ts/\ts[3]?=Za .none
theorem TvOk.mono(fz:∀b o u,H b=Za (.frz o u)->H' b=Za (.frz o u))(h:TvOk H tv):TvOk H' tv:=by
 rcases h with h|⟨T,oT,ts,e,q,r⟩
 ·exact .inl h
 ·exact .inr ⟨T,oT,ts,e,fz _ _ _ q,r⟩
def RO(ce:CeT)(K:W.Frag)(ι:Tp)(H:Hp)(a:Zq):IX->Prop
 |.lst xs=>∃vs,H a=Za (.lst vs)/\RVs K ι H xs vs
 |.ins c fs=>∃C dx vs,ce c=Za C/\H a=Za (.ins C dx vs)/\RPs K ι H fs vs
 |.dct kvs=>∃vs,H a=Za (.dK vs)/\RPs K ι H kvs vs
 |.exc c fs=>∃C tv d,XdOk ι H d fs/\W.nsIn K Z5 c=Za (Za<|.ref C)/\H a=Za (ExF a C tv d)/\TvOk H tv
 |.tab q=>TabO K H q a
 |.hld c fs=>∃C oe u vs,XdOk ι H oe.dict fs/\W.nsIn K Z5 c=Za (Za<|.ref C)/\H a=Za (.frz oe u)/\oe.cls=.ref C/\oe.data=.fields vs/\vs[2]?=Za .none
theorem RO.some{ce:CeT}{K:W.Frag}{ι:Tp}{H:Hp}{a:Zq}{o:IX}(h:RO ce K ι H a o):∃u,H a=Za u:=by
 cases o with
 |lst xs=>obtain⟨vs,e,_⟩:=h;exact⟨_,e⟩
 |ins c fs=>obtain⟨_,_,vs,_,e,_⟩:=h;exact⟨_,e⟩
 |dct kvs=>obtain⟨vs,e,_⟩:=h;exact⟨_,e⟩
 |exc c fs=>obtain⟨C,tv,d,_,_,e,_⟩:=h;exact⟨_,e⟩
 |tab q=>obtain⟨_,ps,e,_⟩:=h;exact⟨_,e⟩
 |hld c fs=>obtain⟨_,_,_,_,_,_,e,_⟩:=h;exact⟨_,e⟩
theorem RO.mono{ce:CeT}{K:W.Frag}{ι ι':Tp}{H H':Hp}{a:Zq}{o:IX}(n:Nxt ι H ι' H')(k:∀u,H a=Za u->H' a=Za u)(h:RO ce K ι H a o):RO ce K ι' H' a o:=by
 cases o with
 |lst xs=>obtain⟨vs,e,r⟩:=h;exact⟨vs,k _ e,RVs.mono n _ _ r⟩
 |ins c fs=>obtain⟨C,dx,vs,c1,e,r⟩:=h;exact⟨C,dx,vs,c1,k _ e,RPs.mono n _ _ r⟩
 |dct kvs=>obtain⟨vs,e,r⟩:=h;exact⟨vs,k _ e,RPs.mono n _ _ r⟩
 |exc c fs=>obtain⟨C,tv,d,e0,c1,e,r⟩:=h;exact⟨C,tv,d,e0.nxt n,c1,k _ e,r.mono n.ext.frzs⟩
 |tab q=>exact TabO.mono n.ext.frzs k h
 |hld c fs=>obtain⟨C,oe,u,vs,e0,c1,e,r⟩:=h;exact⟨C,oe,u,vs,e0.nxt n,c1,k _ e,r⟩
structure Rel(ce:CeT)(K:W.Frag)(ι:Tp)(h:IH)(H:Hp):Prop where
 len:ι.length=h.length
 nd:ι.Nodup
 at_:∀(i:Nat)(o:IX),h[i]?=Za o->∃a,ι[i]?=Za a/\RO ce K ι H a o
section
variable{ce:CeT}{K:W.Frag}{ι:Tp}{h:IH}{H:Hp}
theorem Rel.some(R:Rel ce K ι h H){i:Nat}(e:ι[i]?=Za a):∃u,H a=Za u:=by
 have hi:i<h.length:=by rw[<-R.len];exact(Zr.mp e).1
 obtain⟨b,e',r⟩:=R.at_ i _<|Zb hi
 rw[e]at e'
 cases e'
 exact r.some
theorem Rel.notin(R:Rel ce K ι h H)(e:H l=Zc):l∉ι:=λhl=>by
 obtain⟨i,hi,q⟩:=ZO.mp hl
 obtain⟨u,hu⟩:=R.some (i:=i) (a:=l)<|by rw[Zb hi,q]
 rw[e]at hu
 cases hu
theorem Ext.upd_new(e:H l=Zc):Ext H (upd H l o):=
 ⟨λb xs q=>by rw[Jx<|V0 q e];exact q,λb o u q=>by rw[Jx<|V0 q e];exact q⟩
theorem Rel.grow(R:Rel ce K ι h H)(e:H l=Zc):Rel ce K ι h (upd H l o)/\Nxt ι H ι (upd H l o):=by
 have n:Nxt ι H ι (upd H l o):=⟨⟨[],03⟩,Ext.upd_new e⟩
 refine⟨⟨R.len,R.nd,λi u q=>?_⟩,n⟩
 obtain⟨a,e1,r⟩:=R.at_ i u q
 exact⟨a,e1,r.mono n λw hw=>by rw[Jx<|V0 hw e];exact hw⟩
theorem Rel.alloc(R:Rel ce K ι h H)(e:H l=Zc)(r:RO ce K (ι++[l]) (upd H l o) l io):Rel ce K (ι++[l]) (h++[io]) (upd H l o)/\Nxt ι H (ι++[l]) (upd H l o):=by
 have n:Nxt ι H (ι++[l]) (upd H l o):=⟨⟨[l],rfl⟩,Ext.upd_new e⟩
 refine⟨⟨by simp[R.len],?_,λi u q=>?_⟩,n⟩
 ·rw[List.nodup_append]
  refine⟨R.nd,03,λa ha b hb=>?_⟩
  have:b=l:=by simpa using hb
  subst this
  rintro rfl
  exact R.notin e ha
 ·by_cases hi:i<h.length
  ·rw[ZE hi]at q
   obtain⟨a,e1,r1⟩:=R.at_ i u q
   exact⟨a,n.at e1,r1.mono n λw hw=>by rw[Jx<|V0 hw e];exact hw⟩
  ·have hi2:i=h.length:=by
    have:=(Zr.mp q).1
    simp at this
    omega
   subst hi2
   rw[Z8<|Zm _]at q
   simp at q
   subst q
   refine⟨l,?_,r⟩
   rw[<-R.len,Z8<|Zm _]
   simp
theorem Rel.inj(R:Rel ce K ι h H){i j:Nat}(e1:ι[i]?=Za a)(e2:ι[j]?=Za a):i=j:=by
 obtain⟨h1,q1⟩:=Zr.mp e1
 obtain⟨h2,q2⟩:=Zr.mp e2
 exact(ZcM R.nd).mp<|q1.trans q2.symm
theorem Ext.upd_mut(e:H l=Za u)(m:Mut<|H l):Ext H (upd H l o):=by
 refine⟨λb xs q=>?_,λb ob w q=>?_⟩
 ·by_cases hb:b=l
  ·subst hb
   rw[q]at m
   exact Zf m
  ·rw[Jx hb];exact q
 ·by_cases hb:b=l
  ·subst hb
   rw[q]at m
   exact Zf m
  ·rw[Jx hb];exact q
theorem Rel.write(R:Rel ce K ι h H)(e:ι[i]?=Za a)(ha:H a=Za u)(m:Mut<|H a)(r:RO ce K ι (upd H a o) a io):Rel ce K ι (h.set i io) (upd H a o)/\Nxt ι H ι (upd H a o):=by
 have n:Nxt ι H ι (upd H a o):=⟨⟨[],03⟩,Ext.upd_mut ha m⟩
 refine⟨⟨by simp[R.len],R.nd,λj w q=>?_⟩,n⟩
 by_cases hj:j=i
 ·subst hj
  have hl:j<h.length:=by
   have:=(Zr.mp q).1
   simpa using this
  rw[ZX hl]at q
  cases q
  exact⟨a,e,r⟩
 ·rw[ZT<|Zab hj]at q
  obtain⟨b,e1,r1⟩:=R.at_ j w q
  refine⟨b,e1,r1.mono n λv hv=>?_⟩
  have:b≠a:=by
   rintro rfl
   exact hj<|R.inj e1 e
  rw[Jx this]
  exact hv
end
structure RSt(K:W.Frag)(ι:Tp)(H:Hp)(σi:ISt)(σ:L2.St):Prop where
 len:σi.length=σ.length
 at_:∀(j:Nat)(v:IV),σi[j]?=Za (Za v)->∃u,σ[j]?=Za (Za u)/\RV K ι H v u
theorem RSt.mono{K:W.Frag}{ι ι':Tp}{H H':Hp}{σi:ISt}{σ:L2.St}(n:Nxt ι H ι' H')(r:RSt K ι H σi σ):RSt K ι' H' σi σ:=
 ⟨r.len,λj v e=>let ⟨u,e1,q⟩:=r.at_ j v e;⟨u,e1,RV.mono n _ _ q⟩⟩
theorem RSt.set{K:W.Frag}{ι:Tp}{H:Hp}{σi:ISt}{σ:L2.St}(r:RSt K ι H σi σ)(i:Nat){x:IV}{v:V}(q:RV K ι H x v):RSt K ι H (σi.set i<|Za x) (σ.set i<|Za v):=by
 refine⟨by simp[r.len],λj w e=>?_⟩
 by_cases hj:j=i
 ·subst hj
  have hl:j<σi.length:=by
   have:=(Zr.mp e).1
   simpa using this
  rw[ZX hl]at e
  cases e
  exact⟨v,by rw[ZX<|by rw[<-r.len];exact hl],q⟩
 ·rw[ZT<|Zab hj]at e
  obtain⟨u,e1,q1⟩:=r.at_ j w e
  exact⟨u,by rw[ZT<|Zab hj];exact e1,q1⟩
structure Now(ce:CeT)(X:Cx)(pj:PnT)(ι:Tp)(σi:ISt)(h:IH)(σ:L2.St)(H:Hp)(s:Zn):Prop where
 inv:Inv X pj σ H s
 rel:Rel ce X.K ι h H
 st:RSt X.K ι H σi σ
def RU(K:W.Frag)(ι:Tp)(H:Hp)(v:IV)(u:Ze):Prop:=∃x,RelV x u/\RV K ι H v x
theorem RU.mono{K:W.Frag}{ι ι':Tp}{H H':Hp}{v:IV}{u:Ze}(n:Nxt ι H ι' H')(r:RU K ι H v u):RU K ι' H' v u:=
 let ⟨x,a,b⟩:=r;⟨x,a,RV.mono n _ _ b⟩
def RUs(K:W.Frag)(ι:Tp)(H:Hp)(vs:Tq)(us:To):Prop:=∃xs,Vals xs us/\RVs K ι H vs xs
theorem RUs.mono{K:W.Frag}{ι ι':Tp}{H H':Hp}{v:Tq}{u:To}(n:Nxt ι H ι' H')(r:RUs K ι H v u):RUs K ι' H' v u:=
 let ⟨x,a,b⟩:=r;⟨x,a,RVs.mono n _ _ b⟩
abbrev REL(α β:Type):=W.Frag->Tp->Hp->α->β->Prop
def RB:REL Bool Bool:=λ_ _ _ b c=>c=b
section
variable{α β γ δ:Type}
def Kont(ce:CeT)(X:Cx)(R:REL α β)(pj:PnT)(ι:Tp)(σi:ISt)(σ:L2.St)(H:Hp)(r:Res α)(Q:β->Zn->Prop)(E:QvT):Prop:=
 match r with
 |.ok v h'=>∀u s' H' ι',Now ce X pj ι' σi h' σ H' s'->Nxt ι H ι' H'->R X.K ι' H' v u->Q u s'
 |.exc n h'=>∀pl a s' H' ι',Now ce X (pj++pl) ι' σi h' σ H' s'->Nxt ι H ι' H'->ι'[n]?=Za a->E (.ref a) s'
 |.stuck=>False
variable{ce:CeT}{X:Cx}{R:REL α β}{R':REL γ δ}{pj:PnT}{ι ι':Tp}{σi:ISt}{σ:L2.St}{H H':Hp}
theorem Kont.mono(k:Kont ce X R pj ι σi σ H r Q E)(n:Nxt ι H ι' H'):Kont ce X R pj ι' σi σ H' r Q E:=by
 cases r with
 |ok v h'=>exact λu s' H2 ι2 N n2 q=>k u s' H2 ι2 N (n.trans n2) q
 |exc m h'=>exact λpl a s' H2 ι2 N n2 q=>k pl a s' H2 ι2 N (n.trans n2) q
 |stuck=>exact k
def PX(ce:CeT)(X:Cx)(R:REL α β)(t:Sem β)(m:ISt->IH->Res α):Prop:=
 ∀(pj:PnT)(s:Zn)(σ:L2.St)(H:Hp)(ι:Tp)(σi:ISt)(h:IH)(Q:β->Zn->Prop)(E:QvT),Now ce X pj ι σi h σ H s->Kont ce X R pj ι σi σ H (m σi h) Q E ->
  Z0 (Z9 X.prog X.w) X.A t Q E s
theorem PX.run(p:PX ce X R t m)(N:Now ce X pj ι σi h σ H s){g:α->IH->Res γ}{Q:δ->Zn->Prop}{E:QvT}{Q1:β->Zn->Prop}
  (K:Kont ce X R' pj ι σi σ H ((m σi h).bind g) Q E)
  (step:∀x h1 u s1 H1 ι1,Now ce X pj ι1 σi h1 σ H1 s1->Nxt ι H ι1 H1->R X.K ι1 H1 x u->Kont ce X R' pj ι1 σi σ H1 (g x h1) Q E->Q1 u s1):Z0 (Z9 X.prog X.w) X.A t Q1 E s:=by
 refine p pj s σ H ι σi h Q1 E N ?_
 cases e:m σi h with
 |ok v h'=>
  rw[e]at K
  exact λu s' H' ι' N' n' r=>step v h' u s' H' ι' N' n' r<|Kont.mono (r:=g v h') K n'
 |exc n h'=>
  rw[e]at K
  exact K
 |stuck=>
  rw[e]at K
  exact K
end
abbrev PEi(ce:CeT)(X:Cx)(e:Expr)(m:ISt->IH->Res IV):Prop:=PX ce X RU (ZaY e X.env) m
abbrev PTi(ce:CeT)(X:Cx)(e:Expr)(m:ISt->IH->Res Bool):Prop:=PX ce X RB (isTrue e X.env<|ZaY e X.env) m
def PWi(ce:CeT)(X:Cx)(e:Expr)(m:ISt->IH->Res Bool):Prop:=∀whole:Sem Ze,PX ce X RB (isTrue e X.env whole) m
def PAi(ce:CeT)(X:Cx)(es:Ta)(m:ISt->IH->Res (Tq)):Prop:=∀pos:Pos,PX ce X RUs (spliced<|Zbm pos<|ZC es X.env) m
abbrev E1:=ISt->IH->Res IV
abbrev T1:=ISt->IH->Res Bool
abbrev A1:=ISt->IH->Res (Tq)
noncomputable def Ja (i:Nat):E1:=λσ h=>match σ[i]? with|some (Za v)=>.ok v h|_=>.stuck
noncomputable def eC (v:IV):E1:=λ_ h=>.ok v h
def Jc(f:IV->IV->IH->Res IV)(a b:E1):E1:=λσ h=>(a σ h).bind λx h1=>(b σ h1).bind λy h2=>f x y h2
def eUn(f:IV->IH->Res IV)(a:E1):E1:=λσ h=>(a σ h).bind λx h1=>f x h1
def eAnd(a b:E1)(tr:IV->IH->Res Bool):E1:=λσ h=>(a σ h).bind λx h1=>(tr x h1).bind λc h2=>if c then b σ h2 else .ok x h2
def eOr(a b:E1)(tr:IV->IH->Res Bool):E1:=λσ h=>(a σ h).bind λx h1=>(tr x h1).bind λc h2=>if c then .ok x h2 else b σ h2
def eIf(t:T1)(a b:E1):E1:=λσ h=>(t σ h).bind λc h1=>if c then a σ h1 else b σ h1
def QH(a b:T1):T1:=λσ h=>(a σ h).bind λc h1=>if c then b σ h1 else .ok Zk h1
def tOrI(a b:T1):T1:=λσ h=>(a σ h).bind λc h1=>if c then .ok Zh h1 else b σ h1
def J7(a:T1):T1:=λσ h=>(a σ h).bind λc h1=>.ok (!c) h1
def Ji(tr:IV->IH->Res Bool)(a:E1):T1:=λσ h=>(a σ h).bind λx h1=>tr x h1
noncomputable def Jd:A1:=λ_ h=>.ok [] h
def Jb(a:E1)(r:A1):A1:=λσ h=>(a σ h).bind λx h1=>(r σ h1).bind λxs h2=>.ok (x::xs) h2
def JO(f g:IV->IV->IH->Res IV)(a b c:E1):E1:=λσ h=>(a σ h).bind λx h1=>(b σ h1).bind λy h2=>(f x y h2).bind λk h3=>
 match k with
 |.bl Zh=>(c σ h3).bind λz h4=>g y z h4
 |.bl Zk=>.ok (.bl Zk) h3
 |_=>.stuck
section
variable{ce:CeT}{X:Cx}{a b c:Expr}{ma mb mc:E1}{pos:Pos}
def OpI(ce:CeT)(X:Cx)(f:Ze->Ze->Sem Ze)(g:IV->IV->IH->Res IV):Prop:=
 ∀(pj:PnT)(s:Zn)(σ:L2.St)(H:Hp)(ι:Tp)(σi:ISt)(h:IH)(x y:IV)(v u:Ze)(Q:QvT)(E:QvT),Now ce X pj ι σi h σ H s->RU X.K ι H x v->RU X.K ι H y u ->
  Kont ce X RU pj ι σi σ H (g x y h) Q E->Z0 (Z9 X.prog X.w) X.A (f v u) Q E s
def UnI(ce:CeT)(X:Cx)(f:Ze->Sem Ze)(g:IV->IH->Res IV):Prop:=
 ∀(pj:PnT)(s:Zn)(σ:L2.St)(H:Hp)(ι:Tp)(σi:ISt)(h:IH)(x:IV)(v:Ze)(Q:QvT)(E:QvT),Now ce X pj ι σi h σ H s->RU X.K ι H x v ->
  Kont ce X RU pj ι σi σ H (g x h) Q E->Z0 (Z9 X.prog X.w) X.A (f v) Q E s
def TrI(ce:CeT)(X:Cx)(g:IV->IH->Res Bool):Prop:=
 ∀(pj:PnT)(s:Zn)(σ:L2.St)(H:Hp)(ι:Tp)(σi:ISt)(h:IH)(x:IV)(v:Ze)(Q:Bool->Zn->Prop)(E:QvT),Now ce X pj ι σi h σ H s->RU X.K ι H x v ->
  Kont ce X RB pj ι σi σ H (g x h) Q E->Z0 (Z9 X.prog X.w) X.A (truthy v) Q E s
def Qh(ce:CeT)(X:Cx)(f:Ze)(g:Tq->IH->Res IV):Prop:=
 ∀(pj:PnT)(s:Zn)(σ:L2.St)(H:Hp)(ι:Tp)(σi:ISt)(h:IH)(xs:Tq)(us:To)(Q:QvT)(E:QvT),Now ce X pj ι σi h σ H s->RUs X.K ι H xs us ->
  Kont ce X RU pj ι σi σ H (g xs h) Q E->Z0 (Z9 X.prog X.w) X.A (call f us) Q E s
theorem Ye{pj:PnT}{s:Zn}{σ:L2.St}{H:Hp}{Q E:QvT}{e:Expr}{t:TE}(p:PE (X.wish E) e t)(I:Inv X pj σ H s)
  (k:t σ H λz H'=>∀u s',Inv X pj σ H' s'->RelV z u->Q u s'):Z0 (Z9 X.prog X.w) X.A (ZaY e X.env) Q E s:=
 Zal (p pj s σ H _ (I.wish E) k) (λu s' ⟨_,_,I',r,q⟩=>q u s' I'.unwish r) λ_ _ z=>z
theorem Qg{pj:PnT}{s:Zn}{σ:L2.St}{H:Hp}{Q E:QvT}{f:Ze->Ze->Sem Ze}{r:R2}{x y:V}{v u:Ze}(p:OpR (X.wish E) f r)(I:Inv X pj σ H s)(rx:RelV x v)(ry:RelV y u)
  (k:r x y H λz H'=>∀u s',Inv X pj σ H' s'->RelV z u->Q u s'):Z0 (Z9 X.prog X.w) X.A (f v u) Q E s:=
 Zal (p pj s σ H x y v u _ (I.wish E) rx ry k) (λu s' ⟨_,_,I',r,q⟩=>q u s' I'.unwish r) λ_ _ z=>z
theorem J4l{pj:PnT}{s:Zn}{σ:L2.St}{H:Hp}{Q E:QvT}{f:Ze->Sem Ze}{r:V->Hp->VK->Prop}{x:V}{v:Ze}(p:UnR (X.wish E) f r)(I:Inv X pj σ H s)(rx:RelV x v)
  (k:r x H λz H'=>∀u s',Inv X pj σ H' s'->RelV z u->Q u s'):Z0 (Z9 X.prog X.w) X.A (f v) Q E s:=
 Zal (p pj s σ H x v _ (I.wish E) rx k) (λu s' ⟨_,_,I',r,q⟩=>q u s' I'.unwish r) λ_ _ z=>z
theorem Xc{pj:PnT}{s:Zn}{σ:L2.St}{H:Hp}{Q:Bool->Zn->Prop}{E:QvT}{r:V->Hp->(Bool->Hp->Prop)->Prop}{x:V}{v:Ze}(p:TruR (X.wish E) r)(I:Inv X pj σ H s)(rx:RelV x v)
  (k:r x H λz H'=>∀s',Inv X pj σ H' s'->Q z s'):Z0 (Z9 X.prog X.w) X.A (truthy v) Q E s:=
 Zal (p pj s σ H x v _ (I.wish E) rx k) (λ_ s' ⟨_,I',q⟩=>q s' I'.unwish) λ_ _ z=>z
theorem QA{pj:PnT}{s:Zn}{σ:L2.St}{H:Hp}{Q E:QvT}{f:Ze}{r:Tu->Hp->VK->Prop}{xs:Tu}{us:To}(p:VN (X.wish E) f r)(I:Inv X pj σ H s)(rx:Vals xs us)
  (k:r xs H λz H'=>∀u s',Inv X pj σ H' s'->RelV z u->Q u s'):Z0 (Z9 X.prog X.w) X.A (call f us) Q E s:=
 Zal (p pj s σ H xs us _ (I.wish E) rx k) (λu s' ⟨_,_,I',r,q⟩=>q u s' I'.unwish r) λ_ _ z=>z
theorem J5l(i:Nat){pos:Pos}(hN:X.N[i]?=Za x:=by rfl)(hv:Vis X.env.scope x:=by assumption)(hd:(x==("__debug__":Str))=Zk:=by decide)
  (hcd:(x==("__classdict__":Str))=Zk:=by decide):PEi ce X (.Name x pos) (Ja i):=by
 intro pj s σ H ι σi h Q E N K
 unfold Ja at K
 cases e:σi[i]? with
 |none=>
  rw[e]at K
  exact Zf K
 |some o=>
  cases o with
  |none=>
   rw[e]at K
   exact Zf K
  |some v=>
   rw[e]at K
   obtain⟨u,e1,q⟩:=N.st.at_ i v e
   exact Ye (J3r (X:=X.wish E) hN hv hd hcd) N.inv ⟨u,e1,λu' s' I' r'=>K u' s' H ι ⟨I',N.rel,N.st⟩ .refl ⟨u,r',q⟩⟩
theorem J5f{i j pos}:PEi ce X (.Constant (.int i) j pos) (eC<|.int i):=λ_ _ _ H ι _ _ _ E N K=>Ye (J3o (X:=X.wish E)) N.inv λu' s' I' r'=>K u' s' H ι ⟨I',N.rel,N.st⟩ .refl ⟨_,r',rfl⟩
theorem i_bl{i j pos}:PEi ce X (.Constant (.bool i) j pos) (eC<|.bl i):=λ_ _ _ H ι _ _ _ E N K=>Ye (J53 (X:=X.wish E)) N.inv λu' s' I' r'=>K u' s' H ι ⟨I',N.rel,N.st⟩ .refl ⟨_,r',rfl⟩
theorem J5i{j pos}:PEi ce X (.Constant .none j pos) (eC .non):=λ_ _ _ H ι _ _ _ E N K=>Ye (J3p (X:=X.wish E)) N.inv λu' s' I' r'=>K u' s' H ι ⟨I',N.rel,N.st⟩ .refl ⟨_,r',rfl⟩
theorem J5j{i j pos}:PEi ce X (.Constant (.str i) j pos) (eC<|.str i):=λ_ _ _ H ι _ _ _ E N K=>Ye (J3q (X:=X.wish E)) N.inv λu' s' I' r'=>K u' s' H ι ⟨I',N.rel,N.st⟩ .refl ⟨_,r',rfl⟩
theorem J2k(hg:Gl X x)(hm:X.mg x=Za u)(r:RelV v u)(q:∀ι H,RV X.K ι H iv v)(hd:(x==("__debug__":Str))=Zk:=by decide):PEi ce X (.Name x pos) (eC iv):=
 λ_ _ _ H ι _ _ _ E N K=>Ye (J0c (X:=X.wish E) hg hm r hd) N.inv λu' s' I' r'=>K u' s' H ι ⟨I',N.rel,N.st⟩ .refl ⟨_,r',q _ _⟩
theorem J5b(ho:OpI ce X (ZaS op) f)(ha:PEi ce X a ma)(hb:PEi ce X b mb):PEi ce X (.BinOp a op b pos) (Jc f ma mb):=
 λpj s σ H ι σi h Q E N K=>wpAny_BinOp<|ha.run N K λx h1 u s1 H1 ι1 N1 n1 r1 K1=>hb.run N1 K1 λy h2 w s2 H2 ι2 N2 n2 r2 K2=>ho pj s2 σ H2 ι2 σi h2 x y u w Q E N2 (r1.mono n2) r2 K2
theorem i_un(ho:UnI ce X (unaryOp op) f)(ha:PEi ce X a ma):PEi ce X (.UnaryOp op a pos) (eUn f ma):=
 λpj s σ H ι σi h Q E N K=>UnaryOp_<|ha.run N K λx h1 u s1 H1 ι1 N1 n1 r1 K1=>ho pj s1 σ H1 ι1 σi h1 x u Q E N1 r1 K1
theorem J5d(ho:OpI ce X (Zas op) f)(ha:PEi ce X a ma)(hb:PEi ce X b mb)(hm:Zcm op b=Zk:=by assumption):PEi ce X (.Compare a [op] [b] pos) (Jc f ma mb):=
 λpj s σ H ι σi h Q E N K=>wpAny_Compare1 (ha.run N K λx h1 u s1 H1 ι1 N1 n1 r1 K1=>hb.run N1 K1 λy h2 w s2 H2 ι2 N2 n2 r2 K2=>ho pj s2 σ H2 ι2 σi h2 x y u w Q E N2 (r1.mono n2) r2 K2) hm
noncomputable def asB:IV->IH->Res Bool
 |.bl b,h=>.ok b h
 |_,_=>.stuck
theorem Kont.asB{r:Res IV}(K:Kont ce X RB pj ι σi σ H (r.bind asB) Q E):
  Kont ce X RU pj ι σi σ H r (λv s=>Z0 (Z9 X.prog X.w) X.A (truthy v) Q E s) E:=by
 cases r with
 |exc n h=>exact K
 |stuck=>exact K
 |ok v h=>
  intro u s' H' ι' N n q
  obtain⟨x,rx,q⟩:=q
  cases v with
  |bl b=>
   have e:x=.bl b:=q
   subst e
   cases rx
   exact Zbp<|K b s' H' ι' N n rfl
  |_=>exact Zf K
theorem Res.bind_bind(r:Res α)(f:α->IH->Res β)(g:β->IH->Res γ):(r.bind f).bind g=r.bind λx h=>(f x h).bind g:=by
 cases r<;>rfl
theorem J6h(ho:OpI ce X (Zas op) f)(ha:PEi ce X a ma)(hb:PEi ce X b mb)(hm:Zcm op b=Zk:=by assumption):PTi ce X (.Compare a [op] [b] pos) (Ji asB<|Jc f ma mb):=
 λpj s σ H ι σi h Q E N K=>by
  have K':Kont ce X RB pj ι σi σ H ((ma σi h).bind λx h1=>(mb σi h1).bind λy h2=>(f x y h2).bind asB) Q E:=by
   unfold Ji Jc at K
   rw[Res.bind_bind]at K
   simp only[Res.bind_bind]at K
   exact K
  exact wpAny_isTrue_Compare1 (ha.run N K' λx h1 u s1 H1 ι1 N1 n1 r1 K1=>hb.run N1 K1 λy h2 w s2 H2 ι2 N2 n2 r2 K2=>ho pj s2 σ H2 ι2 σi h2 x y u w _ E N2 (r1.mono n2) r2<|Kont.asB K2) hm
theorem J4d{tr:IV->IH->Res Bool}(ht:TrI ce X tr)(ha:PEi ce X a ma)(he:∀whole,isTrue a X.env whole=(do let v<-whole;ZeL a.pos;Zcg [v] (truthy v)):=by intro _;rfl):PTi ce X a (Ji tr ma):=
 λpj s σ H ι σi h Q E N K=>isTrue_plain (ha.run N K λx h1 u s1 H1 ι1 N1 n1 r1 K1=>ht pj s1 σ H1 ι1 σi h1 x u Q E N1 r1 K1)<|he _
variable{rest:Ta}{ta tb:T1}
theorem J05(ha:PTi ce X a ta):PWi ce X (.BoolOp .And [a] pos) ta:=λwh pj s σ H ι σi h Q E N K=>by
 refine isTrue_and<|ha pj s σ H ι σi h _ E N ?_
 cases e:ta σi h with
 |ok v h'=>
  rw[e]at K
  intro u s' H' ι' N' n' r
  have r':u=v:=r
  subst r'
  cases u with
  |true=>exact isTrue_and_nil<|K Zh s' H' ι' N' n' rfl
  |false=>exact K Zk s' H' ι' N' n' rfl
 |exc n h'=>rw[e]at K;exact K
 |stuck=>rw[e]at K;exact K
theorem J4j(ha:PTi ce X a ta):PWi ce X (.BoolOp .Or [a] pos) ta:=λwh pj s σ H ι σi h Q E N K=>by
 refine isTrue_or<|ha pj s σ H ι σi h _ E N ?_
 cases e:ta σi h with
 |ok v h'=>
  rw[e]at K
  intro u s' H' ι' N' n' r
  have r':u=v:=r
  subst r'
  cases u with
  |false=>exact isTrue_or_nil<|K Zk s' H' ι' N' n' rfl
  |true=>exact K Zh s' H' ι' N' n' rfl
 |exc n h'=>rw[e]at K;exact K
 |stuck=>rw[e]at K;exact K
theorem J4i(ha:PTi ce X a ta)(hb:PWi ce X (.BoolOp .And (b::rest) pos) tb):PWi ce X (.BoolOp .And (a::b::rest) pos) (QH ta tb):=λwh pj s σ H ι σi h Q E N K=>
 isTrue_and (ha.run N K λc h1 u s1 H1 ι1 N1 n1 r1 K1=>by
  have r':u=c:=r1
  subst r'
  cases u with
  |true=>exact hb wh pj s1 σ H1 ι1 σi h1 Q E N1 K1
  |false=>exact K1 Zk s1 H1 ι1 N1 .refl rfl)
theorem J6l(ha:PTi ce X a ta)(hb:PWi ce X (.BoolOp .Or (b::rest) pos) tb):PWi ce X (.BoolOp .Or (a::b::rest) pos) (tOrI ta tb):=λwh pj s σ H ι σi h Q E N K=>
 isTrue_or (ha.run N K λc h1 u s1 H1 ι1 N1 n1 r1 K1=>by
  have r':u=c:=r1
  subst r'
  cases u with
  |false=>exact hb wh pj s1 σ H1 ι1 σi h1 Q E N1 K1
  |true=>exact K1 Zh s1 H1 ι1 N1 .refl rfl)
theorem PWi.t(h:PWi ce X a ta):PTi ce X a ta:=h _
theorem J6i(ha:PTi ce X a ta):PTi ce X (.UnaryOp .Not a pos) (J7 ta):=λpj s σ H ι σi h Q E N K=>
 isTrue_not (ha.run N K λc h1 u s1 H1 ι1 N1 n1 r1 K1=>by
  have r':u=c:=r1
  subst r'
  exact K1 (!u) s1 H1 ι1 N1 .refl rfl)
theorem J2q{op}(h:PEi ce X a ma):PEi ce X (.BoolOp op [a] pos) ma:=λpj s σ H ι σi h' Q E N K=>BoolOp_one<|h pj s σ H ι σi h' Q E N K
theorem J5a(ht:TrI ce X tr)(ha:PEi ce X a ma)(hb:PEi ce X (.BoolOp .And (b::rest) pos) mb):PEi ce X (.BoolOp .And (a::b::rest) pos) (eAnd ma mb tr):=λpj s σ H ι σi h Q E N K=>
 BoolOp_and (ha.run N K λx h1 u s1 H1 ι1 N1 n1 r1 K1=>by
  refine ht pj s1 σ H1 ι1 σi h1 x u _ E N1 r1 ?_
  cases e:tr x h1 with
  |ok c h2=>
   rw[e]at K1
   intro d s2 H2 ι2 N2 n2 r2
   have r':d=c:=r2
   subst r'
   have K2:=Kont.mono (r:=if d=Zh then mb σi h2 else .ok x h2) K1 n2
   cases d with
   |true=>exact hb pj s2 σ H2 ι2 σi h2 Q E N2 K2
   |false=>exact K2 u s2 H2 ι2 N2 .refl<|r1.mono n2
  |exc n h'=>rw[e]at K1;exact K1
  |stuck=>rw[e]at K1;exact K1)
theorem i_or(ht:TrI ce X tr)(ha:PEi ce X a ma)(hb:PEi ce X (.BoolOp .Or (b::rest) pos) mb):PEi ce X (.BoolOp .Or (a::b::rest) pos) (eOr ma mb tr):=λpj s σ H ι σi h Q E N K=>
 BoolOp_or (ha.run N K λx h1 u s1 H1 ι1 N1 n1 r1 K1=>by
  refine ht pj s1 σ H1 ι1 σi h1 x u _ E N1 r1 ?_
  cases e:tr x h1 with
  |ok c h2=>
   rw[e]at K1
   intro d s2 H2 ι2 N2 n2 r2
   have r':d=c:=r2
   subst r'
   have K2:=Kont.mono (r:=if d=Zh then .ok x h2 else mb σi h2) K1 n2
   cases d with
   |false=>exact hb pj s2 σ H2 ι2 σi h2 Q E N2 K2
   |true=>exact K2 u s2 H2 ι2 N2 .refl<|r1.mono n2
  |exc n h'=>rw[e]at K1;exact K1
  |stuck=>rw[e]at K1;exact K1)
def Xp(tr:IV->IH->Res Bool):IV->IH->Res IV:=λx h=>(tr x h).bind λc h1=>.ok (.bl (!c)) h1
theorem J06(ht:TrI ce X tr):UnI ce X (unaryOp .Not) (Xp tr):=λpj s σ H ι σi h x v Q E N r K=>by
 refine not_of<|ht pj s σ H ι σi h x v _ E N r ?_
 unfold Xp at K
 cases e:tr x h with
 |ok c h2=>
  rw[e]at K
  intro d s2 H2 ι2 N2 n2 r2
  have r':d=c:=r2
  subst r'
  exact K _ s2 H2 ι2 N2 n2 ⟨.bl (!d),rfl,rfl⟩
 |exc n h'=>rw[e]at K;exact K
 |stuck=>rw[e]at K;exact K
theorem Jzh{t:Expr}{mt:T1}(ht:PTi ce X t mt)(ha:PEi ce X a ma)(hb:PEi ce X b mb):PEi ce X (.IfExp t a b pos) (eIf mt ma mb):=λpj s σ H ι σi h Q E N K=>
 wpAny_IfExp (ht.run N K λc h1 u s1 H1 ι1 N1 n1 r1 K1=>by
  have r':u=c:=r1
  subst r'
  cases u with
  |true=>exact ha pj s1 σ H1 ι1 σi h1 Q E N1 K1
  |false=>exact hb pj s1 σ H1 ι1 σi h1 Q E N1 K1)
theorem Jzg(ho:OpI ce X (Zas op) f)(ho':OpI ce X (Zas op') g)(ha:PEi ce X a ma)(hb:PEi ce X b mb)(hc:PEi ce X c mc)
  (hm:ZdK [op,op'] [b,c]=Zk:=by with_unfolding_all rfl):PEi ce X (.Compare a [op,op'] [b,c] pos) (JO f g ma mb mc):=λpj s σ H ι σi h Q E N K=>
 Compare_chain (ha.run N K λx h1 u s1 H1 ι1 N1 n1 r1 K1=>chain_link (hb.run N1 K1 λy h2 w s2 H2 ι2 N2 n2 r2 K2=>by
  refine ho pj s2 σ H2 ι2 σi h2 x y u w _ E N2 (r1.mono n2) r2 ?_
  cases e:f x y h2 with
  |exc n h'=>rw[e]at K2;exact K2
  |stuck=>rw[e]at K2;exact K2
  |ok k h3=>
   rw[e]at K2
   intro d s3 H3 ι3 N3 n3 r3
   obtain⟨z,rz,q⟩:=r3
   cases k with
   |bl k=>
    have e':z=.bl k:=q
    subst e'
    cases rz
    refine Zbp ?_
    have K3:=Kont.mono (r:=match IV.bl k with|.bl Zh=>(mc σi h3).bind λz h4=>g y z h4|.bl Zk=>.ok (.bl Zk) h3|_=>.stuck) K2 n3
    cases k with
    |false=>exact ite_ff<|K3 _ s3 H3 ι3 N3 .refl ⟨.bl Zk,rfl,rfl⟩
    |true=>exact ite_tt<|chain_last<|hc.run N3 K3 λz h4 w' s4 H4 ι4 N4 n4 r4 K4=>ho' pj s4 σ H4 ι4 σi h4 y z w w' Q E N4 ((r2.mono n3).mono n4) r4 K4
   |_=>exact Zf K2)) hm
theorem J02(ho:OpI ce X (Zas op) f)(ho':OpI ce X (Zas op') g)(ha:PEi ce X a ma)(hb:PEi ce X b mb)(hc:PEi ce X c mc)
  (hm:ZdK [op,op'] [b,c]=Zk:=by with_unfolding_all rfl):PTi ce X (.Compare a [op,op'] [b,c] pos) (Ji asB<|JO f g ma mb mc):=λpj s σ H ι σi h Q E N K=>by
 have K':Kont ce X RB pj ι σi σ H ((ma σi h).bind λx h1=>(mb σi h1).bind λy h2=>(f x y h2).bind λk h3=>(match k with|.bl Zh=>(mc σi h3).bind λz h4=>g y z h4|.bl Zk=>.ok (.bl Zk) h3|_=>.stuck:Res IV).bind asB) Q E:=by
  unfold Ji JO at K
  rw[Res.bind_bind]at K
  simp only[Res.bind_bind]at K
  exact K
 refine isTrue_chain (ha.run N K' λx h1 u s1 H1 ι1 N1 n1 r1 K1=>test_link<|hb.run N1 K1 λy h2 w s2 H2 ι2 N2 n2 r2 K2=>?_) hm
 refine ho pj s2 σ H2 ι2 σi h2 x y u w _ E N2 (r1.mono n2) r2 ?_
 cases e:f x y h2 with
 |exc n h'=>rw[e]at K2;exact K2
 |stuck=>rw[e]at K2;exact K2
 |ok k h3=>
  rw[e]at K2
  intro d s3 H3 ι3 N3 n3 r3
  obtain⟨z,rz,q⟩:=r3
  cases k with
  |bl k=>
   have e':z=.bl k:=q
   subst e'
   cases rz
   refine Zbp ?_
   have K3:=Kont.mono (r:=(match IV.bl k with|.bl Zh=>(mc σi h3).bind λz h4=>g y z h4|.bl Zk=>.ok (.bl Zk) h3|_=>.stuck:Res IV).bind asB) K2 n3
   cases k with
   |false=>exact ite_ff<|K3 _ s3 H3 ι3 N3 .refl rfl
   |true=>
    have K3':Kont ce X RB pj ι3 σi σ H3 ((mc σi h3).bind λz h4=>(g y z h4).bind asB) Q E:=by
     have:=K3
     dsimp only at this
     rw[Res.bind_bind]at this
     exact this
    exact ite_tt<|test_last<|hc.run N3 K3' λz h4 w' s4 H4 ι4 N4 n4 r4 K4=>ho' pj s4 σ H4 ι4 σi h4 y z w w' _ E N4 ((r2.mono n3).mono n4) r4<|Kont.asB K4
  |_=>exact Zf K2
variable{es:Ta}{mr:A1}
theorem RUs.nil{K:W.Frag}{ι:Tp}{H:Hp}:RUs K ι H [] []:=⟨[],.nil,rfl⟩
theorem RUs.cons{K:W.Frag}{ι:Tp}{H:Hp}{x:IV}{u:Ze}{xs:Tq}{us:To}(a:RU K ι H x u)(b:RUs K ι H xs us):RUs K ι H (x::xs) (u::us):=
 let ⟨v,r,q⟩:=a;let ⟨vs,rs,qs⟩:=b;⟨v::vs,.cons r rs,v,vs,rfl,q,qs⟩
theorem QZ:PAi ce X [] Jd:=λ_ pj s σ H ι σi h Q E N K=>Calls.spliced_nil<|K [] s H ι N .refl .nil
theorem Qq(ha:PEi ce X a ma)(hr:PAi ce X es mr)(hs:ZC (a::es) X.env=(Zk,ZaY a X.env)::ZC es X.env:=by rfl):PAi ce X (a::es) (Jb ma mr):=by
 intro pos pj s σ H ι σi h Q E N K
 rw[hs]
 show Z0 _ _ (spliced<|(Zk,ZaY a X.env)::Zbm pos (ZC es X.env)) _ _ s
 exact Zdx<|ha.run N K λx h1 u s1 H1 ι1 N1 n1 r1 K1=>(hr pos).run N1 K1 λxs h2 us s2 H2 ι2 N2 n2 r2 K2=>K2 _ s2 H2 ι2 N2 .refl<|.cons (r1.mono n2) r2
end
noncomputable def Jl:IV->IV->IH->Res IV
 |.int i,.int j,h=>.ok (.int<|i+j) h
 |.str x,.str y,h=>if x.length+y.length<=sizeLine then .ok (.str<|x++y) h else .stuck
 |.ref i,.ref j,h=>match h[i]?,h[j]? with
  |some (.lst xs),Za (.lst ys)=>if xs.length+ys.length<=sizeLine then .ok (.ref h.length) (h++[.lst<|xs++ys])else .stuck
  |_,_=>.stuck
 |.tup xs,.tup ys,h=>if xs≠[]/\ys≠[]/\xs.length+ys.length<=sizeLine then .ok (.tup<|xs++ys) h else .stuck
 |_,_,_=>.stuck
noncomputable def JY:IV->IV->IH->Res IV
 |.int i,.int j,h=>.ok (.int<|i-j) h
 |_,_,_=>.stuck
def Vt(i j:Int):Prop:=i.natAbs<2^64∨j.natAbs<2^64∨(i.natAbs.log2<1048576/\j.natAbs.log2<1048576)
instance (i j:Int):Decidable (Vt i j):=by unfold Vt;exact inferInstance
noncomputable def XM:IV->IV->IH->Res IV
 |.int i,.int j,h=>if Vt i j then .ok (.int<|i*j) h else .stuck
 |.ref i,.int k,h=>match h[i]? with
  |some (.lst xs)=>if -(2^63)<=k/\k<2^63/\xs.length*k.toNat<=sizeLine then .ok (.ref h.length) (h++[.lst (ZU k.toNat xs).flatten])else .stuck
  |_=>.stuck
 |_,_,_=>.stuck
noncomputable def JS:IV->IV->IH->Res IV
 |.int i,.int j,h=>if 0<j/\j.natAbs.log2<9000 then .ok (.int<|i/j) h else .stuck
 |_,_,_=>.stuck
noncomputable def J8:IV->IV->IH->Res IV
 |.int i,.int j,h=>if 0<j then .ok (.int<|i%j) h else .stuck
 |_,_,_=>.stuck
noncomputable def JK:IV->IV->IH->Res IV
 |.int i,.int j,h=>if 0<=j/\j<=1000000/\i.natAbs<2^64 then .ok (.int<|i^j.toNat) h else .stuck
 |_,_,_=>.stuck
noncomputable def YD:IV->IH->Res IV
 |.int i,h=>.ok (.int (-i)) h
 |_,_=>.stuck
section
variable{ce:CeT}{X:Cx}
theorem fin0{w:V}(N:Now ce X pj ι σi h σ H s)(K:Kont ce X RU pj ι σi σ H (.ok v h) Q E)
  (q:RV X.K ι H v w):∀u s',Inv X pj σ H s'->RelV w u->Q u s':=λu s' I r=>K u s' H ι ⟨I,N.rel,N.st⟩ .refl ⟨w,r,q⟩
theorem finA{io:IX}{o:HO}{Q E:QvT}(N:Now ce X pj ι σi h σ H s)
  (K:Kont ce X RU pj ι σi σ H (.ok (.ref h.length)<|h++[io]) Q E)(l:Zq)(e:H l=Zc)(r:RO ce X.K (ι++[l]) (upd H l o) l io):∀u s',Inv X pj σ (upd H l o) s'->RelV (.ref l) u->Q u s':=λu s' I ru=>by
 obtain⟨R,n⟩:=N.rel.alloc e r
 refine K u s' _ _ ⟨I,R,N.st.mono n⟩ n ⟨.ref l,ru,l,rfl,?_⟩
 rw[<-N.rel.len,Z8<|Zm _]
 simp
theorem finT{xs:Tq}{vs:Tu}{Q E:QvT}(N:Now ce X pj ι σi h σ H s)
  (K:Kont ce X RU pj ι σi σ H (.ok (.tup xs) h) Q E)(l:Zq)(e:H l=Zc)(r:RVs X.K ι H xs vs):∀u s',Inv X pj σ (upd H l<|.tup vs) s'->RelV (.ref l) u->Q u s':=λu s' I ru=>by
 obtain⟨R,n⟩:=N.rel.grow (o:=.tup vs) e
 exact K u s' _ _ ⟨I,R,N.st.mono n⟩ n ⟨.ref l,ru,l,vs,rfl,SqT.of JH,RVs.mono n _ _ r⟩
theorem RVs.new{K:W.Frag}{ι:Tp}{H:Hp}{l:Zq}{o:HO}(e:H l=Zc){xs:Tq}{vs:Tu}(r:RVs K ι H xs vs):RVs K (ι++[l]) (upd H l o) xs vs:=RVs.mono ⟨⟨[l],rfl⟩,Ext.upd_new e⟩ _ _ r
theorem Now.at(N:Now ce X pj ι σi h σ H s){i:Nat}(e:h[i]?=Za o)(ha:ι[i]?=Za a):RO ce X.K ι H a o:=by
 obtain⟨b,e1,r⟩:=N.rel.at_ i o e
 rw[ha]at e1
 cases e1
 exact r
theorem J5q:OpI ce X (ZaS .Add) Jl:=by
 intro pj s σ H ι σi h x y v u Q E N rx ry K
 obtain⟨xv,rx,qx⟩:=rx
 obtain⟨yv,ry,qy⟩:=ry
 cases x with
 |int i=>
  cases y with
  |int j=>
   have e1:xv=.int i:=qx
   have e2:yv=.int j:=qy
   subst e1 e2
   exact Qg (J3e (X:=X.wish E)) N.inv rx ry ⟨i,j,rfl,rfl,fin0 N K rfl⟩
  |_=>exact Zf K
 |str i=>
  cases y with
  |str j=>
   have e1:xv=.str i:=qx
   have e2:yv=.str j:=qy
   subst e1 e2
   dsimp only[Jl]at K
   split at K
   ·rename_i hz
    exact Qg (Jqp (X:=X.wish E)) N.inv rx ry ⟨i,j,rfl,rfl,hz,fin0 N K rfl⟩
   ·exact Zf K
  |_=>exact Zf K
 |tup xs=>
  cases y with
  |tup ys=>
   obtain⟨a,vs,e1,sa,ra⟩:=qx
   obtain⟨b,ws,e2,sb,rb⟩:=qy
   subst e1 e2
   dsimp only[Jl]at K
   split at K
   ·rename_i hz
    obtain⟨h1,h2,h3⟩:=hz
    have n1:vs≠[]:=λz=>h1 (by have:=ra.length;rw[z]at this;exact Zbn this.symm)
    have n2:ws≠[]:=λz=>h2 (by have:=rb.length;rw[z]at this;exact Zbn this.symm)
    exact Qg (Jz9 (X:=X.wish E)) N.inv rx ry ⟨a,b,vs,ws,rfl,rfl,sa,sb,n1,by rw[ra.length,rb.length];exact h3,λz=>absurd z n2,λ_ p hp=>finT N K p hp<|ra.append rb⟩
   ·exact Zf K
  |_=>exact Zf K
 |ref i=>
  cases y with
  |ref j=>
   obtain⟨a,e1,ha⟩:=qx
   obtain⟨b,e2,hb⟩:=qy
   subst e1 e2
   dsimp only[Jl]at K
   cases hi:h[i]? with
   |none=>rw[hi]at K;exact Zf K
   |some oi=>
    cases hj:h[j]? with
    |none=>rw[hi,hj]at K;cases oi<;>exact Zf K
    |some oj=>
     rw[hi,hj]at K
     cases oi with
     |lst xs=>
      cases oj with
      |lst ys=>
       dsimp only at K
       split at K
       ·rename_i hz
        obtain⟨vs,e1,r1⟩:=N.at hi ha
        obtain⟨ws,e2,r2⟩:=N.at hj hb
        exact Qg (J3f (X:=X.wish E)) N.inv rx ry ⟨a,b,vs,ws,rfl,rfl,e1,e2,by rw[r1.length,r2.length];exact hz,λp hp=>finA N K p hp ⟨_,JH,RVs.new hp<|r1.append r2⟩⟩
       ·exact Zf K
      |_=>exact Zf K
     |_=>exact Zf K
  |_=>exact Zf K
 |_=>cases y<;>exact Zf K
theorem J5w:OpI ce X (ZaS .Sub) JY:=by
 intro pj s σ H ι σi h x y v u Q E N rx ry K
 obtain⟨xv,rx,qx⟩:=rx
 obtain⟨yv,ry,qy⟩:=ry
 cases x with
 |int i=>
  cases y with
  |int j=>
   have e1:xv=.int i:=qx
   have e2:yv=.int j:=qy
   subst e1 e2
   exact Qg (J3j (X:=X.wish E)) N.inv rx ry ⟨i,j,rfl,rfl,fin0 N K rfl⟩
  |_=>exact Zf K
 |_=>cases y<;>exact Zf K
theorem Vt.ok(h:Vt i j):IntMulOk i j:=by
 rcases h with h|h|⟨h1,h2⟩
 ·exact .of_left<|intBits_le_64 00 00
 ·exact .of_right<|intBits_le_64 00 00
 ·refine .of_bits ?_ ?_
  ·unfold Builtin.Int.intBits
   split
   ·exact ZR _
   ·have:(2:Nat)^20=1048576:=01
    omega
  ·unfold Builtin.Int.intBits
   split
   ·exact ZR _
   ·have:(2:Nat)^20=1048576:=01
    omega
theorem J0a:OpR X (ZaS .Mult) (rI Vt λi j=>.int<|i*j):=opI λ_ _ _ _ _ _ _ hc q=>mul_int q hc.ok
theorem J5u:OpI ce X (ZaS .Mult) XM:=by
 intro pj s σ H ι σi h x y v u Q E N rx ry K
 obtain⟨xv,rx,qx⟩:=rx
 obtain⟨yv,ry,qy⟩:=ry
 cases x with
 |int i=>
  cases y with
  |int j=>
   have e1:xv=.int i:=qx
   have e2:yv=.int j:=qy
   subst e1 e2
   dsimp only[XM]at K
   split at K
   ·rename_i hz
    exact Qg (J0a (X:=X.wish E)) N.inv rx ry ⟨i,j,rfl,rfl,hz,fin0 N K rfl⟩
   ·exact Zf K
  |_=>exact Zf K
 |ref i=>
  cases y with
  |int k=>
   obtain⟨a,e1,ha⟩:=qx
   have e2:yv=.int k:=qy
   subst e1 e2
   dsimp only[XM]at K
   cases hi:h[i]? with
   |none=>rw[hi]at K;exact Zf K
   |some oi=>
    rw[hi]at K
    cases oi with
    |lst xs=>
     dsimp only at K
     split at K
     ·rename_i hz
      obtain⟨vs,e1,r1⟩:=N.at hi ha
      have rr:∀n:Nat,RVs X.K ι H (ZU n xs).flatten (ZU n vs).flatten:=λn=>by
       induction n with
       |zero=>exact rfl
       |succ n ih=>
        rw[Zbc,Zbc,Zb9,Zb9]
        exact r1.append ih
      exact Qg (J3i (X:=X.wish E)) N.inv rx ry ⟨a,k,vs,rfl,rfl,e1,hz.1,hz.2.1,by rw[r1.length];exact hz.2.2,λp hp=>finA N K p hp ⟨_,JH,RVs.new hp<|rr _⟩⟩
     ·exact Zf K
    |_=>exact Zf K
  |_=>exact Zf K
 |_=>cases y<;>exact Zf K
theorem Jv4:OpR X (ZaS .FloorDiv) (rI (λ_ j=>0<j/\j.natAbs.log2<9000) λi j=>.int<|i/j):=opI λi j _ _ _ _ _ hc q=>by
 have h1:(0:Int)<j:=hc.1
 exact floordiv_int 00 (by rw[Int.fdiv_eq_ediv_of_nonneg i 00];exact q)<|.inl<|PyProof.noPylong_of_log2 hc.2
theorem J3c:OpI ce X (ZaS .FloorDiv) JS:=by
 intro pj s σ H ι σi h x y v u Q E N rx ry K
 obtain⟨xv,rx,qx⟩:=rx
 obtain⟨yv,ry,qy⟩:=ry
 cases x with
 |int i=>
  cases y with
  |int j=>
   have e1:xv=.int i:=qx
   have e2:yv=.int j:=qy
   subst e1 e2
   dsimp only[JS]at K
   split at K
   ·rename_i hz
    exact Qg (Jv4 (X:=X.wish E)) N.inv rx ry ⟨i,j,rfl,rfl,hz,fin0 N K rfl⟩
   ·exact Zf K
  |_=>exact Zf K
 |_=>cases y<;>exact Zf K
theorem J5t:OpI ce X (ZaS .Mod) J8:=by
 intro pj s σ H ι σi h x y v u Q E N rx ry K
 obtain⟨xv,rx,qx⟩:=rx
 obtain⟨yv,ry,qy⟩:=ry
 cases x with
 |int i=>
  cases y with
  |int j=>
   have e1:xv=.int i:=qx
   have e2:yv=.int j:=qy
   subst e1 e2
   dsimp only[J8]at K
   split at K
   ·rename_i hz
    exact Qg (J3g (X:=X.wish E)) N.inv rx ry ⟨i,j,rfl,rfl,hz,fin0 N K rfl⟩
   ·exact Zf K
  |_=>exact Zf K
 |_=>cases y<;>exact Zf K
theorem J5v:OpI ce X (ZaS .Pow) JK:=by
 intro pj s σ H ι σi h x y v u Q E N rx ry K
 obtain⟨xv,rx,qx⟩:=rx
 obtain⟨yv,ry,qy⟩:=ry
 cases x with
 |int i=>
  cases y with
  |int j=>
   have e1:xv=.int i:=qx
   have e2:yv=.int j:=qy
   subst e1 e2
   dsimp only[JK]at K
   split at K
   ·rename_i hz
    exact Qg (J3h (X:=X.wish E)) N.inv rx ry ⟨i,j,rfl,rfl,hz,fin0 N K rfl⟩
   ·exact Zf K
  |_=>exact Zf K
 |_=>cases y<;>exact Zf K
theorem J6m:UnI ce X (unaryOp .USub) YD:=by
 intro pj s σ H ι σi h x v Q E N rx K
 obtain⟨xv,rx,qx⟩:=rx
 cases x with
 |int i=>
  have e1:xv=.int i:=qx
  subst e1
  exact J4l (J4k (X:=X.wish E)) N.inv rx ⟨i,rfl,fin0 N K rfl⟩
 |_=>exact Zf K
noncomputable def cLt:IV->IV->IH->Res IV
 |.int i,.int j,h=>.ok (.bl<|decide (i<j)) h
 |.str x,.str y,h=>.ok (.bl<|decide (x.cps.toList<y.cps.toList)) h
 |_,_,_=>.stuck
noncomputable def cLe:IV->IV->IH->Res IV
 |.int i,.int j,h=>.ok (.bl<|decide (i<=j)) h
 |.str x,.str y,h=>.ok (.bl (!decide (y.cps.toList<x.cps.toList))) h
 |_,_,_=>.stuck
noncomputable def cGt:IV->IV->IH->Res IV
 |.int i,.int j,h=>.ok (.bl<|decide (j<i)) h
 |_,_,_=>.stuck
noncomputable def cGe:IV->IV->IH->Res IV
 |.int i,.int j,h=>.ok (.bl<|decide (j<=i)) h
 |_,_,_=>.stuck
theorem o_lt:OpI ce X (Zas .Lt) cLt:=by
 intro pj s σ H ι σi h x y v u Q E N rx ry K
 obtain⟨xv,rx,qx⟩:=rx
 obtain⟨yv,ry,qy⟩:=ry
 cases x with
 |int i=>
  cases y with
  |int j=>
   have e1:xv=.int i:=qx
   have e2:yv=.int j:=qy
   subst e1 e2
   exact Qg (J51 (X:=X.wish E)) N.inv rx ry ⟨i,j,rfl,rfl,fin0 N K rfl⟩
  |_=>exact Zf K
 |str i=>
  cases y with
  |str j=>
   have e1:xv=.str i:=qx
   have e2:yv=.str j:=qy
   subst e1 e2
   exact Qg (Js7 (X:=X.wish E)) N.inv rx ry ⟨i,j,rfl,rfl,fin0 N K rfl⟩
  |_=>exact Zf K
 |_=>cases y<;>exact Zf K
theorem o_le:OpI ce X (Zas .LtE) cLe:=by
 intro pj s σ H ι σi h x y v u Q E N rx ry K
 obtain⟨xv,rx,qx⟩:=rx
 obtain⟨yv,ry,qy⟩:=ry
 cases x with
 |int i=>
  cases y with
  |int j=>
   have e1:xv=.int i:=qx
   have e2:yv=.int j:=qy
   subst e1 e2
   exact Qg (J50 (X:=X.wish E)) N.inv rx ry ⟨i,j,rfl,rfl,fin0 N K rfl⟩
  |_=>exact Zf K
 |str i=>
  cases y with
  |str j=>
   have e1:xv=.str i:=qx
   have e2:yv=.str j:=qy
   subst e1 e2
   obtain⟨t,rfl⟩:=rx
   obtain⟨t',rfl⟩:=ry
   exact PySem.P.le_str<|fin0 N K rfl _ s N.inv rfl
  |_=>exact Zf K
 |_=>cases y<;>exact Zf K
theorem o_gt:OpI ce X (Zas .Gt) cGt:=by
 intro pj s σ H ι σi h x y v u Q E N rx ry K
 obtain⟨xv,rx,qx⟩:=rx
 obtain⟨yv,ry,qy⟩:=ry
 cases x with
 |int i=>
  cases y with
  |int j=>
   have e1:xv=.int i:=qx
   have e2:yv=.int j:=qy
   subst e1 e2
   exact Qg (J5z (X:=X.wish E)) N.inv rx ry ⟨i,j,rfl,rfl,fin0 N K rfl⟩
  |_=>exact Zf K
 |_=>cases y<;>exact Zf K
theorem o_ge:OpI ce X (Zas .GtE) cGe:=by
 intro pj s σ H ι σi h x y v u Q E N rx ry K
 obtain⟨xv,rx,qx⟩:=rx
 obtain⟨yv,ry,qy⟩:=ry
 cases x with
 |int i=>
  cases y with
  |int j=>
   have e1:xv=.int i:=qx
   have e2:yv=.int j:=qy
   subst e1 e2
   exact Qg (J5y (X:=X.wish E)) N.inv rx ry ⟨i,j,rfl,rfl,fin0 N K rfl⟩
  |_=>exact Zf K
 |_=>cases y<;>exact Zf K
noncomputable def tru:IV->IH->Res Bool
 |.non,h=>.ok Zk h
 |.bl b,h=>.ok b h
 |.int i,h=>.ok (i != 0) h
 |.str x,h=>if x.length<=sizeLine then .ok ((x.length:Int) != 0) h else .stuck
 |.tup xs,h=>.ok (!xs.isEmpty) h
 |.rol xs,h=>.ok (!xs.isEmpty) h
 |.ref i,h=>match h[i]? with
  |some (.lst xs)=>.ok (!xs.isEmpty) h
  |some (.dct kvs)=>.ok (!kvs.isEmpty) h
  |_=>.stuck
theorem RVs.empty{K:W.Frag}{ι:Tp}{H:Hp}{xs:Tq}{vs:Tu}(r:RVs K ι H xs vs):vs.isEmpty=xs.isEmpty:=by
 have:=r.length
 cases xs<;>cases vs<;>simp_all
theorem RPs.empty{κ:Type}{K:W.Frag}{ι:Tp}{H:Hp}{xs:List (κ×IV)}{vs:List (κ×V)}(r:RPs K ι H xs vs):vs.isEmpty=xs.isEmpty:=by
 have:=r.length
 cases xs<;>cases vs<;>simp_all
theorem finB(N:Now ce X pj ι σi h σ H s)(K:Kont ce X RB pj ι σi σ H (.ok c h) Q E):
  ∀s',Inv X pj σ H s'->Q c s':=λs' I=>K c s' H ι ⟨I,N.rel,N.st⟩ .refl rfl
theorem YL:TrI ce X tru:=by
 intro pj s σ H ι σi h x v Q E N rx K
 obtain⟨xv,rx,qx⟩:=rx
 cases x with
 |non=>
  have e1:xv=.non:=qx
  subst e1
  exact Xc (Xa (X:=X.wish E)) N.inv rx ⟨_,rfl,finB N K⟩
 |bl b=>
  have e1:xv=.bl b:=qx
  subst e1
  exact Xc (Xa (X:=X.wish E)) N.inv rx ⟨_,rfl,finB N K⟩
 |int i=>
  have e1:xv=.int i:=qx
  subst e1
  exact Xc (Xa (X:=X.wish E)) N.inv rx ⟨_,rfl,finB N K⟩
 |str y=>
  have e1:xv=.str y:=qx
  subst e1
  dsimp only[tru]at K
  split at K
  ·rename_i hz
   exact Xc (Xa (X:=X.wish E)) N.inv rx ⟨_,⟨hz,rfl⟩,finB N K⟩
  ·exact Zf K
 |tup xs=>
  obtain⟨a,vs,e1,sa,ra⟩:=qx
  subst e1
  exact Xc (Xa (X:=X.wish E)) N.inv rx ⟨!xs.isEmpty,.inr (.inl ⟨vs,sa,by rw[ra.empty]⟩),finB N K⟩
 |rol xs=>
  obtain⟨a,vs,e1,sa,ra⟩:=qx
  subst e1
  exact Xc (Xa (X:=X.wish E)) N.inv rx ⟨!xs.isEmpty,.inl ⟨vs,sa.sq,by rw[ra.empty]⟩,finB N K⟩
 |ref i=>
  obtain⟨a,e1,ha⟩:=qx
  subst e1
  dsimp only[tru]at K
  cases hi:h[i]? with
  |none=>rw[hi]at K;exact Zf K
  |some oi=>
   rw[hi]at K
   cases oi with
   |lst xs=>
    obtain⟨vs,e1,r1⟩:=N.at hi ha
    exact Xc (Xa (X:=X.wish E)) N.inv rx ⟨!xs.isEmpty,.inl ⟨vs,SqL.of e1,by rw[r1.empty]⟩,finB N K⟩
   |dct kvs=>
    obtain⟨vs,e1,r1⟩:=N.at hi ha
    exact Xc (Xa (X:=X.wish E)) N.inv rx ⟨!kvs.isEmpty,.inr (.inr ⟨vs,e1,by rw[r1.empty]⟩),finB N K⟩
   |_=>exact Zf K
def JG(a:A1):E1:=λσ h=>(a σ h).bind λxs h1=>if xs.length<=sizeLine then .ok (.tup xs) h1 else .stuck
def J6(a:A1):E1:=λσ h=>(a σ h).bind λxs h1=>if xs.length<=sizeLine then .ok (.ref h1.length) (h1++[.lst xs])else .stuck
variable{es:Ta}{mr:A1}{pos:Pos}
theorem J5k{x1}(hr:PAi ce X es mr):PEi ce X (.Tuple es x1 pos) (JG mr):=λpj s σ H ι σi h Q E N K=>by
 refine wpAny_Tuple_spliced<|(hr pos).run N K λxs h1 us s1 H1 ι1 N1 n1 r1 K1=>?_
 change Kont ce X RU pj ι1 σi σ H1 (if xs.length<=sizeLine then _ else _) Q E at K1
 split at K1
 ·rename_i hz
  obtain⟨vs,rv,qs⟩:=r1
  have hl:=rv.length
  have hl2:=qs.length
  have hf:H1 s1.heap.objs.size=Zc:=N1.inv.hok.fresh<|Zm _
  refine⟨by rw[<-hl,hl2];exact hz,?_⟩
  exact finT N1 K1 s1.heap.objs.size hf qs _ _ (N1.inv.laid (t':=s1.toks) (λb u e=>Zj _ e) (Zm _) ⟨by rw[hl2];exact hz,us,rv,⟨_,Z2 _ rfl,rfl,_,rfl⟩⟩) rfl
 ·exact Zf K1
theorem J5h(hr:PAi ce X es mr):PEi ce X (.List es pos) (J6 mr):=λpj s σ H ι σi h Q E N K=>by
 refine wpAny_List_spliced<|(hr pos).run N K λxs h1 us s1 H1 ι1 N1 n1 r1 K1=>?_
 change Kont ce X RU pj ι1 σi σ H1 (if xs.length<=sizeLine then _ else _) Q E at K1
 split at K1
 ·rename_i hz
  obtain⟨vs,rv,qs⟩:=r1
  have hl:=rv.length
  have hl2:=qs.length
  have hf:H1 s1.heap.objs.size=Zc:=N1.inv.hok.fresh<|Zm _
  refine⟨by rw[<-hl,hl2];exact hz,?_⟩
  exact finA N1 K1 s1.heap.objs.size hf ⟨_,JH,RVs.new hf qs⟩ _ _ (N1.inv.laid (t':=s1.toks) (λb u e=>Zj _ e) (Zm _) ⟨by rw[hl2];exact hz,us,0,rv,Z2 _ rfl⟩) rfl
 ·exact Zf K1
end
section
variable{prog:ZB}{w:ZV}{A:ZN}{E:QvT}{s:Zn}
theorem Jlq(hne:t≠it):∀(n i:Nat)(s:Zn)(Q:To->Zn->Prop),s.heap.IsListIter it t i->s.heap.IsList t items->i+n<=items.size ->
  (∀h',h'.IsListIter it t (i+n)->Zc2 it s.heap h'->Q ((items.toList.drop i).take n) {s with heap:=h'})->Z0 (Z9 prog w) A (draw (.ref it) n) Q E s
 |0,i,s,Q,hit,_,_,hQ=>by
  show Z0 _ _ (pure []) Q E s
  exact Zv<|by simpa using hQ s.heap hit<|Heap.SameBut.refl ..
 |n+1,i,s,Q,hit,ht,hle,hQ=>by
  have hlt:i<items.size:=00
  show Z0 _ _ (Zc3 (.ref it)>>=_) Q E s
  refine Zd (ZdW hit ht (x:=items[i]) (by simp[hlt]) λh₁ hit₁ hs₁=>?_)
  refine Zd<|Zaj<|Jlq hne n (i+1) _ _ hit₁ (ht.extBut hs₁.extBut hne) 00 λh₂ hit₂ hs₂=>Zv ?_
  have hd:items.toList.drop i=items[i]::items.toList.drop (i+1):=by simp[ZaI,hlt]
  have:=hQ h₂ (by rw[show i+(n+1)=i+1+n by omega];exact hit₂)<|hs₁.trans hs₂
  rw[hd,List.take_succ_cons]at this
  exact this
theorem Jgr{Q:To->Zn->Prop}(hh:A.handled=Zc)(ht:s.heap.IsList t items)
  (hQ:∀h',Heap.ExtBut s.heap.objs.size s.heap h'->Q items.toList {s with heap:=h'}):Z0 (Z9 prog w) A (unpackItems (.ref t) items.size Zc) Q E s:=by
 have hlt:t≠s.heap.objs.size:=by obtain⟨o,ho,_⟩:=ht;exact Z7<|Z3 ho
 unfold unpackItems
 refine Zd ?_
 ·unfold notIterableAtAll
  refine Zd<|wpAny_specialOf ht.typeIs slot_list_iter.lookup ?_
  refine Zv ?_
  simp only[Zae,if_false]
  refine Zd<|Zaj<|Zba ht ?_
  refine Zd<|Zaj<|Jlq hlt items.size 0 _ _ ⟨_,Z2 _ rfl,rfl,rfl⟩ (ht.push _) 00 λh₁ hit₁ hs₁=>?_
  have hall:List.take items.size (List.drop 0 items.toList)=items.toList:=by
   rw[List.drop_zero];exact Za1 03
  rw[hall]
  rw[if_neg 03]
  have ht₁:h₁.IsList t items:=(ht.push _).extBut hs₁.extBut hlt
  refine Zd<|Zaj<|Zek hh hit₁ ht₁ 03 λh₂ he₂=>?_
  simp only[Option.isSome_none,Zae,if_false]
  refine Zv<|hQ h₂ λb o hb e=>he₂ b o hb<|hs₁.extBut b o hb<|Zj _ e
theorem Jfx{env:Env}{elts:Ta}{x1}{pos:Pos}{t:Zq}{items:Tf}{Q:Unit->Zn->Prop}(hh:A.handled=Zc)(ht:s.heap.IsList t items)
  (hn:(ZaL elts env).length=items.size)(hstar:(ZaL elts env).findIdx? (·.1)=Zc)
  (h:∀h',Heap.ExtBut s.heap.objs.size s.heap h'->Z0 (Z9 prog w) A (Ze8 ((ZaL elts env).map (·.2)) items.toList) Q E {s with heap:=h'}):
  Z0 (Z9 prog w) A (ZdZ (.Tuple elts x1 pos) env<|.ref t) Q E s:=by
 rw[assign_Tuple]
 refine Zd<|Zbj ?_
 unfold unpack
 rw[hn,hstar]
 exact Zd<|Zaj<|Jgr hh ht h
end
abbrev S1:=ISt->IH->SRes
structure Noted(L:Zq)(fs:Tp)(e:Zq)(h h3:Zax):Prop where
 ex:∃oe vs T ts,h.get? e=Za oe/\oe.data=.fields vs/\1<vs.size/\h3.get? e=Za (Obj.mapFields (·.setIfInBounds 1 (.ref T)) oe)/\T≠e/\h.get? T=Zc/\h3.get? T=Za {cls:=.type "traceback",dict:=Zc,data:=.fields ts}/\ts[3]?=Za (ZeO L)
 slot:∀b o,h.get? b=Za o->b≠e->∃sl,h3.get? b=Za {o with slots:=sl}
 keep:∀b o,h.get? b=Za o->b≠e->b∉fs->h3.get? b=Za o
def Fly(L:Zq)(fs:Tp)(e:Zq)(s s1:Zn):Prop:=s1=s∨∃h',s1={s with heap:=h'}/\Noted L fs e s.heap h'
def JL(ce:CeT)(X:Cx)(pj:PnT)(ι:Tp)(H:Hp)(r:SRes)(Q:Flow->Zn->Prop)(E:QvT):Prop:=
 match r with
 |.next σi' h'=>∀s' σ' H' ι',Now ce X pj ι' σi' h' σ' H' s'->Nxt ι H ι' H'->Q .next s'
 |.brk σi' h'=>∀s' σ' H' ι',Now ce X pj ι' σi' h' σ' H' s'->Nxt ι H ι' H'->Q .brk s'
 |.cont σi' h'=>∀s' σ' H' ι',Now ce X pj ι' σi' h' σ' H' s'->Nxt ι H ι' H'->Q .cont s'
 |.ret v h'=>∀u s' σi' σ' H' ι',Now ce X pj ι' σi' h' σ' H' s'->Nxt ι H ι' H'->RU X.K ι' H' v u->Q (.ret u) s'
 |.exc n σi' h'=>∀pl a s' σ' H' ι',Now ce X (pj++pl) ι' σi' h' σ' H' s'->Nxt ι H ι' H'->ι'[n]?=Za a->∀s1,Fly X.env.locals (frs X.stack) a s' s1->E (.ref a) s1
 |.stuck=>False
theorem JL.mono(k:JL ce X pj ι H r Q E)(n:Nxt ι H ι' H'):JL ce X pj ι' H' r Q E:=by
 cases r with
 |next σ h=>exact λs' σ' H2 ι2 N n2=>k s' σ' H2 ι2 N<|n.trans n2
 |brk σ h=>exact λs' σ' H2 ι2 N n2=>k s' σ' H2 ι2 N<|n.trans n2
 |cont σ h=>exact λs' σ' H2 ι2 N n2=>k s' σ' H2 ι2 N<|n.trans n2
 |ret v h=>exact λu s' σi' σ' H2 ι2 N n2=>k u s' σi' σ' H2 ι2 N<|n.trans n2
 |exc m σ h=>exact λpl a s' σ' H2 ι2 N n2=>k pl a s' σ' H2 ι2 N<|n.trans n2
 |stuck=>exact k
def PSi(ce:CeT)(X:Cx)(t:Sem Flow)(m:S1):Prop:=
 ∀(pj:PnT)(s:Zn)(σ:L2.St)(H:Hp)(ι:Tp)(σi:ISt)(h:IH)(Q:Flow->Zn->Prop)(E:QvT),Now ce X pj ι σi h σ H s->JL ce X pj ι H (m σi h) Q E->Z0 (Z9 X.prog X.w) X.A t Q E s
abbrev PS1(ce:CeT)(X:Cx)(st:Zdt)(m:S1):Prop:=PSi ce X (exec st X.env) m
abbrev PS2(ce:CeT)(X:Cx)(sts:Ti)(m:S1):Prop:=PSi ce X (execs sts X.env) m
noncomputable def Jr:S1:=λσ h=>.next σ h
def Jg(a b:S1):S1:=λσ h=>match a σ h with
 |.next σ' h'=>b σ' h'
 |r=>r
noncomputable def J0k:S1:=λσ h=>.next σ h
def Jxz:S1:=λσ h=>.brk σ h
def J3y:S1:=λσ h=>.cont σ h
noncomputable def rS {α:Type}(σ:ISt)(r:Res α)(k:α->IH->SRes):SRes:=match r with
 |.ok a h=>k a h
 |.exc n h=>.exc n σ h
 |.stuck=>.stuck
def JP(e:E1):S1:=λσ h=>rS σ (e σ h) λ_ h'=>.next σ h'
def Jk(e:E1):S1:=λσ h=>rS σ (e σ h) λv h'=>.ret v h'
noncomputable def J0m:S1:=λ_ h=>.ret .non h
def sIf(t:T1)(a b:S1):S1:=λσ h=>rS σ (t σ h) λc h'=>if c then a σ h' else b σ h'
def Jj(i:Nat)(e:E1):S1:=λσ h=>rS σ (e σ h) λv h'=>.next (σ.set i<|Za v) h'
section
variable{ce:CeT}{X:Cx}{st:Zdt}{rest:Ti}{m m1 m2:S1}{e:Expr}{me:E1}{pos:Pos}
theorem krun{α β:Type}{R:REL α β}{t:Sem β}{mm:ISt->IH->Res α}(p:PX ce X R t mm){pj:PnT}{s:Zn}{σ:L2.St}{H:Hp}{ι:Tp}{σi:ISt}{h:IH}(N:Now ce X pj ι σi h σ H s){g:α->IH->SRes}{Q:Flow->Zn->Prop}{E:QvT}{Q1:β->Zn->Prop}
  (K:JL ce X pj ι H (rS σi (mm σi h) g) Q E)
  (step:∀x h1 u s1 H1 ι1,Now ce X pj ι1 σi h1 σ H1 s1->Nxt ι H ι1 H1->R X.K ι1 H1 x u->JL ce X pj ι1 H1 (g x h1) Q E->Q1 u s1):Z0 (Z9 X.prog X.w) X.A t Q1 E s:=by
 refine p pj s σ H ι σi h Q1 E N ?_
 cases e:mm σi h with
 |ok v h'=>
  rw[e]at K
  exact λu s' H' ι' N' n' r=>step v h' u s' H' ι' N' n' r<|JL.mono (r:=g v h') K n'
 |exc n h'=>
  rw[e]at K
  exact λpl a s' H' ι' N' n' q=>K pl a s' σ H' ι' N' n' q s'<|.inl rfl
 |stuck=>
  rw[e]at K
  exact K
theorem J3w:PS2 ce X [] Jr:=λ_ s σ H ι _ _ _ _ N K=>Zdf<|K s σ H ι N .refl
theorem J0i(h1:PS1 ce X st m1)(h2:PS2 ce X rest m2):PS2 ce X (st::rest) (Jg m1 m2):=by
 intro pj s σ H ι σi h Q E N K
 refine wpAny_execs_cons<|h1 pj s σ H ι σi h _ E N ?_
 unfold Jg at K
 cases e:m1 σi h with
 |next σ' h'=>
  rw[e]at K
  exact λs' σ2 H' ι' N' n'=>h2 pj s' σ2 H' ι' σ' h' Q E N'<|JL.mono (r:=m2 σ' h') K n'
 |brk σ' h'=>rw[e]at K;exact K
 |cont σ' h'=>rw[e]at K;exact K
 |ret v h'=>rw[e]at K;exact K
 |exc n σ' h'=>rw[e]at K;exact K
 |stuck=>rw[e]at K;exact K
theorem J3x(h1:PS1 ce X st m1):PS2 ce X [st] m1:=by
 intro pj s σ H ι σi h Q E N K
 refine wpAny_execs_cons<|h1 pj s σ H ι σi h _ E N ?_
 cases e:m1 σi h with
 |next σ' h'=>
  rw[e]at K
  exact λs' σ2 H' ι' N' n'=>Zdf<|K s' σ2 H' ι' N' n'
 |brk σ' h'=>rw[e]at K;exact K
 |cont σ' h'=>rw[e]at K;exact K
 |ret v h'=>rw[e]at K;exact K
 |exc n σ' h'=>rw[e]at K;exact K
 |stuck=>rw[e]at K;exact K
theorem J34:PS1 ce X (.Pass pos) J0k:=λ_ s σ H ι _ _ _ _ N K=>wpAny_Pass<|K s σ H ι N .refl
theorem J0n:PS1 ce X (.Break pos) Jxz:=λ_ s σ H ι _ _ _ _ N K=>wpAny_Break<|K s σ H ι N .refl
theorem J32:PS1 ce X (.Continue pos) J3y:=λ_ s σ H ι _ _ _ _ N K=>wpAny_Continue<|K s σ H ι N .refl
theorem J33(he:PEi ce X e me)(hs:Zdq e Zc pos.line X.env=pure Zk:=by rfl):PS1 ce X (.Expr e pos) (JP me):=λpj s σ H ι σi h Q E N K=>
 wpAny_Expr_any (krun he N K λx h1 u s1 H1 ι1 N1 n1 r1 K1=>K1 s1 σ H1 ι1 N1 .refl) N.inv.quiet hs
theorem J6f(he:PEi ce X e me):PS1 ce X (.Return (Za e) pos) (Jk me):=λpj s σ H ι σi h Q E N K=>
 wpAny_Return_some (krun he N K λx h1 u s1 H1 ι1 N1 n1 r1 K1=>K1 u s1 σi σ H1 ι1 N1 .refl r1)
theorem J35:PS1 ce X (.Return Zc pos) J0m:=λpj s σ H ι σi h Q E N K=>wpAny_Return_none<|K .none s σi σ H ι N .refl ⟨.non,rfl,rfl⟩
theorem s_if{c:Expr}{a b:Ti}{mt:T1}(hc:PTi ce X c mt)(ha:PS2 ce X a m1)(hb:PS2 ce X b m2):PS1 ce X (.If c a b pos) (sIf mt m1 m2):=λpj s σ H ι σi h Q E N K=>
 wpAny_If (krun hc N K λx h1 u s1 H1 ι1 N1 n1 r1 K1=>by
  have r':u=x:=r1
  subst r'
  cases u with
  |true=>exact ha pj s1 σ H1 ι1 σi h1 Q E N1 K1
  |false=>exact hb pj s1 σ H1 ι1 σi h1 Q E N1 K1)
theorem J36{i:Nat}{x:Str}{pos':Pos}(hN:X.N.Nodup)(he:PEi ce X e me)(hi:X.N[i]?=Za x:=by rfl)(hx:Loc X.env.scope x:=by assumption)(hs:Zdq e (Za<|.Name x pos') pos.line X.env=pure Zk:=by rfl)
  (hf:X.fn x=Zh∨X.env.scope.names.lookup x=Za .local:=by assumption):PS1 ce X (.Assign [.Name x pos'] e pos) (Jj i me):=λpj s σ H ι σi h Q E N K=>
 wpAny_Assign_Name (krun he N K λv h1 u s1 H1 ι1 N1 n1 r1 K1=>by
  obtain⟨w,rw',q⟩:=r1
  exact Jg0 N1.inv hN hi hx rw' (λs2 I2=>K1 s2 _ H1 ι1 ⟨I2,N1.rel,N1.st.set i q⟩ .refl) hf) hs
abbrev G1:=IV->ISt->IH->SRes
def PGi(ce:CeT)(X:Cx)(tg:Expr)(g:G1):Prop:=
 ∀(pj:PnT)(s:Zn)(σ:L2.St)(H:Hp)(ι:Tp)(σi:ISt)(h:IH)(v:IV)(u:Ze)(Q:Flow->Zn->Prop)(E:QvT),Now ce X pj ι σi h σ H s->RU X.K ι H v u->JL ce X pj ι H (g v σi h) Q E ->
  Z0 (Z9 X.prog X.w) X.A (ZdZ tg X.env u) (λ_ s'=>Q .next s') E s
noncomputable def gNm (i:Nat):G1:=λv σ h=>.next (σ.set i<|Za v) h
theorem g_nm(hN:X.N.Nodup)(hi:X.N[i]?=Za x:=by rfl)(hx:Loc X.env.scope x:=by assumption)(hf:X.fn x=Zh∨X.env.scope.names.lookup x=Za .local:=by assumption):PGi ce X (.Name x pos) (gNm i):=by
 intro pj s σ H ι σi h v u Q E N r K
 obtain⟨w,rw',q⟩:=r
 exact wpAny_assign_Name<|Jg0 N.inv hN hi hx rw' (λs2 I2=>K s2 _ H ι ⟨I2,N.rel,N.st.set i q⟩ .refl) hf
def PGsi(ce:CeT)(X:Cx)(ts:Ta)(g:Tq->ISt->IH->SRes):Prop:=
 ∀(pj:PnT)(s:Zn)(σ:L2.St)(H:Hp)(ι:Tp)(σi:ISt)(h:IH)(vs:Tq)(us:To)(Q:Flow->Zn->Prop)(E:QvT),Now ce X pj ι σi h σ H s->RUs X.K ι H vs us->JL ce X pj ι H (g vs σi h) Q E ->
  Z0 (Z9 X.prog X.w) X.A (Ze8 ((ZaL ts X.env).map (·.2)) us) (λ_ s'=>Q .next s') E s
noncomputable def gN:Tq->ISt->IH->SRes
 |[],σ,h=>.next σ h
 |_::_,_,_=>.stuck
def gC(g:G1)(r:Tq->ISt->IH->SRes):Tq->ISt->IH->SRes
 |v::vs,σ,h=>match g v σ h with
  |.next σ' h'=>r vs σ' h'
  |.exc n σ' h'=>.exc n σ' h'
  |_=>.stuck
 |[],_,_=>.stuck
theorem J2e:PGsi ce X [] gN:=by
 intro pj s σ H ι σi h vs us Q E N r K
 cases vs with
 |nil=>
  obtain⟨xs,rv,q⟩:=r
  have e1:xs=[]:=q
  subst e1
  cases rv
  exact assignInOrder_nil<|K s σ H ι N .refl
 |cons v vs=>exact Zf K
theorem Jza{tg:Expr}{ts:Ta}{g:G1}{r:Tq->ISt->IH->SRes}(h1:PGi ce X tg g)(h2:PGsi ce X ts r)
  (hs:(ZaL (tg::ts) X.env).map (·.2)=ZdZ tg X.env::(ZaL ts X.env).map (·.2):=by rfl):PGsi ce X (tg::ts) (gC g r):=by
 intro pj s σ H ι σi h vs us Q E N ru K
 cases vs with
 |nil=>exact Zf K
 |cons v vs=>
  obtain⟨xs,rv,x,xr,e1,q,qs⟩:=ru
  subst e1
  cases rv with
  |cons r1 r2=>
   rw[hs]
   refine assignInOrder_cons (h1 pj s σ H ι σi h v _ (λf s'=>Z0 (Z9 X.prog X.w) X.A (Ze8 ((ZaL ts X.env).map (·.2)) _) (λ_ s'=>Q .next s') E s') E N ⟨x,r1,q⟩ ?_)
   have K':JL ce X pj ι H (match g v σi h with|.next σ' h'=>r vs σ' h'|.exc n σ' h'=>.exc n σ' h'|_=>.stuck) Q E:=K
   cases e:g v σi h with
   |next σ' h'=>
    rw[e]at K'
    exact λs' σ2 H' ι' N' n'=>h2 pj s' σ2 H' ι' σ' h' vs _ Q E N' ⟨xr,r2,RVs.mono n' _ _ qs⟩<|JL.mono (r:=r vs σ' h') K' n'
   |exc n σ' h'=>rw[e]at K';exact K'
   |_=>rw[e]at K';exact(show False from K').elim
noncomputable def gTp (n:Nat)(g:Tq->ISt->IH->SRes):G1:=λv σ h=>match v with
 |.tup xs=>if xs.length=n then g xs σ h else .stuck
 |.ref i=>(match h[i]? with
  |some (.lst xs)=>if xs.length=n then g xs σ h else .stuck
  |_=>.stuck)
 |_=>.stuck
theorem J48{es:Ta}{k n:Nat}{g:Tq->ISt->IH->SRes}(hc:X.calm=Zh)(hg:PGsi ce X es g)(hn:(ZaL es X.env).length=n:=by rfl)(hst:(ZaL es X.env).findIdx? (·.1)=Zc:=by rfl):PGi ce X (.Tuple es k pos) (gTp n g):=by
 intro pj s σ H ι σi h v u Q E N r K
 obtain⟨w,rw',q⟩:=r
 cases v with
 |tup xs=>
  obtain⟨a,vs,e1,sa,ra⟩:=q
  subst e1
  cases rw'
  unfold gTp at K
  dsimp only at K
  split at K
  ·rename_i hl
   obtain⟨its,rv,ht,hz⟩:=N.inv.tuple sa
   have l1:=ra.length
   have l2:=rv.length
   refine assign_Tuple_tuple (N.inv.ok.hd hc) ht (by simp only[Zt];omega) hst λh' hx=>?_
   have I1:Inv X pj σ H {s with heap:=h'}:=N.inv.kept (t':=s.toks) λb o e=>hx b o (Z7<|Z3 e) e
   exact hg pj _ σ H ι σi h xs _ Q E ⟨I1,N.rel,N.st⟩ ⟨vs,by simpa using rv,ra⟩ K
  ·exact Zf K
 |ref i=>
  obtain⟨a,e1,ha⟩:=q
  subst e1
  cases rw'
  unfold gTp at K
  dsimp only at K
  cases hi:h[i]? with
  |none=>rw[hi]at K;exact Zf K
  |some ob=>
   rw[hi]at K
   cases ob with
   |lst xs=>
    dsimp only at K
    split at K
    ·rename_i hl
     obtain⟨vs,g1,ra⟩:=N.at hi ha
     obtain⟨its,rv,ht,hz⟩:=N.inv.list<|SqL.of g1
     have l1:=ra.length
     have l2:=rv.length
     refine Jfx (N.inv.ok.hd hc) ht.isList (by simp only[Zt];omega) hst λh' hx=>?_
     have I1:Inv X pj σ H {s with heap:=h'}:=N.inv.kept (t':=s.toks) λb o e=>hx b o (Z7<|Z3 e) e
     exact hg pj _ σ H ι σi h xs _ Q E ⟨I1,N.rel,N.st⟩ ⟨vs,by simpa using rv,ra⟩ K
    ·exact Zf K
   |_=>exact Zf K
 |_=>exact Zf K
def sAsg(e:E1)(g:G1):S1:=λσ h=>rS σ (e σ h) λv h'=>g v σ h'
theorem J6b{tg:Expr}{g:G1}(he:PEi ce X e me)(hg:PGi ce X tg g)(hs:swapsWithSole [tg] e pos.line X.env=pure Zk:=by rfl)(hw:swappedStores [tg] e X.env=pure Zc:=by rfl)
  (h1:(ZaL [tg] X.env).map (·.2)=[ZdZ tg X.env]:=by rfl):PS1 ce X (.Assign [tg] e pos) (sAsg me g):=λpj s σ H ι σi h Q E N K=>
 wpAny_Assign_stores (krun he N K λv h2 u s1 H1 ι1 N1 n1 r1 K1=>by
  rw[h1]
  exact hg pj s1 σ H1 ι1 σi h2 v u Q E N1 r1 K1) hs hw
end
section
variable{X:Cx}{pj:PnT}{σ:L2.St}{H:Hp}{s:Zn}{M:Model}{E:QvT}{Q:Unit->Zn->Prop}{a C:Zq}{tv:Ze}{d:Wz}{h3:Zax}{s1:Zn}
end
def CXI(P:ZB)(w:ZV):CXT:=λouter H s E e s'=>∃H',s'.os=s.os/\Zdo s'.gens/\Un (frs outer) [] H H' s.heap s'.heap/\HOk P w H' s'.heap/\E e Zc H'
section
variable{X:Cx}{pj:PnT}{σ:L2.St}{H:Hp}{s:Zn}{k:Nat}{f C:Zq}{fd:ZaH}{ps:Tg}{sp:Sp}{dvs:Tu}{ds:To}{E:XK}{Q:VK}{us:To}{vs:Tu}{W:QvT}
theorem Jx7(I:Inv X pj σ H s)(h:CXI X.prog X.w X.stack H s E e s'):∃H',Inv X pj σ H' s'/\E e Zc H':=by
 obtain⟨H',os,bare,un,hok,q⟩:=h
 exact⟨H',I.call' os un hok bare λb z=>absurd z 03,q⟩
theorem J0h(F:FnOk X.prog X.w X.K X.mg X.base (CXI X.prog X.w) k f fd ps sp)(hr:Room k X.A)(hb:Qp X.K fd ps ds)(hd:Vals dvs ds)(I:Inv X pj σ H s)(r:Vals vs us)(h:sp (vs++dvs) H Q E)
  (hx:∀e s' H',Inv X pj σ H' s'->E e Zc H'->W e s'):Z0 (Z9 X.prog X.w) X.A (call (.ref f) us) (EP X pj σ Q) W s:=by
 have ra:Vals (vs++dvs) (us++ds):=r.append hd
 have la:=ra.length
 have lf:=F.len _ _ _ _ h
 refine ZeE<|Zc9 (F.run _ _ _ _ ⟨us,[]⟩ _ _ _ _ hr I.env0 (hb s us I.kIn 00) ra h) λres s' q=>?_
 match res,q with
 |.error e,q=>
  obtain⟨H',I',z⟩:=Jx7 I q
  exact hx e s' H' I' z
 |.ok (.ret u),q=>exact I.after q
 |.ok .next,q=>exact Zbt q
 |.ok .brk,q=>exact Zbt q
 |.ok .cont,q=>exact Zbt q
theorem Jtf(M:Mk X.K C f)(F:FnOk X.prog X.w X.K X.mg X.base (CXI X.prog X.w) k f fd ps sp)(hr:Room (k+1) X.A)(hb:Qp X.K fd ps ds)(hd:Vals dvs ds)(I:Inv X pj σ H s)(r:Vals vs us)
  (h:∀x dx,H x=Zc->H dx=Zc->dx≠x->sp (.ref x::(vs++dvs)) (upd (upd H dx<|.own x) x<|.ins C dx []) (λv H2=>v=.non/\Q (.ref x) H2) E)
  (hx:∀e s' H',Inv X pj σ H' s'->E e Zc H'->W e s'):Z0 (Z9 X.prog X.w) X.A (call (.ref C) us) (EP X pj σ Q) W s:=by
 have z0:=s.heap.objs.size
 have hq:=h (s.heap.objs.size+1) s.heap.objs.size (I.hok.fresh<|ZaU _) (I.hok.fresh<|Zm _)<|Z7<|Zaz _
 have J:=Inv.made (C:=C) I
 have ra:Vals (V.ref (s.heap.objs.size+1)::(vs++dvs)) (Ze0 (s.heap.objs.size+1)::(us++ds)):=.cons rfl (r.append hd)
 have la:=ra.length
 have lf:=F.len _ _ _ _ hq
 have hl:(Ze0 (s.heap.objs.size+1)::us++ds).length=ps.length:=by
  rw[Zaf]
  omega
 refine ZeE<|Jvz (f:=f) I.kIn M.makes M.init (beq_iff_eq.mp M.fn)<|Zc9 (F.run _ _ _ _ ⟨.ref (s.heap.objs.size+1)::us,[]⟩ _ _ _ _ (hr.make C us []) (J.env0.make C us []) (hb _ (.ref (s.heap.objs.size+1)::us) J.kIn hl) ra hq) λres s' q=>?_
 match res,q with
 |.error e,q=>
  obtain⟨H',I',z⟩:=Jx7 J q
  exact hx e s' H' I' z
 |.ok (.ret u),q=>
  obtain⟨v,H',J3,rv,ev,q3⟩:=J.after q
  subst ev
  exact⟨rv,⟨V.ref<|s.heap.objs.size+1,H',J3,rfl,q3⟩⟩
 |.ok .next,q=>exact Zbt q
 |.ok .brk,q=>exact Zbt q
 |.ok .cont,q=>exact Zbt q
end
structure ItI where
 xs:Tq
 chk:IH->Prop
open Classical in
def Qj(chk:IH->Prop)(g:G1)(b:S1):Tq->ISt->IH->SRes
 |[],σ,h=>if chk h then .next σ h else .stuck
 |x::xs,σ,h=>if chk h then(match g x σ h with
   |.next σ1 h1=>(match b σ1 h1 with
    |.next σ2 h2=>Qj chk g b xs σ2 h2
    |.cont σ2 h2=>Qj chk g b xs σ2 h2
    |.brk σ2 h2=>.next σ2 h2
    |.ret v h2=>.ret v h2
    |_=>.stuck)
   |_=>.stuck)else .stuck
abbrev I1:=ISt->IH->Res ItI
def sFor(it:I1)(g:G1)(b:S1):S1:=λσ h=>rS σ (it σ h) λJ h'=>Qj J.chk g b J.xs σ h'
structure ItOk(ce:CeT)(K:W.Frag)(ι:Tp)(H₀:Hp)(J:It)(I:ItI):Prop where
 go:∀(k:Nat)(x:IV)(h:IH)(H:Hp)(ι':Tp),Nxt ι H₀ ι' H->Rel ce K ι' h H->I.chk h->I.xs[k]?=Za x ->
  J.go k H/\∀y H',J.yld k H y H'->Rel ce K ι' h H'/\Nxt ι' H ι' H'/\RV K ι' H' x y
 stop:∀(k:Nat)(h:IH)(H:Hp)(ι':Tp),Nxt ι H₀ ι' H->Rel ce K ι' h H->I.chk h->I.xs.length<=k->J.stop k H
theorem Rel.get{ce:CeT}{K:W.Frag}{ι:Tp}{h:IH}{H:Hp}(R:Rel ce K ι h H){i:Nat}{o:IX}(e:h[i]?=Za o){a:Zq}(ha:ι[i]?=Za a):RO ce K ι H a o:=by
 obtain⟨b,e1,r⟩:=R.at_ i o e
 rw[ha]at e1
 cases e1
 exact r
def RIt(ce:CeT)(X:Cx)(tg:Expr)(pj:PnT)(ι':Tp)(I:ItI)(itv:Ze)(s2:Zn)(H':Hp):Prop:=
 ∃(it:Zq)(fp:Tp)(tn:Nat->Zax->Prop)(J:It),itv=.ref it/\Turn X.prog X.w X.K tg J fp it tn/\tn 0 s2.heap/\(∀b∈fp,FpOk X pj H' b)/\ItOk ce X.K ι' H' J I
def PIi(ce:CeT)(X:Cx)(tg iter:Expr)(m:I1):Prop:=
 ∀(pj:PnT)(s:Zn)(σ:L2.St)(H:Hp)(ι:Tp)(σi:ISt)(h:IH)(Q:QvT)(E:QvT),Now ce X pj ι σi h σ H s ->
  (match m σi h with
   |.ok I h'=>∀itv s' H' ι',Now ce X pj ι' σi h' σ H' s'->Nxt ι H ι' H'->RIt ce X tg pj ι' I itv s' H'->Q itv s'
   |.exc n h'=>∀pl a s' H' ι',Now ce X (pj++pl) ι' σi h' σ H' s'->Nxt ι H ι' H'->ι'[n]?=Za a->E (.ref a) s'
   |.stuck=>False) ->
  Z0 (Z9 X.prog X.w) X.A (ZaY iter X.env) (λv s1=>Z0 (Z9 X.prog X.w) X.A (ZdV v) Q E s1) E s
section
variable{ce:CeT}{X:Cx}
theorem nof{M:Model}{A:ZN}{α:Type}{t:Sem α}{Q:α->Zn->Prop}{E:QvT}{s:Zn}(h:Z0 M A t Q (λ_ _=>False) s):Z0 M A t Q E s:=Zal h (λ_ _ x=>x) λ_ _ z=>z.elim
theorem Now.pins{pj pl:PnT}{ι:Tp}{σi:ISt}{h:IH}{σ:L2.St}{H:Hp}{s:Zn}(N:Now ce X (pj++pl) ι σi h σ H s):Now ce X pj ι σi h σ H s:=⟨N.inv.unpinned,N.rel,N.st⟩
theorem J6e{tg iter:Expr}{body:Ti}{mi:I1}{g:G1}{mb:S1}{pos:Pos}(hc:X.calm=Zh)(hst:X.stack=X.env::X.outer)(hf:X.env.frame=Za X.env.locals)(hi:PIi ce X tg iter mi)(hg:PGi ce X tg g)(hb:PS2 ce X body mb)
  (hs:∀x,ZbZ iter X.env x=pure x:=by intro _;rfl):PS1 ce X (.For tg iter body [] pos) (sFor mi g mb):=by
 intro pj s σ H ι σi h Q E N K
 refine wpAny_For (hi pj s σ H ι σi h _ E N ?_) hs
 unfold sFor at K
 cases e0:mi σi h with
 |exc n h'=>rw[e0]at K;exact λpl a s' H' ι' N' n' q=>K pl a s' σ H' ι' N' n' q s'<|.inl rfl
 |stuck=>rw[e0]at K;exact K
 |ok I h'=>
  rw[e0]at K
  intro itv s2 H2 ι2 N2 n2 R
  obtain⟨it,fp,tn,J,e,T,st2,f2,OK⟩:=R
  subst e
  have stat:∀{H':Hp},(∀b∈fp,H' b=Zc)->∀b∈fp,FpOk X pj H' b:=λhn b hb=>⟨hn b hb,(f2 b hb).2⟩
  have K2:JL ce X pj ι2 H2 (Qj I.chk g mb I.xs σi h') Q E:=JL.mono (r:=Qj I.chk g mb I.xs σi h') K n2
  refine codeAny_forLoop_any (λn s'=>∃k ιk σk hk σ' H',Now ce X pj ιk σk hk σ' H' s'/\Nxt ι2 H2 ιk H'/\tn k s'.heap/\(∀b∈fp,H' b=Zc)/\n=I.xs.length-k/\k<=I.xs.length/\JL ce X pj ιk H' (Qj I.chk g mb (I.xs.drop k) σk hk) Q E) ?_ I.xs.length
   ⟨0,ι2,σi,h',σ,H2,N2,.refl,st2,λb hb=>(f2 b hb).1,03,ZR _,by simpa using K2⟩
  rintro n s3 ⟨k,ιk,σk,hk,σ3,H3,N3,n3,st3,fr3,rfl,hkl,K3⟩
  by_cases hlt:k<I.xs.length
  ·-- a turn
   have hd:I.xs.drop k=I.xs[k]::I.xs.drop (k+1):=ZaI hlt
   rw[hd]at K3
   unfold Qj at K3
   split at K3
   ·rename_i hck
    obtain⟨go,yl⟩:=OK.go k I.xs[k] hk H3 ιk n3 N3.rel hck<|Zb hlt
    refine nof<|thn (T.item X rfl rfl rfl hc k pj s3 σ3 H3 (λ_ _=>False) N3.inv (stat fr3) st3 go) λr s4 ⟨u,hr,h4⟩=>?_
    subst hr
    refine nof<|thn h4 λ_ s5 ⟨x,H5,I5,r5,y5,st5,fr5⟩=>?_
    obtain⟨R5,n5,q5⟩:=yl x H5 y5
    have I5':=I5.pinned (stat fr5)<|T.obj _ _ st5
    have N5:Now ce X (pj++Vj fp s5.heap) ιk σk hk σ3 H5 s5:=⟨I5',R5,N3.st.mono n5⟩
    cases eg:g I.xs[k] σk hk with
    |next σg hgg=>
     rw[eg]at K3
     dsimp only at K3
     refine nof<|hg _ s5 σ3 H5 ιk σk hk _ u (λ_ s6=>Z0 (Z9 X.prog X.w) X.A (execs body X.env) _ _ s6) (λ_ _=>False) N5 ⟨x,r5,q5⟩ ?_
     rw[eg]
     intro s6 σ6 H6 ι6 N6 n6
     refine hb _ s6 σ6 H6 ι6 σg hgg _ _ N6 ?_
     have again:∀{σ7:L2.St}{H7:Hp}{s7:Zn}{σ7i:ISt}{h7:IH}{ι7:Tp},Now ce X (pj++Vj fp s5.heap) ι7 σ7i h7 σ7 H7 s7->Nxt ι6 H6 ι7 H7->JL ce X pj ιk H3 (Qj I.chk g mb (I.xs.drop<|k+1) σ7i h7) Q E ->
       ∃m,m<I.xs.length-k/\∃k ιk σk hk σ' H',Now ce X pj ιk σk hk σ' H' s7/\Nxt ι2 H2 ιk H'/\tn k s7.heap/\(∀b∈fp,H' b=Zc)/\m=I.xs.length-k/\k<=I.xs.length/\JL ce X pj ιk H' (Qj I.chk g mb (I.xs.drop k) σk hk) Q E:=
      λ{σ7 H7 s7 σ7i h7 ι7} N7 n7 K7=>by
       have nn:Nxt ιk H3 ι7 H7:=(n5.trans n6).trans n7
       refine⟨I.xs.length-(k+1),00,k+1,ι7,σ7i,h7,σ7,H7,N7.pins,n3.trans nn,T.keep _ _ _ st5 λb hb o e=>(N7.inv.pin (b,o)<|Zl _<|Zl _<|Y9 hb e).1,λb hb=>?_,rfl,hlt,K7.mono nn⟩
       obtain⟨o,e,d⟩:=T.obj _ _ st5 b hb
       exact(N7.inv.pin (b,o)<|Zl _<|Zl _<|Y9 hb e).2.1
     cases eb:mb σg hgg with
     |next σ7i h7=>
      rw[eb]at K3
      exact λs7 σ7 H7 ι7 N7 n7=>again N7 n7 K3
     |cont σ7i h7=>
      rw[eb]at K3
      exact λs7 σ7 H7 ι7 N7 n7=>again N7 n7 K3
     |brk σ7i h7=>
      rw[eb]at K3
      exact λs7 σ7 H7 ι7 N7 n7=>K3 s7 σ7 H7 ι7 N7.pins<|(n5.trans n6).trans n7
     |ret v h7=>
      rw[eb]at K3
      exact λu s7 σ7i σ7 H7 ι7 N7 n7 r=>K3 u s7 σ7i σ7 H7 ι7 N7.pins ((n5.trans n6).trans n7) r
     |_=>rw[eb]at K3;exact Zf K3
    |_=>rw[eg]at K3;exact Zf K3
   ·exact Zf K3
  ·have hke:I.xs.drop k=[]:=ZcA 00
   rw[hke]at K3
   unfold Qj at K3
   split at K3
   ·rename_i hck
    have stop:=OK.stop k hk H3 ιk n3 N3.rel hck 00
    refine nof<|thn (T.done X rfl rfl rfl hc k pj s3 σ3 H3 (λ_ _=>False) N3.inv (stat fr3) st3 stop) λr s4 ⟨hr,I4⟩=>?_
    subst hr
    exact Zdf<|K3 s4 σ3 H3 ιk ⟨I4,N3.rel,N3.st⟩ .refl
   ·exact Zf K3
noncomputable def itOf:IV->IH->Res ItI
 |.ref i,h=>match h[i]? with
  |some (.lst xs)=>.ok ⟨xs,λh'=>h'[i]?=Za (.lst xs)⟩ h
  |_=>.stuck
 |.rol xs,h=>.ok ⟨xs,λ_=>True⟩ h
 |.tup xs,h=>.ok ⟨xs,λ_=>True⟩ h
 |_,_=>.stuck
def iVal(e:E1):I1:=λσ h=>(e σ h).bind itOf
variable{tg:Expr}
theorem J2t{a:Zq}{i:Nat}{xs:Tq}{ι:Tp}{H₀:Hp}(ha:ι[i]?=Za a):ItOk ce X.K ι H₀ (Itl X.K a) ⟨xs,λh'=>h'[i]?=Za (.lst xs)⟩:=by
 refine⟨λk x h H ι' hp R hck hx=>?_,λk h H ι' hp R hck hx=>?_⟩
 ·obtain⟨vs,e1,r1⟩:=R.get hck<|hp.at ha
  obtain⟨v,hv,qv⟩:=r1.get hx
  refine⟨⟨vs,v,SqL.of e1,hv⟩,λy H' hy=>?_⟩
  obtain⟨rfl,hy⟩:=hy
  have:=hy vs<|SqL.of e1
  rw[hv]at this
  cases this
  exact⟨R,.refl,qv⟩
 ·obtain⟨vs,e1,r1⟩:=R.get hck<|hp.at ha
  exact⟨vs,SqL.of e1,by rw[r1.length];exact hx⟩
theorem J2u{a:Zq}{xs:Tq}{vs:Tu}{ι:Tp}{H₀:Hp}(sa:SqR X.K H₀ a vs)(ra:RVs X.K ι H₀ xs vs):ItOk ce X.K ι H₀ (Itl X.K a) ⟨xs,λ_=>True⟩:=by
 refine⟨λk x h H ι' hp R hck hx=>?_,λk h H ι' hp R hck hx=>?_⟩
 ·obtain⟨v,hv,qv⟩:=ra.get hx
  have sq:=(hp.ext.sqR sa).sq
  refine⟨⟨vs,v,sq,hv⟩,λy H' hy=>?_⟩
  obtain⟨rfl,hy⟩:=hy
  have:=hy vs sq
  rw[hv]at this
  cases this
  exact⟨R,.refl,RV.mono hp _ _ qv⟩
 ·exact⟨vs,(hp.ext.sqR sa).sq,by rw[ra.length];exact hx⟩
theorem J2v{a:Zq}{xs:Tq}{vs:Tu}{ι:Tp}{H₀:Hp}(sa:SqT X.K H₀ a vs)(ra:RVs X.K ι H₀ xs vs):ItOk ce X.K ι H₀ (Itt X.K a) ⟨xs,λ_=>True⟩:=by
 refine⟨λk x h H ι' hp R hck hx=>?_,λk h H ι' hp R hck hx=>?_⟩
 ·obtain⟨v,hv,qv⟩:=ra.get hx
  have sq:=hp.ext.sqT sa
  refine⟨⟨vs,v,sq,hv⟩,λy H' hy=>?_⟩
  obtain⟨rfl,hy⟩:=hy
  have:=hy vs sq
  rw[hv]at this
  cases this
  exact⟨R,.refl,RV.mono hp _ _ qv⟩
 ·exact⟨vs,hp.ext.sqT sa,by rw[ra.length];exact hx⟩
theorem Jsd{l:Expr}{ml:E1}(hl:PEi ce X l ml):PIi ce X tg l (iVal ml):=by
 intro pj s σ H ι σi h Q E N K
 refine hl pj s σ H ι σi h _ E N ?_
 unfold iVal at K
 cases e0:ml σi h with
 |exc n h'=>rw[e0]at K;exact K
 |stuck=>rw[e0]at K;exact K
 |ok v h'=>
  rw[e0]at K
  intro u s1 H1 ι1 N1 n1 r1
  obtain⟨w,rw',q⟩:=r1
  have fresh:∀b∈[s1.heap.objs.size],FpOk X pj H1 b:=λb hb=>by
   have e:b=s1.heap.objs.size:=by simpa using hb
   subst e
   exact N1.inv.fpOk (Zm _)<|N1.inv.hok.fresh<|Zm _
  cases v with
  |ref i=>
   obtain⟨a,e1,ha⟩:=q
   subst e1
   cases rw'
   cases hi:h'[i]? with
   |none=>simp only[Res.bind,itOf,hi]at K
   |some o=>
    cases o with
    |lst xs=>
     simp only[Res.bind,itOf,hi]at K
     obtain⟨vs,e1,r1⟩:=N1.at hi ha
     obtain⟨its,rv,p,hz⟩:=N1.inv.list<|SqL.of e1
     refine Zba p.isList<|K _ _ H1 ι1 ⟨N1.inv.kept (t':=s1.toks) λb o e=>Zj _ e,N1.rel,N1.st⟩ n1 ?_
     exact⟨s1.heap.objs.size,[s1.heap.objs.size],_,Itl X.K a,rfl,Jm5 a _,⟨_,Z2 _ rfl,rfl,rfl⟩,fresh,J2t ha⟩
    |_=>simp only[Res.bind,itOf,hi]at K
  |rol xs=>
   obtain⟨a,vs,e1,sa,ra⟩:=q
   subst e1
   cases rw'
   simp only[Res.bind,itOf]at K
   obtain⟨its,rv,p,hz⟩:=N1.inv.list sa.sq
   refine Zba p.isList<|K _ _ H1 ι1 ⟨N1.inv.kept (t':=s1.toks) λb o e=>Zj _ e,N1.rel,N1.st⟩ n1 ?_
   exact⟨s1.heap.objs.size,[s1.heap.objs.size],_,Itl X.K a,rfl,Jm5 a _,⟨_,Z2 _ rfl,rfl,rfl⟩,fresh,J2u sa ra⟩
  |tup xs=>
   obtain⟨a,vs,e1,sa,ra⟩:=q
   subst e1
   cases rw'
   simp only[Res.bind,itOf]at K
   obtain⟨its,rv,p,hz⟩:=N1.inv.tuple sa
   refine wpAny_pyIter_tuple (show s1.heap.IsTuple a its.toArray from p)<|K _ _ H1 ι1 ⟨N1.inv.kept (t':=s1.toks) λb o e=>Zj _ e,N1.rel,N1.st⟩ n1 ?_
   exact⟨s1.heap.objs.size,[s1.heap.objs.size],_,Itt X.K a,rfl,Jq4 a _,⟨_,Z2 _ rfl,rfl,rfl⟩,fresh,J2v sa ra⟩
  |_=>simp only[Res.bind,itOf]at K
noncomputable def rngI (lo hi:Int):Tq:=(ZM (hi-lo).toNat).map λk=>.int<|lo+(k:Nat)
def Qr:Tq->IH->Res ItI
 |[.int j],h=>if -(2^62)<=j/\j<2^62 then .ok ⟨rngI 0 j,λ_=>True⟩ h else .stuck
 |_,_=>.stuck
def VV:Tq->IH->Res ItI
 |[.int i,.int j],h=>if -(2^62)<=i/\i<2^62/\ -(2^62)<=j/\j<2^62 then .ok ⟨rngI i j,λ_=>True⟩ h else .stuck
 |_,_=>.stuck
theorem Jl9{vs:Tq}{h:IH}(hv:¬ ∃i j,vs=[.int i,.int j]):VV vs h=.stuck:=by
 unfold VV
 split
 ·exact absurd ⟨_,_,rfl⟩ hv
 ·rfl
def iRg(f:Tq->IH->Res ItI)(a:A1):I1:=λσ h=>(a σ h).bind f
theorem J3u{lo hi:Int}{ι:Tp}{H₀:Hp}:ItOk ce X.K ι H₀ (Itr lo (hi-lo).toNat) ⟨rngI lo hi,λ_=>True⟩:=by
 refine⟨λk x h H ι' hp R hck hx=>?_,λk h H ι' hp R hck hx=>?_⟩
 ·have hk:k<(hi-lo).toNat:=by
   have:=(Zr.mp hx).1
   simpa[rngI]using this
  refine⟨hk,λy H' hy=>?_⟩
  obtain⟨rfl,rfl⟩:=hy
  simp only[rngI,Z4,List.getElem?_range hk]at hx
  cases hx
  exact⟨R,.refl,rfl⟩
 ·have:(rngI lo hi).length=(hi-lo).toNat:=by simp[rngI]
  show(hi-lo).toNat<=k
  rw[<-this]
  exact hx
theorem Jmg{pj:PnT}{σ:L2.St}{H:Hp}{ι:Tp}{σi:ISt}{h:IH}{s:Zn}{Q E:QvT}{lo hi:Int}{t u v:Tok}{tk:Nat}(N:Now ce X pj ι σi h σ H s)
  (h1: -(2^62)<=lo)(h2:lo<2^62)(h3: -(2^62)<=hi)(h4:hi<2^62)
  (K:∀itv s' H' ι',Now ce X pj ι' σi h σ H' s'->Nxt ι H ι' H'->RIt ce X tg pj ι' ⟨rngI lo hi,λ_=>True⟩ itv s' H'->Q itv s'):
  Z0 (Z9 X.prog X.w) X.A (ZdV<|.ref s.heap.objs.size) Q E {s with heap:=s.heap.push {cls:=.type "range",data:=.fields #[.int lo t,.int hi u,.int 1 v]},toks:=tk}:=by
 have:=Jv8 (X:=X) (tg:=tg) (E:=E) (R:=λJ H'=>J=Itr lo (hi-lo).toNat/\H'=H) (t:=t) (u:=u) (v:=v) (tk:=tk) N.inv h1 h2 h3 h4 ⟨rfl,rfl⟩
 refine Zal this (λitv s' hq=>?_) λ_ _ z=>z
 obtain⟨it,fp,tn,J,H',e,I',T,st,f,rfl,rfl⟩:=hq
 exact K itv s' _ ι ⟨I',N.rel,N.st⟩ .refl ⟨it,fp,tn,_,e,T,st,f,J3u⟩
theorem Jve{a:Expr}{ma:A1}{p pos:Pos}(hg:Gl X "range")(hm:X.mg "range"=Zc)(ha:PAi ce X [a] ma)(hs:ZC [a] X.env=[(Zk,ZaY a X.env)]:=by rfl):PIi ce X tg (.Call (.Name "range" p) [a] [] pos) (iRg Qr ma):=by
 intro pj s σ H ι σi h Q E N K
 refine Call_<|Q8 N.inv hg hm boot_range<|Za7 ?_ hs rfl
 refine ha pos pj s σ H ι σi h _ E N ?_
 unfold iRg at K
 cases e0:ma σi h with
 |exc n h'=>rw[e0]at K;exact K
 |stuck=>rw[e0]at K;exact K
 |ok vs h'=>
  rw[e0]at K
  intro us s1 H1 ι1 N1 n1 r1
  obtain⟨xs,rv,qs⟩:=r1
  match vs,K with
  |[.int j],K=>
   obtain⟨w,r,e1,q,q2⟩:=qs
   have e2:r=[]:=q2
   subst e1 e2
   have e3:w=.int j:=q
   subst e3
   cases rv with
   |cons r rr=>
    cases rr
    obtain⟨t,rfl⟩:=r
    simp only[Res.bind,Qr]at K
    by_cases hb: -(2^62)<=j/\j<2^62
    ·rw[if_pos hb]at K
     exact call_range_1<|Jmg N1 00 00 hb.1 hb.2 λitv s' H' ι' N' n' R=>K itv s' H' ι' N' (n1.trans n') R
    ·rw[if_neg hb]at K
     exact K.elim
  |[],K=>exact Zf K
  |.non::_,K=>exact Zf K
  |.bl _::_,K=>exact Zf K
  |.str _::_,K=>exact Zf K
  |.tup _::_,K=>exact Zf K
  |.rol _::_,K=>exact Zf K
  |.ref _::_,K=>exact Zf K
  |.int _::_::_,K=>exact Zf K
theorem Jvf{a b:Expr}{ma:A1}{p pos:Pos}(hg:Gl X "range")(hm:X.mg "range"=Zc)(ha:PAi ce X [a,b] ma)(hs:ZC [a,b] X.env=[(Zk,ZaY a X.env),(Zk,ZaY b X.env)]:=by rfl)(hs2:ZC [b] X.env=[(Zk,ZaY b X.env)]:=by rfl):
  PIi ce X tg (.Call (.Name "range" p) [a,b] [] pos) (iRg VV ma):=by
 intro pj s σ H ι σi h Q E N K
 refine Call_ (Q8 N.inv hg hm boot_range<|Za7 ?_ (by rw[hs,hs2])<|by rw[hs2];rfl)
 refine ha pos pj s σ H ι σi h _ E N ?_
 unfold iRg at K
 cases e0:ma σi h with
 |exc n h'=>rw[e0]at K;exact K
 |stuck=>rw[e0]at K;exact K
 |ok vs h'=>
  rw[e0]at K
  intro us s1 H1 ι1 N1 n1 r1
  obtain⟨xs,rv,qs⟩:=r1
  by_cases hv:∃i j,vs=[.int i,.int j]
  ·obtain⟨i,j,rfl⟩:=hv
   obtain⟨w,r,e1,q,w',r',e1',q',q2⟩:=qs
   have e2:r'=[]:=q2
   subst e1 e1' e2
   have e3:w=.int i:=q
   have e4:w'=.int j:=q'
   subst e3 e4
   cases rv with
   |cons r rr=>
    cases rr with
    |cons r' rr=>
     cases rr
     obtain⟨t,rfl⟩:=r
     obtain⟨t',rfl⟩:=r'
     simp only[Res.bind,VV]at K
     by_cases hb: -(2^62)<=i/\i<2^62/\ -(2^62)<=j/\j<2^62
     ·rw[if_pos hb]at K
      exact call_range_2<|Jmg N1 hb.1 hb.2.1 hb.2.2.1 hb.2.2.2 λitv s' H' ι' N' n' R=>K itv s' H' ι' N' (n1.trans n') R
     ·rw[if_neg hb]at K
      exact K.elim
  ·simp only[Res.bind,Jl9 hv]at K
end
end L3
namespace L3
open PySem PySem.Spec PySem.Calls PyProof.Rows L2
section
variable{prog:ZB}{w:ZV}{A:ZN}{E:QvT}{s:Zn}{K:W.Frag}{x D:Zq}{ox:Obj}
open PySem.W PySem.Builtin PySem.Builtin.ObjectAttr PySem.Builtin.Getset_descriptor in
end
structure ExI(K:W.Frag)(C:Zq):Prop where
 ga:W.findIn K (.ref C) "__getattribute__"=Za (Za<|.builtin "BaseException.__getattribute__")
 mb:W.mroIn K C (.type "BaseException")=Za Zh
 gn:W.findIn K (.ref C) "__getattr__"=Za Zc
 ca:W.findIn K (.ref C) "__class__"=Za (Za<|.builtin "object.__class__")
 mo:W.mroIn K C (.type "object")=Za Zh
 hd:W.hasDictIn K C=Zh
end L3
namespace L3
open PySem PySem.Spec PyProof.Rows L2
noncomputable def Yd (n:Nat)(vs:Tq):ISt:=vs.map Za++ZU (n-vs.length) Zc
noncomputable def SRes.fin (r:SRes):Res IV:=match r with
 |.next _ h'=>.ok .non h'
 |.ret v h'=>.ok v h'
 |_=>.stuck
noncomputable def fnI (n:Nat)(m:S1):Tq->IH->Res IV:=λvs h=>(m (Yd n vs) h).fin
def spI(ce:CeT)(K:W.Frag)(ps:Tg)(f:Tq->IH->Res IV):Sp:=λvs H Q E=>
 vs.length=ps.length/\∃ι h ivs,Rel ce K ι h H/\RVs K ι H ivs vs /\
  match f ivs h with
  |.ok v h'=>∀x H' ι',Rel ce K ι' h' H'->Nxt ι H ι' H'->RV K ι' H' v x->Q x H'
  |.exc n h'=>∀a H' ι',Rel ce K ι' h' H'->Nxt ι H ι' H'->ι'[n]?=Za a->E (.ref a) Zc H'
  |.stuck=>False
theorem RVs.start{K:W.Frag}{ι:Tp}{H:Hp}{N:Tg}{ivs:Tq}{vs:Tu}(r:RVs K ι H ivs vs):RSt K ι H (Yd N.length ivs) (L2.start N vs):=by
 have hl:=r.length
 refine⟨by simp[Yd,L2.start,hl],λj v e=>?_⟩
 unfold Yd at e
 unfold L2.start
 by_cases hj:j<ivs.length
 ·rw[ZE (by simpa using hj),Z4]at e
  rw[ZE (by simp;omega),Z4]
  cases e1:ivs[j]? with
  |none=>rw[e1]at e;cases e
  |some w=>
   rw[e1]at e
   cases e
   obtain⟨u,hu,q⟩:=r.get e1
   exact⟨u,by rw[hu];rfl,q⟩
 ·rw[Z8 (by simpa using hj),ZbJ]at e
  split at e<;>cases e
structure FunD(K:W.Frag)(x qual:Str)(st:Zdt)(f:Zq)(fd:ZaH)(dV:Ze):Prop where
 ex:∃(oc:Ze)(od:Wz)(kV doc pm:Ze)(an:Wz)(cdv ct:Ze)(osl:Wb),
  fd=W.fnOf x qual (Vb st) (Q0 st) (JV st) dV kV doc pm an cdv ct/\K.lookup f=Za ⟨oc,od,.func fd,osl⟩/\W.codeIn K cdv qual=Zh
 kp:W.keepIn K (.ref f)=Zh
section
variable{P:ZB}{w:ZV}{K:W.Frag}{mg:Str->Wx}{base:Zax}{ce:CeT}
theorem FunD.fn{x qual:Str}{st:Zdt}{f:Zq}{fd:ZaH}{dV:Ze}{N ps:Tg}{k n:Nat}{m:S1}(F:FunD K x qual st f fd dV)(S:FnScope N ps<|JV st)
  (hbody:∀(cdv:Ze)(A:ZN)(outer:Th)(s:Zn)(H:Hp)(E:XK),W.codeIn K cdv qual=Zh->Room k (A.deeper<|Zer qual (JV st) s.heap.objs.size f cdv)->PS2 ce (cxOf (CXI P w) P w K mg base N qual (JV st) f cdv A outer s H E).nox (Q0 st) m)(hn:N.length=n:=by rfl):
  FnOk P w K mg base (CXI P w) (k+1) f fd ps (spI ce K ps<|fnI n m):=by
 subst hn
 obtain⟨oc,od,kV,doc,pm,an,cdv,ct,osl,rfl,lk,hcd⟩:=F.ex
 refine J47 lk hcd S (λvs H Q E h=>h.1) λA outer s H vs Q E hr hsp=>?_
 obtain⟨hl,ι,h,ivs,R,rv,hk⟩:=hsp
 refine⟨λD σ H=>∃ι σi h,Rel ce K ι h H/\RSt K ι H σi σ/\match m σi h with
  |.next σi' h'=>∀σ' H' ι',Rel ce K ι' h' H'->RSt K ι' H' σi' σ'->Nxt ι H ι' H'->D.nx σ' H'
  |.ret v h'=>∀x H' ι',Rel ce K ι' h' H'->Nxt ι H ι' H'->RV K ι' H' v x->D.rt x H'
  |_=>False,λpj s' σ' H' D I ht=>?_,ι,Yd N.length ivs,h,R,rv.start,?_⟩
 ·obtain⟨ι,σi,h,R,rs,hm⟩:=ht
  refine Zal (hbody cdv A outer s H E hcd hr pj s' σ' H' ι σi h (SP _ pj D) _ ⟨I.wish _,R,rs⟩ ?_) (λ_ _ z=>z) λ_ _ z=>z
  cases e:m σi h with
  |next σ2 h2=>
   rw[e]at hm
   exact λs3 σ3 H3 ι3 N3 n3=>⟨σ3,H3,N3.inv.unwish,hm σ3 H3 ι3 N3.rel N3.st n3⟩
  |ret v h2=>
   rw[e]at hm
   exact λu s3 σ3i σ3 H3 ι3 N3 n3 ⟨z,rz,q⟩=>⟨z,σ3,H3,N3.inv.unwish,rz,hm z H3 ι3 N3.rel n3 q⟩
  |_=>rw[e]at hm;exact hm.elim
 ·unfold fnI SRes.fin at hk
  cases e:m (Yd N.length ivs) h with
  |next σ2 h2=>
   rw[e]at hk
   exact λσ3 H3 ι3 R3 _ n3=>hk .non H3 ι3 R3 n3 rfl
  |ret v h2=>
   rw[e]at hk
   exact hk
  |_=>rw[e]at hk;exact hk.elim
end
noncomputable def Res.nx {α:Type}:Res α->Res α
 |.ok a h=>.ok a h
 |_=>.stuck
def Jn(f:Tq->IH->Res IV)(dvs:Tq)(a:A1):E1:=λσ h=>(a σ h).bind λvs h1=>f (vs++dvs) h1
def Vc(c:Str)(f:Tq->IH->Res IV)(dvs:Tq)(a:A1):E1:=λσ h=>(a σ h).bind λvs h1=>(f (.ref h1.length::(vs++dvs))<|h1++[.ins c []]).bind λr h2=>match r with
 |.non=>.ok (.ref h1.length) h2
 |_=>.stuck
def Ju1(m:Str)(disp:Str->Option ((Tq->IH->Res IV)×Tq))(o:E1)(a:A1):E1:=λσ h=>(o σ h).bind λv h1=>match v with
 |.ref i=>(match h1[i]? with
  |some (.ins c fs)=>(match disp c,fs.lookup m with
   |some (f,dvs),Zc=>(a σ h1).bind λvs h2=>f (.ref i::(vs++dvs)) h2
   |_,_=>.stuck)
  |_=>.stuck)
 |_=>.stuck
section
variable{ce:CeT}{X:Cx}{k:Nat}{fa C:Zq}{fd:ZaH}{ps:Tg}{f:Tq->IH->Res IV}{dvs:Tq}{ds:To}{x m:Str}{p pos apos:Pos}{e o:Expr}{es:Ta}{mo:E1}{ma:A1}
theorem YG{pj:PnT}{σ:L2.St}{H:Hp}{ι:Tp}{σi:ISt}{h:IH}{s:Zn}{Q E:QvT}{us:To}{xs:Tq}(F:FnOk X.prog X.w X.K X.mg X.base (CXI X.prog X.w) k fa fd ps<|spI ce X.K ps f)(hr:Room k X.A)(hb:Qp X.K fd ps ds)
  (hd:∃vs,Vals vs ds/\∀ι H,RVs X.K ι H dvs vs)(hlen:us.length+ds.length=ps.length)(N:Now ce X pj ι σi h σ H s)(r:RUs X.K ι H xs us)(K:Kont ce X RU pj ι σi σ H (f (xs++dvs) h) Q E):Z0 (Z9 X.prog X.w) X.A (call (.ref fa) us) Q E s:=by
 obtain⟨vs,rv,q⟩:=r
 obtain⟨dv,rd,qd⟩:=hd
 have hl1:=rv.length
 have hl2:=rd.length
 refine Zal (J0h (Q:=λz H'=>∀u s',Inv X pj σ H' s'->RelV z u->Q u s') (E:=λv _ H'=>∀s',Inv X pj σ H' s'->E v s') F hr hb rd N.inv rv ⟨by rw[Zs];omega,ι,h,xs++dvs,N.rel,q.append<|qd ι H,?_⟩ λ_ s' _ I' z=>z s' I')
  (λu s' ⟨z,H',I',r',k'⟩=>k' u s' I' r') λ_ _ z=>z
 cases e:f (xs++dvs) h with
 |ok v h'=>
  rw[e]at K
  exact λz H' ι' R' n' qz u s' I' ru=>K u s' H' ι' ⟨I',R',N.st.mono n'⟩ n' ⟨z,ru,qz⟩
 |exc n h'=>
  rw[e]at K
  exact λa H' ι' R' n' hi s' I'=>K [] a s' H' ι' ⟨by simpa using I',R',N.st.mono n'⟩ n' hi
 |stuck=>rw[e]at K;exact K
theorem J2h(F:FnOk X.prog X.w X.K X.mg X.base (CXI X.prog X.w) k fa fd ps<|spI ce X.K ps f)(hr:Room k X.A)(hg:Gl X x)(hm:X.mg x=Za (.ref fa))(hk:W.keepIn X.K (.ref fa)=Zh)(hb:Qp X.K fd ps ds)(hd:∃vs,Vals vs ds/\∀ι H,RVs X.K ι H dvs vs)
  (ha:PAi ce X (e::es) ma)(hlen:∀σ h xs h',ma σ h=.ok xs h'->xs.length+ds.length=ps.length)(hdb:(x==("__debug__":Str))=Zk:=by decide)(he:ZC (e::es) X.env=(Zk,ZaY e X.env)::ZC es X.env:=by rfl)(hpl:(Zbm pos<|ZC es X.env).any (·.1)=Zk:=by rfl):
  PEi ce X (.Call (.Name x p) (e::es) [] pos) (Jn f dvs ma):=by
 intro pj s σ H ι σi h Q E N K
 refine Zag<|Xl N.inv hg hm ?_ hdb
 refine W.callWith_K (h₀:=X.base) N.inv.ok.mod.kin hk ?_ he hpl
 have K':=K
 unfold Jn at K'
 refine ha pos pj s σ H ι σi h _ E N ?_
 cases e0:ma σi h with
 |exc n h'=>rw[e0]at K';exact K'
 |stuck=>rw[e0]at K';exact K'
 |ok xs h'=>
  rw[e0]at K'
  intro us s1 H1 ι1 N1 n1 r1
  have hl:xs.length=us.length:=by
   obtain⟨vs,rv,q⟩:=r1
   rw[<-rv.length,q.length]
  exact⟨N1.inv.kIn,YG (us:=us) F hr hb hd (by have:=hlen σi h xs h' e0;omega) N1 r1<|Kont.mono (r:=(f (xs++dvs) h')) K' n1⟩
theorem Jzf(F:FnOk X.prog X.w X.K X.mg X.base (CXI X.prog X.w) k fa fd ps<|spI ce X.K ps f)(hr:Room k X.A)(hg:Gl X x)(hm:X.mg x=Za (.ref fa))(hk:W.keepIn X.K (.ref fa)=Zh)(hb:Qp X.K fd ps ds)(hd:∃vs,Vals vs ds/\∀ι H,RVs X.K ι H dvs vs)
  (hlen:ds.length=ps.length)(hdb:(x==("__debug__":Str))=Zk:=by decide):PEi ce X (.Call (.Name x p) [] [] pos) (Jn f dvs Jd):=by
 intro pj s σ H ι σi h Q E N K
 refine Zag<|Xl N.inv hg hm ?_ hdb
 exact W.callWith_K0 N.inv.kIn hk (YG (xs:=[]) F hr hb hd (by simpa using hlen) N .nil K)
theorem Jmi{c:Str}{pj:PnT}{σ:L2.St}{H:Hp}{ι:Tp}{σi:ISt}{h:IH}{s:Zn}{Q E:QvT}{us:To}{xs:Tq}(M:Mk X.K C fa)(F:FnOk X.prog X.w X.K X.mg X.base (CXI X.prog X.w) k fa fd ps<|spI ce X.K ps f)(hC:ce c=Za C)(hr:Room (k+1) X.A)(hb:Qp X.K fd ps ds)
  (hd:∃vs,Vals vs ds/\∀ι H,RVs X.K ι H dvs vs)(hlen:us.length+ds.length+1=ps.length)(N:Now ce X pj ι σi h σ H s)(r:RUs X.K ι H xs us)
  (K:Kont ce X RU pj ι σi σ H ((f (.ref h.length::(xs++dvs))<|h++[.ins c []]).bind λr h2=>match r with|.non=>.ok (.ref h.length) h2|_=>.stuck) Q E):Z0 (Z9 X.prog X.w) X.A (call (.ref C) us) Q E s:=by
 obtain⟨vs,rv,q⟩:=r
 obtain⟨dv,rd,qd⟩:=hd
 have hl1:=rv.length
 have hl2:=rd.length
 refine Zal (Jtf (Q:=λz H'=>∀u s',Inv X pj σ H' s'->RelV z u->Q u s') (E:=λv _ H'=>∀s',Inv X pj σ H' s'->E v s') M F hr hb rd N.inv rv (λx dx hx hdx hne=>⟨by rw[ZA,Zs];omega,?_⟩) λ_ s' _ I' z=>z s' I')
  (λu s' ⟨z,H',I',r',k'⟩=>k' u s' I' r') λ_ _ z=>z
 -- the new instance in the reading's heap
 obtain⟨R1,n1⟩:=N.rel.grow (o:=.own x) hdx
 have hx1:upd H dx (.own x) x=Zc:=by rw[Jx<|Zab hne];exact hx
 obtain⟨R2,n2⟩:=R1.alloc (o:=.ins C dx []) (io:=.ins c []) hx1 ⟨C,dx,[],hC,JH,rfl⟩
 have n12:=n1.trans n2
 have hat:(ι++[x])[h.length]?=Za x:=by
  rw[<-N.rel.len,Z8<|Zm _]
  simp
 refine⟨ι++[x],h++[.ins c []],.ref h.length::(xs++dvs),R2,⟨_,_,rfl,⟨x,rfl,hat⟩,(RVs.mono n12 _ _ q).append<|qd _ _⟩,?_⟩
 cases e:f (.ref h.length::(xs++dvs)) (h++[.ins c []])with
 |ok v h'=>
  rw[e]at K
  intro z H' ι' R' n' qz
  cases v with
  |non=>
   have ez:z=.non:=qz
   subst ez
   exact⟨rfl,λu s' I' ru=>K u s' H' ι' ⟨I',R',N.st.mono<|n12.trans n'⟩ (n12.trans n') ⟨.ref x,ru,x,rfl,n'.at hat⟩⟩
  |_=>exact Zf K
 |exc n h'=>
  rw[e]at K
  exact λa H' ι' R' n' hi s' I'=>K [] a s' H' ι' ⟨by simpa using I',R',N.st.mono<|n12.trans n'⟩ (n12.trans n') hi
 |stuck=>rw[e]at K;exact Zf K
theorem J2l{c:Str}(M:Mk X.K C fa)(F:FnOk X.prog X.w X.K X.mg X.base (CXI X.prog X.w) k fa fd ps<|spI ce X.K ps f)(hC:ce c=Za C)(hr:Room (k+1) X.A)(hg:Gl X x)(hm:X.mg x=Za (.ref C))(hb:Qp X.K fd ps ds)(hd:∃vs,Vals vs ds/\∀ι H,RVs X.K ι H dvs vs)
  (ha:PAi ce X (e::es) ma)(hlen:∀σ h xs h',ma σ h=.ok xs h'->xs.length+ds.length+1=ps.length)(hdb:(x==("__debug__":Str))=Zk:=by decide)(he:ZC (e::es) X.env=(Zk,ZaY e X.env)::ZC es X.env:=by rfl)(hpl:(Zbm pos<|ZC es X.env).any (·.1)=Zk:=by rfl):
  PEi ce X (.Call (.Name x p) (e::es) [] pos) (Vc c f dvs ma):=by
 intro pj s σ H ι σi h Q E N K
 refine Zag<|Xl N.inv hg hm ?_ hdb
 refine W.callWith_K (h₀:=X.base) N.inv.ok.mod.kin M.kp ?_ he hpl
 have K':=K
 unfold Vc at K'
 refine ha pos pj s σ H ι σi h _ E N ?_
 cases e0:ma σi h with
 |exc n h'=>rw[e0]at K';exact K'
 |stuck=>rw[e0]at K';exact K'
 |ok xs h'=>
  rw[e0]at K'
  intro us s1 H1 ι1 N1 n1 r1
  have hl:xs.length=us.length:=by
   obtain⟨vs,rv,q⟩:=r1
   rw[<-rv.length,q.length]
  exact⟨N1.inv.kIn,Jmi (us:=us) M F hC hr hb hd (by have:=hlen σi h xs h' e0;omega) N1 r1<|Kont.mono (r:=(f (IV.ref h'.length::(xs++dvs))<|h'++[.ins c []]).bind λr h2=>match r with|IV.non=>Res.ok (IV.ref h'.length) h2|_=>Res.stuck) K' n1⟩
theorem Jzi(M:Mk X.K C fa)(F:FnOk X.prog X.w X.K X.mg X.base (CXI X.prog X.w) k fa fd ps<|spI ce X.K ps f)(hC:ce c=Za C)(hr:Room (k+1) X.A)(hg:Gl X x)(hm:X.mg x=Za (.ref C))(hb:Qp X.K fd ps ds)(hd:∃vs,Vals vs ds/\∀ι H,RVs X.K ι H dvs vs)
  (hlen:ds.length+1=ps.length)(hdb:(x==("__debug__":Str))=Zk:=by decide):PEi ce X (.Call (.Name x p) [] [] pos) (Vc c f dvs Jd):=by
 intro pj s σ H ι σi h Q E N K
 refine Zag<|Xl N.inv hg hm ?_ hdb
 exact W.callWith_K0 N.inv.kIn M.kp (Jmi (xs:=[]) M F hC hr hb hd (by simpa using hlen) N .nil K)
def Jq5(ce:CeT)(X:Cx)(m:Str)(n:Nat)(disp:Str->Option ((Tq->IH->Res IV)×Tq)):Prop:=
 ∀c f dvs,disp c=Za (f,dvs)->∃(C fa:Zq)(fd:ZaH)(k:Nat)(ps:Tg)(ds:To),ce c=Za C/\Cls X.K C/\Meth X.K C m fa/\FnOk X.prog X.w X.K X.mg X.base (CXI X.prog X.w) k fa fd ps (spI ce X.K ps f)/\Room k X.A/\Qp X.K fd ps ds/\(∃vs,Vals vs ds/\∀ι H,RVs X.K ι H dvs vs)/\n+ds.length+1=ps.length
theorem J2o{n:Nat}{disp:Str->Option ((Tq->IH->Res IV)×Tq)}{pl:Sem Bool}(ho:PEi ce X o mo)(hd:Jq5 ce X m n disp)(ha:PAi ce X (e::es) ma)(hlen:∀σ h xs h',ma σ h=.ok xs h'->xs.length=n)
  (hst:ZC (e::es) X.env=(Zk,ZaY e X.env)::ZC es X.env:=by rfl)(hpl:(Zbm pos<|ZC es X.env).any (·.1)=Zk:=by rfl)
  (ht:ZaY (.Call (.Attribute o m apos) (e::es) [] pos) X.env=(do
   let ov<-ZaY o X.env
   ZeL apos.atName
   let (f,first)<-Zcg [ov] (ZdH ov m pl)
   callWith pos f first (Zbm pos<|ZC (e::es) X.env) (ZdL pos<|Zcz [] X.env)):=by rfl):
  PEi ce X (.Call (.Attribute o m apos) (e::es) [] pos) (Ju1 m disp mo ma):=by
 intro pj s σ H ι σi h Q E N K
 refine W.methodCall_KW (pl:=pl) (ho.run N K λv h1 u s1 H1 ι1 N1 n1 r1 K1=>?_) ht
 cases v with
 |ref i=>
  obtain⟨w,rw',a,e1,hi⟩:=r1
  subst e1
  cases rw'
  dsimp only at K1
  cases hh:h1[i]? with
  |none=>rw[hh]at K1;exact Zf K1
  |some ob=>
   cases ob with
   |ins c fs=>
    rw[hh]at K1
    dsimp only at K1
    cases hd1:disp c with
    |none=>rw[hd1]at K1;exact Zf K1
    |some fd1=>
     obtain⟨f,dvs⟩:=fd1
     cases hl:fs.lookup m with
     |some z=>rw[hd1,hl]at K1;exact Zf K1
     |none=>
      rw[hd1,hl]at K1
      dsimp only at K1
      obtain⟨C,fa,fd,k,ps,ds,hC,cl,hm,F,hr,hb,hdv,hn⟩:=hd c f dvs hd1
      obtain⟨C',dx,vs,hC',hH,rp⟩:=N1.at hh hi
      rw[hC]at hC'
      cases hC'
      refine Ji5 N1.inv hH cl hm ((RPs.lookup rp).2 hl) ?_
      refine W.callWith_K (first:=[.ref a]) (h₀:=X.base) N1.inv.ok.mod.kin hm.kp ?_ hst hpl
      refine ha pos pj s1 σ H1 ι1 σi h1 _ E N1 ?_
      cases e0:ma σi h1 with
      |exc n h'=>rw[e0]at K1;exact K1
      |stuck=>rw[e0]at K1;exact K1
      |ok xs h'=>
       rw[e0]at K1
       intro us s2 H2 ι2 N2 n2 r2
       have hl:xs.length=us.length:=by
        obtain⟨vs,rv,q⟩:=r2
        rw[<-rv.length,q.length]
       have hl2:=hlen σi h1 xs h' e0
       refine⟨N2.inv.kIn,YG (us:=.ref a::us) (xs:=.ref i::xs) F hr hb hdv (by rw[ZA];omega) N2 (.cons ⟨.ref a,rfl,a,rfl,n2.at hi⟩ r2) ?_⟩
       exact Kont.mono (r:=(f (.ref i::(xs++dvs)) h')) K1 n2
   |_=>rw[hh]at K1;exact Zf K1
 |_=>exact Zf K1
theorem Jzj{disp:Str->Option ((Tq->IH->Res IV)×Tq)}{pl:Sem Bool}(ho:PEi ce X o mo)(hd:Jq5 ce X m 0 disp)
  (ht:ZaY (.Call (.Attribute o m apos) [] [] pos) X.env=(do
   let ov<-ZaY o X.env
   ZeL apos.atName
   let (f,first)<-Zcg [ov] (ZdH ov m pl)
   callWith pos f first (Zbm pos<|ZC [] X.env) (ZdL pos<|Zcz [] X.env)):=by rfl):
  PEi ce X (.Call (.Attribute o m apos) [] [] pos) (Ju1 m disp mo Jd):=by
 intro pj s σ H ι σi h Q E N K
 refine W.methodCall_KW (pl:=pl) (ho.run N K λv h1 u s1 H1 ι1 N1 n1 r1 K1=>?_) ht
 cases v with
 |ref i=>
  obtain⟨w,rw',a,e1,hi⟩:=r1
  subst e1
  cases rw'
  dsimp only at K1
  cases hh:h1[i]? with
  |none=>rw[hh]at K1;exact Zf K1
  |some ob=>
   cases ob with
   |ins c fs=>
    rw[hh]at K1
    dsimp only at K1
    cases hd1:disp c with
    |none=>rw[hd1]at K1;exact Zf K1
    |some fd1=>
     obtain⟨f,dvs⟩:=fd1
     cases hl:fs.lookup m with
     |some z=>rw[hd1,hl]at K1;exact Zf K1
     |none=>
      rw[hd1,hl]at K1
      dsimp only at K1
      obtain⟨C,fa,fd,k,ps,ds,hC,cl,hm,F,hr,hb,hdv,hn⟩:=hd c f dvs hd1
      obtain⟨C',dx,vs,hC',hH,rp⟩:=N1.at hh hi
      rw[hC]at hC'
      cases hC'
      refine Ji5 N1.inv hH cl hm ((RPs.lookup rp).2 hl) ?_
      exact W.callWith_K0 (first:=[.ref a]) N1.inv.kIn hm.kp (YG (us:=[.ref a]) (xs:=[.ref i]) F hr hb hdv (by rw[ZA,ZaD];omega) N1 (.cons ⟨.ref a,rfl,a,rfl,hi⟩ .nil) K1)
   |_=>rw[hh]at K1;exact Zf K1
 |_=>exact Zf K1
def Jq(f:Str)(o:E1):E1:=λσ h=>(o σ h).bind λv h1=>match v with
 |.ref i=>(match h1[i]? with
  |some (.ins _ fs)=>(match fs.lookup f with
   |some x=>.ok x h1
   |none=>.stuck)
  |_=>.stuck)
 |_=>.stuck
def Ym(ce:CeT)(K:W.Frag)(f:Str):Prop:=∀c C,ce c=Za C->Cls K C/\QM K C f
theorem J5e(ho:PEi ce X o mo)(hf:Ym ce X.K fl)(hb:ZcS o fl X.env (ZaY o X.env)=ZaY o X.env:=by rfl):PEi ce X (.Attribute o fl pos) (Jq fl mo):=by
 intro pj s σ H ι σi h Q E N K
 refine Jyq hb<|ho.run N K λv h1 u s1 H1 ι1 N1 n1 r1 K1=>?_
 cases v with
 |ref i=>
  obtain⟨w,rw',a,e1,hi⟩:=r1
  subst e1
  cases rw'
  dsimp only at K1
  cases hh:h1[i]? with
  |none=>rw[hh]at K1;exact Zf K1
  |some ob=>
   cases ob with
   |ins c fs=>
    rw[hh]at K1
    dsimp only at K1
    cases hl:fs.lookup fl with
    |none=>rw[hl]at K1;exact Zf K1
    |some z=>
     rw[hl]at K1
     obtain⟨C,dx,vs,hC,hH,rp⟩:=N1.at hh hi
     obtain⟨cl,na⟩:=hf c C hC
     obtain⟨y,hy,q⟩:=(RPs.lookup rp).1 z hl
     exact Ji4 N1.inv hH cl na hy λu' s2 I2 ru=>K1 u' s2 H1 ι1 ⟨I2,N1.rel,N1.st⟩ .refl ⟨y,ru,q⟩
   |_=>rw[hh]at K1;exact Zf K1
 |_=>exact Zf K1
noncomputable def putI (f:Str)(v:IV):Wl->Wl
 |[]=>[(f,v)]
 |(g,x)::r=>if g=f then(g,v)::r else(g,x)::putI f v r
theorem RPs.put{K:W.Frag}{ι:Tp}{H:Hp}{fl:Str}{v:IV}{y:V}(q:RV K ι H v y):∀{fs:Wl}{vs:Wq},RPs K ι H fs vs->RPs K ι H (putI fl v fs) (putF fl y vs)
 |[],_,h=>by
  have e:_=[]:=h
  subst e
  exact⟨y,[],rfl,q,rfl⟩
 |(g,x)::r,_,h=>by
  obtain⟨w,vr,e,qx,t⟩:=h
  subst e
  show RPs K ι H (if g=fl then(g,v)::r else(g,x)::putI fl v r) (if g=fl then(g,y)::vr else(g,w)::putF fl y vr)
  by_cases hg:g=fl
  ·rw[if_pos hg,if_pos hg]
   exact⟨y,vr,rfl,q,t⟩
  ·rw[if_neg hg,if_neg hg]
   exact⟨w,_,rfl,qx,RPs.put q t⟩
def JT(f:Str)(o e:E1):S1:=λσ h=>rS σ (e σ h) λv h1=>rS σ (o σ h1) λov h2=>match ov with
 |.ref i=>(match h2[i]? with
  |some (.ins c fs)=>if fs.length<1000 then .next σ (h2.set i<|.ins c<|putI f v fs)else .stuck
  |_=>.stuck)
 |_=>.stuck
theorem J6d{fl:Str}{value:Expr}{mv:E1}{pos':Pos}(ho:PEi ce X o mo)(hv:PEi ce X value mv)(hf:Ym ce X.K fl)(hs:Zdq value (Za<|.Attribute o fl pos') pos.line X.env=pure Zk:=by rfl):PS1 ce X (.Assign [.Attribute o fl pos'] value pos) (JT fl mo mv):=by
 intro pj s σ H ι σi h Q E N K
 refine plainObj_wpAny_Assign_Attribute (krun hv N K λv h1 u s1 H1 ι1 N1 n1 r1 K1=>krun ho N1 K1 λov h2 w s2 H2 ι2 N2 n2 r2 K2=>?_) hs
 cases ov with
 |ref i=>
  obtain⟨w,rw',a,e1,hi⟩:=r2
  subst e1
  cases rw'
  dsimp only at K2
  cases hh:h2[i]? with
  |none=>rw[hh]at K2;exact Zf K2
  |some ob=>
   cases ob with
   |ins c fs=>
    rw[hh]at K2
    dsimp only at K2
    split at K2
    ·rename_i hz
     obtain⟨C,dx,vs,hC,hH,rp⟩:=N2.at hh hi
     obtain⟨cl,na⟩:=hf c C hC
     obtain⟨y,ry,q⟩:=r1
     refine Jja N2.inv hH cl na (by rw[rp.length];exact hz) ry λs3 I3=>?_
     have n3:Nxt ι2 H2 ι2 (upd H2 a<|.ins C dx<|putF fl y vs):=⟨⟨[],03⟩,Ext.upd_mut hH<|by rw[hH];exact Zar⟩
     obtain⟨R3,_⟩:=N2.rel.write (o:=.ins C dx<|putF fl y vs) (io:=.ins c<|putI fl v fs) hi hH (by rw[hH];exact Zar) ⟨C,dx,_,hC,JH,RPs.put (RV.mono (n2.trans n3) _ _ q)<|RPs.mono n3 _ _ rp⟩
     exact K2 s3 σ _ ι2 ⟨I3,R3,N2.st.mono n3⟩ n3
    ·exact Zf K2
   |_=>rw[hh]at K2;exact Zf K2
 |_=>exact Zf K2
end
section
variable{ce:CeT}{X:Cx}{a b c:Expr}{ma mb mc:E1}{pos:Pos}
def Jf:IV->IV->IH->Res IV
 |.ref i,.int k,h=>match h[i]? with
  |some (.lst xs)=>(match atI xs k with
   |some v=>.ok v h
   |none=>.stuck)
  |_=>.stuck
 |.rol xs,.int k,h=>match atI xs k with
  |some v=>.ok v h
  |none=>.stuck
 |.tup xs,.int k,h=>match atI xs k with
  |some v=>.ok v h
  |none=>.stuck
 |.str x,.int k,h=>if x.length<=sizeLine then(match atI x.cps.toList k with
  |some c=>.ok (.str ⟨#[c]⟩) h
  |none=>.stuck)else .stuck
 |_,_,_=>.stuck
theorem Jjh{K:W.Frag}{ι:Tp}{H:Hp}{xs:Tq}{vs:Tu}{k:Int}{v:IV}(r:RVs K ι H xs vs)(e:atI xs k=Za v):∃u,atI vs k=Za u/\RV K ι H v u:=by
 unfold atI at e ⊢
 rw[r.length]
 cases q:ixN xs.length k with
 |none=>rw[q]at e;cases e
 |some j=>
  rw[q]at e
  exact r.get e
def IxI(ce:CeT)(X:Cx)(g:IV->IV->IH->Res IV):Prop:=
 ∀(value slice:Expr)(pj:PnT)(s:Zn)(σ:L2.St)(H:Hp)(ι:Tp)(σi:ISt)(h:IH)(x y:IV)(v u:Ze)(Q:QvT)(E:QvT),Now ce X pj ι σi h σ H s->RU X.K ι H x v->RU X.K ι H y u ->
  Kont ce X RU pj ι σi σ H (g x y h) Q E->Zet slice Zk v u=operate [v,u] (Zdp v u)->Z0 (Z9 X.prog X.w) X.A (ZdC value slice v u) Q E s
theorem Jpf{pj:PnT}{s:Zn}{σ:L2.St}{H:Hp}{Q E:QvT}{r:R2}{value slice:Expr}{x y:V}{v u:Ze}(p:IxR (X.wish E) r)(I:Inv X pj σ H s)(rx:RelV x v)(ry:RelV y u)
  (k:r x y H λz H'=>∀u s',Inv X pj σ H' s'->RelV z u->Q u s')(hs:Zet slice Zk v u=operate [v,u] (Zdp v u)):Z0 (Z9 X.prog X.w) X.A (ZdC value slice v u) Q E s:=
 Zal (p value slice pj s σ H x y v u _ (I.wish E) rx ry k hs) (λu s' ⟨_,_,I',r,q⟩=>q u s' I'.unwish r) λ_ _ z=>z
theorem x_ix:IxI ce X Jf:=by
 intro value slice pj s σ H ι σi h x y v u Q E N rx ry K hs
 obtain⟨xv,rx,qx⟩:=rx
 obtain⟨yv,ry,qy⟩:=ry
 cases y with
 |int k=>
  have e2:yv=.int k:=qy
  subst e2
  cases x with
  |ref i=>
   obtain⟨a,e1,ha⟩:=qx
   subst e1
   dsimp only[Jf]at K
   cases hi:h[i]? with
   |none=>rw[hi]at K;exact Zf K
   |some ob=>
    rw[hi]at K
    cases ob with
    |lst xs=>
     dsimp only at K
     cases hk:atI xs k with
     |none=>rw[hk]at K;exact Zf K
     |some z=>
      rw[hk]at K
      obtain⟨vs,e1,r1⟩:=N.at hi ha
      obtain⟨w,hw,qw⟩:=Jjh r1 hk
      exact Jpf (Jsl (X:=X.wish E)) N.inv rx ry ⟨a,vs,k,w,rfl,rfl,SqL.of e1,hw,fin0 N K qw⟩ hs
    |_=>exact Zf K
  |rol xs=>
   obtain⟨a,vs,e1,sa,ra⟩:=qx
   subst e1
   dsimp only[Jf]at K
   cases hk:atI xs k with
   |none=>rw[hk]at K;exact Zf K
   |some z=>
    rw[hk]at K
    obtain⟨w,hw,qw⟩:=Jjh ra hk
    exact Jpf (Jsl (X:=X.wish E)) N.inv rx ry ⟨a,vs,k,w,rfl,rfl,sa.sq,hw,fin0 N K qw⟩ hs
  |tup xs=>
   obtain⟨a,vs,e1,sa,ra⟩:=qx
   subst e1
   dsimp only[Jf]at K
   cases hk:atI xs k with
   |none=>rw[hk]at K;exact Zf K
   |some z=>
    rw[hk]at K
    obtain⟨w,hw,qw⟩:=Jjh ra hk
    exact Jpf (J2x (X:=X.wish E)) N.inv rx ry ⟨a,vs,k,w,rfl,rfl,sa,hw,fin0 N K qw⟩ hs
  |str x=>
   have e1:xv=.str x:=qx
   subst e1
   dsimp only[Jf]at K
   split at K
   ·rename_i hz
    cases hk:atI x.cps.toList k with
    |none=>rw[hk]at K;exact Zf K
    |some z=>
     rw[hk]at K
     exact Jpf (J2w (X:=X.wish E)) N.inv rx ry ⟨x,k,z,rfl,rfl,hz,hk,fin0 N K rfl⟩ hs
   ·exact Zf K
  |_=>exact Zf K
 |_=>cases x<;>exact Zf K
theorem i_ix(hg:IxI ce X g)(ha:PEi ce X a ma)(hb:PEi ce X b mb)(hs:Jq6 b:=by intro _ _;rfl):PEi ce X (.Subscript a b pos) (Jc g ma mb):=λpj s σ H ι σi h Q E N K=>
 Subscript_ (ha.run N K λx h1 u s1 H1 ι1 N1 n1 r1 K1=>hb.run N1 K1 λy h2 w s2 H2 ι2 N2 n2 r2 K2=>hg a b pj s2 σ H2 ι2 σi h2 x y u w Q E N2 (r1.mono n2) r2 K2<|hs _ _)
abbrev O1:=ISt->IH->Res (Wv)
def J4t:REL (Wv) Ze:=λ_ _ _ o u=>Zdv u o
def PPi(ce:CeT)(X:Cx)(e:Wr)(m:O1):Prop:=PX ce X J4t (evalPart e X.env) m
noncomputable def Qs:O1:=λ_ h=>.ok Zc h
def JX(e:E1):O1:=λσ h=>(e σ h).bind λv h1=>match v with
 |.int i=>.ok (Za i) h1
 |_=>.stuck
theorem J3k:PPi ce X Zc Qs:=by
 intro pj s σ H ι σi h Q E N K
 rw[evalPart_none]
 exact Zv<|K _ s H ι N .refl .none
theorem J3l(ha:PEi ce X a ma):PPi ce X (Za a) (JX ma):=by
 intro pj s σ H ι σi h Q E N K
 rw[evalPart_some]
 refine ha.run N K λx h1 u s1 H1 ι1 N1 n1 r1 K1=>?_
 cases x with
 |int i=>
  obtain⟨w,rw',q⟩:=r1
  have e:w=.int i:=q
  subst e
  obtain⟨t,rfl⟩:=rw'
  exact K1 _ s1 H1 ι1 N1 .refl<|.int i t
 |_=>exact Zf K1
def cutI{α:Type}(xs:List α)(lo hi:Wv):List α:=(xs.drop<|HT.sIx xs.length 0 lo).take<|HT.sIx xs.length xs.length hi-HT.sIx xs.length 0 lo
def slI:IV->Wv->Wv->IH->Res IV
 |.ref i,lo,hi,h=>match h[i]? with
  |some (.lst xs)=>.ok (.ref h.length)<|h++[.lst<|cutI xs lo hi]
  |_=>.stuck
 |.rol xs,lo,hi,h=>.ok (.ref h.length)<|h++[.lst<|cutI xs lo hi]
 |.tup xs,lo,hi,h=>.ok (.tup<|cutI xs lo hi) h
 |_,_,_,_=>.stuck
theorem RVs.cut{K:W.Frag}{ι:Tp}{H:Hp}{xs:Tq}{vs:Tu}(r:RVs K ι H xs vs)(lo hi:Wv):RVs K ι H (cutI xs lo hi) (cutV vs lo hi):=by
 unfold cutI cutV
 rw[r.length]
 exact(r.drop _).take _
def eSl(f:IV->Wv->Wv->IH->Res IV)(e:E1)(lo hi:O1):E1:=λσ h=>(e σ h).bind λx h1=>(lo σ h1).bind λl h2=>(hi σ h2).bind λu h3=>f x l u h3
def SlI(ce:CeT)(X:Cx)(g:IV->Wv->Wv->IH->Res IV):Prop:=
 ∀(pj:PnT)(s:Zn)(σ:L2.St)(H:Hp)(ι:Tp)(σi:ISt)(h:IH)(x:IV)(v vl vu:Ze)(lo hi:Wv)(sl:Zq)(Q:QvT)(E:QvT),Now ce X pj ι σi h σ H s->RU X.K ι H x v->s.heap.IsSliceOf sl vl vu .none->Zdv vl lo->Zdv vu hi ->
  Kont ce X RU pj ι σi σ H (g x lo hi h) Q E->∃T id,typeLookup (.type T) "__getitem__"=pure (Za<|.builtin id)/\s.TypeIs v T/\Z0 (Z9 X.prog X.w) X.A (Zdp v<|.ref sl) Q E s
theorem Jyc{pj:PnT}{s:Zn}{σ:L2.St}{H:Hp}{Q E:QvT}{r:V->Wv->Wv->Hp->VK->Prop}{x:V}{v vl vu:Ze}{lo hi:Wv}{sl:Zq}(p:SlR (X.wish E) r)(I:Inv X pj σ H s)(rx:RelV x v)
  (hs:s.heap.IsSliceOf sl vl vu .none)(pl:Zdv vl lo)(pu:Zdv vu hi)(k:r x lo hi H λz H'=>∀u s',Inv X pj σ H' s'->RelV z u->Q u s'):
  ∃T id,typeLookup (.type T) "__getitem__"=pure (Za<|.builtin id)/\s.TypeIs v T/\Z0 (Z9 X.prog X.w) X.A (Zdp v<|.ref sl) Q E s:=by
 obtain⟨T,id,h1,h2,h3⟩:=p pj s σ H x v vl vu lo hi sl _ (I.wish E) rx hs pl pu k
 exact⟨T,id,h1,h2,Zal h3 (λu s' ⟨_,_,I',r,q⟩=>q u s' I'.unwish r) λ_ _ z=>z⟩
theorem Jzk{g:IV->Wv->Wv->IH->Res IV}{lo hi:Wr}{ml mh:O1}{p2:Pos}(hr:SlI ce X g)(he:PEi ce X a ma)(hl:PPi ce X lo ml)(hu:PPi ce X hi mh):PEi ce X (.Subscript a (.Slice lo hi Zc p2) pos) (eSl g ma ml mh):=by
 intro pj s σ H ι σi h Q E N K
 refine Subscript_<|he.run N K λx h1 v s1 H1 ι1 N1 n1 r1 K1=>?_
 refine wpAny_Slice<|PX.run hl N1 K1 λl h2 vl s2 H2 ι2 N2 n2 pl K2=>PX.run hu N2 K2 λu h3 vu s3 H3 ι3 N3 n3 pu K3=>?_
 rw[evalPart_none]
 refine Zv ?_
 have I4:Inv X pj σ H3 {s3 with heap:=s3.heap.push {cls:=.type "slice",data:=.fields #[vl,vu,.none]} }:=N3.inv.kept (t':=s3.toks) λb ob q=>Zj _ q
 obtain⟨T,id,hT,ht,hg⟩:=hr pj {s3 with heap:=s3.heap.push {cls:=.type "slice",data:=.fields #[vl,vu,.none]} } σ H3 ι3 σi h3 x v vl vu l u s3.heap.objs.size Q E ⟨I4,N3.rel,N3.st⟩ ((r1.mono n2).mono n3) (Heap.IsSliceOf.new ..) pl pu K3
 show Z0 (Z9 X.prog X.w) X.A (ZdC a (.Slice lo hi Zc p2) v<|.ref s3.heap.objs.size) Q E {s3 with heap:=s3.heap.push {cls:=.type "slice",data:=.fields #[vl,vu,.none]} }
 exact tail_any (ops:=[.ref s3.heap.objs.size,v]) ht hT hg<|by with_unfolding_all rfl
def eCB(f:Tq->IH->Res IV)(a:A1):E1:=λσ h=>(a σ h).bind f
variable{es:Ta}{mr:A1}{x:Str}{p:Pos}{id T:String}{g:Tq->IH->Res IV}
theorem VD(hc:Qh ce X (.builtin id) g)(hg:Gl X x)(hm:X.mg x=Zc)(hv:Zce x=Za (.builtin id))(ha:PAi ce X (a::es) mr)(hn:x≠"__name__":=by decide)(hdb:(x==("__debug__":Str))=Zk:=by decide)
  (he:ZC (a::es) X.env=(Zk,ZaY a X.env)::ZC es X.env:=by rfl)(hpl:(Zbm pos<|ZC es X.env).any (·.1)=Zk:=by rfl):PEi ce X (.Call (.Name x p) (a::es) [] pos) (eCB g mr):=λpj s σ H ι σi h Q E N K=>
 Zag (Q8 N.inv hg hm hv (ZbK ((ha pos).run N K λxs h1 us s1 H1 ι1 N1 n1 r1 K1=>hc pj s1 σ H1 ι1 σi h1 xs us Q E N1 r1 K1) he hpl) hn hdb)
theorem Jj7(hc:Qh ce X (.type T) g)(hg:Gl X x)(hm:X.mg x=Zc)(hv:Zce x=Za (.type T))(ha:PAi ce X (a::es) mr)(hn:x≠"__name__":=by decide)(hdb:(x==("__debug__":Str))=Zk:=by decide)
  (he:ZC (a::es) X.env=(Zk,ZaY a X.env)::ZC es X.env:=by rfl)(hpl:(Zbm pos<|ZC es X.env).any (·.1)=Zk:=by rfl):PEi ce X (.Call (.Name x p) (a::es) [] pos) (eCB g mr):=λpj s σ H ι σi h Q E N K=>
 Zag (Q8 N.inv hg hm hv (Za7 ((ha pos).run N K λxs h1 us s1 H1 ι1 N1 n1 r1 K1=>hc pj s1 σ H1 ι1 σi h1 xs us Q E N1 r1 K1) he hpl) hn hdb)
def on1(f:IV->IH->Res IV):Tq->IH->Res IV
 |[x],h=>f x h
 |_,_=>.stuck
def on2(f:IV->IV->IH->Res IV):Tq->IH->Res IV
 |[x,y],h=>f x y h
 |_,_=>.stuck
theorem RVs.one_of{K:W.Frag}{ι:Tp}{H:Hp}{x:IV}{vs:Tu}(r:RVs K ι H [x] vs):∃v,vs=[v]/\RV K ι H x v:=by
 obtain⟨v,r',e,q,q2⟩:=r
 have e2:r'=[]:=q2
 subst e2
 exact⟨v,e,q⟩
theorem RVs.two_of{K:W.Frag}{ι:Tp}{H:Hp}{x y:IV}{vs:Tu}(r:RVs K ι H [x,y] vs):∃v w,vs=[v,w]/\RV K ι H x v/\RV K ι H y w:=by
 obtain⟨v,r',e,q,r2⟩:=r
 obtain⟨w,e2,q2⟩:=r2.one_of
 subst e2
 exact⟨v,w,e,q,q2⟩
theorem Vw{fv:Ze}{f:IV->IH->Res IV}(hh:∀(pj:PnT)(s:Zn)(σ:L2.St)(H:Hp)(ι:Tp)(σi:ISt)(h:IH)(x:IV)(xv:V)(u:Ze)(Q E:QvT),Now ce X pj ι σi h σ H s->RelV xv u->RV X.K ι H x xv ->
  Kont ce X RU pj ι σi σ H (f x h) Q E->Z0 (Z9 X.prog X.w) X.A (call fv [u]) Q E s):Qh ce X fv (on1 f):=by
 intro pj s σ H ι σi h xs us Q E N r K
 obtain⟨vs,rv,q⟩:=r
 match xs,K with
 |[x],K=>
  obtain⟨v,e,qx⟩:=q.one_of
  subst e
  obtain⟨u,rfl,ru⟩:=Qn rv
  exact hh pj s σ H ι σi h x v u Q E N ru qx K
 |[],K=>exact Zf K
 |_::_::_,K=>exact Zf K
noncomputable def lenI:IV->IH->Res IV
 |.str x,h=>if x.length<=sizeLine then .ok (.int x.length) h else .stuck
 |.tup xs,h=>.ok (.int xs.length) h
 |.rol xs,h=>.ok (.int xs.length) h
 |.ref i,h=>match h[i]? with
  |some (.lst xs)=>.ok (.int xs.length) h
  |_=>.stuck
 |_,_=>.stuck
theorem J4x:Qh ce X (.builtin "len") (on1 lenI):=Vw λpj s σ H ι σi h x xv u Q E N ru qx K=>by
 cases x with
 |str y=>
  have e:xv=.str y:=qx
  subst e
  dsimp only[lenI]at K
  split at K
  ·rename_i hz
   exact QA (Jgs (X:=X.wish E)) N.inv (.cons ru .nil) ⟨_,_,rfl,⟨hz,rfl⟩,fin0 N K rfl⟩
  ·exact Zf K
 |tup xs=>
  obtain⟨a,vs,e1,sa,ra⟩:=qx
  subst e1
  exact QA (Jgs (X:=X.wish E)) N.inv (.cons ru .nil) ⟨_,xs.length,rfl,.inr ⟨vs,sa,ra.length.symm⟩,fin0 N K rfl⟩
 |rol xs=>
  obtain⟨a,vs,e1,sa,ra⟩:=qx
  subst e1
  exact QA (Jgs (X:=X.wish E)) N.inv (.cons ru .nil) ⟨_,xs.length,rfl,.inl ⟨vs,sa.sq,ra.length.symm⟩,fin0 N K rfl⟩
 |ref i=>
  obtain⟨a,e1,ha⟩:=qx
  subst e1
  dsimp only[lenI]at K
  cases hi:h[i]? with
  |none=>rw[hi]at K;exact Zf K
  |some ob=>
   rw[hi]at K
   cases ob with
   |lst xs=>
    obtain⟨vs,e1,r1⟩:=N.at hi ha
    exact QA (Jgs (X:=X.wish E)) N.inv (.cons ru .nil) ⟨_,xs.length,rfl,.inl ⟨vs,SqL.of e1,r1.length.symm⟩,fin0 N K rfl⟩
   |_=>exact Zf K
 |_=>exact Zf K
end
def ALen(n:Nat)(m:A1):Prop:=∀σ h xs h',m σ h=.ok xs h'->xs.length=n
theorem Jup:ALen 0 Jd:=λ_ _ xs _ e=>by
 unfold Jd at e
 cases e
 rfl
theorem Jq8(hr:ALen n r):ALen (n+1) (Jb e r):=λσ h xs h' q=>by
 unfold Jb at q
 cases e1:e σ h with
 |ok x h1=>
  rw[e1]at q
  change (r σ h1).bind (λxs h2=>.ok (x::xs) h2)=_ at q
  cases e2:r σ h1 with
  |ok ys h2=>
   rw[e2]at q
   cases q
   rw[ZA,hr σ h1 ys _ e2]
  |exc n h2=>rw[e2]at q;cases q
  |stuck=>rw[e2]at q;cases q
 |exc n h1=>rw[e1]at q;cases q
 |stuck=>rw[e1]at q;cases q
def Yc(K:W.Frag)(x:Str)(f:Tq->IH->Res IV):Sp:=λvs H Q E=>∀ce,spI ce K [x] f vs H Q E
theorem Ju5{P:ZB}{w:ZV}{K:W.Frag}{mg:Str->Wx}{base:Zax}{k:Nat}{fa:Zq}{fd:ZaH}{x:Str}{f:Tq->IH->Res IV}{ce:CeT}(F:FnOk P w K mg base (CXI P w) k fa fd [x]<|spI ce K [x] f):
  FnOk P w K mg base (CXI P w) k fa fd [x] (Yc K x f):=F.imp λ_ _ _ _ h=>h ce
noncomputable def toD (h:IH):Nat->IV->Option Zdg
 |0=>λv=>match v with
  |.non=>Za .none
  |.bl b=>Za<|.bool b
  |.int i=>Za<|.int i
  |.str x=>Za<|.str x
  |_=>Zc
 |n+1=>λv=>match v with
  |.non=>Za .none
  |.bl b=>Za<|.bool b
  |.int i=>Za<|.int i
  |.str x=>Za<|.str x
  |.tup xs=>(xs.mapM<|toD h n).map .tuple
  |.rol xs=>(xs.mapM<|toD h n).map .list
  |.ref i=>match h[i]? with
   |some (.lst xs)=>(xs.mapM<|toD h n).map .list
   |_=>Zc
section
variable{ce:CeT}{X:Cx}
theorem Jck{n:Nat}(N:Now ce X pj ι σi h σ H s)
  (ih:∀(v:IV)(d:Zdg)(x:V)(u:Ze),toD h n v=Za d->RV X.K ι H v x->RelV x u->∃as,Reads s.heap u d as):
  ∀(xs:Tq)(ds:List Zdg)(vs:Tu)(us:To),xs.mapM (toD h n)=Za ds->RVs X.K ι H xs vs->Vals vs us->∃as,ReadsAll s.heap us ds as
 |[],ds,vs,us,e,q,r=>by
  have e1:vs=[]:=q
  subst e1
  cases r
  simp at e
  subst e
  exact⟨_,.nil⟩
 |x::xs,ds,vs,us,e,q,r=>by
  obtain⟨v,vr,e1,q1,q2⟩:=q
  subst e1
  cases r with
  |cons r1 r2=>
   rw[ZcB]at e
   cases e2:toD h n x with
   |none=>rw[e2]at e;cases e
   |some d=>
    rw[e2]at e
    cases e3:xs.mapM (toD h n)with
    |none=>rw[e3]at e;cases e
    |some dr=>
     rw[e3]at e
     cases e
     obtain⟨as,h1⟩:=ih x d v _ e2 q1 r1
     obtain⟨bs,h2⟩:=Jck N ih xs dr vr _ e3 q2 r2
     exact⟨_,.cons h1 h2⟩
theorem V1(N:Now ce X pj ι σi h σ H s):∀(n:Nat)(v:IV)(d:Zdg)(x:V)(u:Ze),toD h n v=Za d->RV X.K ι H v x->RelV x u->∃as,Reads s.heap u d as:=by
 have flat:∀(v:IV)(d:Zdg)(x:V)(u:Ze),toD h 0 v=Za d->RV X.K ι H v x->RelV x u->∃as,Reads s.heap u d as:=by
  intro v d x u e q r
  cases v with
  |non=>cases e;have e1:x=.non:=q;subst e1;cases r;exact⟨_,.none⟩
  |bl b=>cases e;have e1:x=.bl b:=q;subst e1;cases r;exact⟨_,.bool b⟩
  |int i=>cases e;have e1:x=.int i:=q;subst e1;obtain⟨t,rfl⟩:=r;exact⟨_,.int i t⟩
  |str z=>cases e;have e1:x=.str z:=q;subst e1;obtain⟨t,rfl⟩:=r;exact⟨_,.str z t⟩
  |_=>cases e
 intro n
 induction n with
 |zero=>exact flat
 |succ n ih=>
  intro v d x u e q r
  cases v with
  |non=>exact flat .non d x u e q r
  |bl b=>exact flat (.bl b) d x u e q r
  |int i=>exact flat (.int i) d x u e q r
  |str z=>exact flat (.str z) d x u e q r
  |tup xs=>
   obtain⟨a,vs,e1,sa,ra⟩:=q
   subst e1
   cases r
   obtain⟨ds,e2,rfl⟩:=ZD.mp<|show(xs.mapM<|toD h n).map ZcC=Za d from e
   obtain⟨its,rv,⟨o,ho,hc,m,hd⟩,hz⟩:=N.inv.tuple sa
   obtain⟨as,h1⟩:=Jck N ih xs ds vs its e2 ra rv
   exact⟨_,.tuple ho hc hd h1⟩
  |rol xs=>
   obtain⟨a,vs,e1,sa,ra⟩:=q
   subst e1
   cases r
   obtain⟨ds,e2,rfl⟩:=ZD.mp<|show(xs.mapM<|toD h n).map ZcY=Za d from e
   obtain⟨its,rv,⟨o,m,ho,hc,_,hd⟩,hz⟩:=N.inv.list sa.sq
   obtain⟨as,h1⟩:=Jck N ih xs ds vs its e2 ra rv
   exact⟨_,.list ho hc hd h1⟩
  |ref i=>
   obtain⟨a,e1,ha⟩:=q
   subst e1
   cases r
   have e':(match h[i]? with|some (.lst xs)=>(xs.mapM<|toD h n).map ZcY|_=>Zc)=Za d:=e
   cases hi:h[i]? with
   |none=>rw[hi]at e';cases e'
   |some ob=>
    rw[hi]at e'
    cases ob with
    |lst xs=>
     obtain⟨ds,e2,rfl⟩:=ZD.mp e'
     obtain⟨vs,e1,r1⟩:=N.at hi ha
     obtain⟨its,rv,⟨o,m,ho,hc,_,hd⟩,hz⟩:=N.inv.list<|SqL.of e1
     obtain⟨as,h1⟩:=Jck N ih xs ds vs its e2 r1 rv
     exact⟨_,.list ho hc hd h1⟩
    |_=>cases e'
theorem Jcj(hf:∀v d,f v=Za d->d.depth<=n):∀(xs:Tq)(ds:List Zdg),xs.mapM f=Za ds->PyData.depthAll ds<=n
 |[],ds,e=>by simp at e;subst e;exact ZR _
 |x::xs,ds,e=>by
  rw[ZcB]at e
  cases e2:f x with
  |none=>rw[e2]at e;cases e
  |some d=>
   rw[e2]at e
   cases e3:xs.mapM f with
   |none=>rw[e3]at e;cases e
   |some dr=>
    rw[e3]at e
    cases e
    have h1:=hf x d e2
    have h2:=Jcj hf xs dr e3
    show max d.depth (PyData.depthAll dr)<=n
    omega
theorem Jfq:∀(n:Nat)(v:IV)(d:Zdg),toD h n v=Za d->d.depth<=n:=by
 intro n
 induction n with
 |zero=>
  intro v d e
  cases v<;>cases e<;>exact Zm _
 |succ n ih=>
  intro v d e
  cases v with
  |non=>cases e;exact ZR _
  |bl b=>cases e;exact ZR _
  |int i=>cases e;exact ZR _
  |str z=>cases e;exact ZR _
  |tup xs=>
   obtain⟨ds,e2,rfl⟩:=ZD.mp<|show(xs.mapM<|toD h n).map ZcC=Za d from e
   exact ZcN<|Jcj ih xs ds e2
  |rol xs=>
   obtain⟨ds,e2,rfl⟩:=ZD.mp<|show(xs.mapM<|toD h n).map ZcY=Za d from e
   exact ZcN<|Jcj ih xs ds e2
  |ref i=>
   have e':(match h[i]? with|some (.lst xs)=>(xs.mapM<|toD h n).map ZcY|_=>Zc)=Za d:=e
   cases hi:h[i]? with
   |none=>rw[hi]at e';cases e'
   |some ob=>
    rw[hi]at e'
    cases ob with
    |lst xs=>
     obtain⟨ds,e2,rfl⟩:=ZD.mp e'
     exact ZcN<|Jcj ih xs ds e2
    |_=>cases e'
noncomputable def Xq:IV->IV->Wt
 |.non,.non=>Za Zh
 |.int i,.int j=>Za<|decide (i=j)
 |.str i,.str j=>Za<|decide (i=j)
 |.bl i,.bl j=>Za<|decide (i=j)
 |_,_=>Zc
noncomputable def Vx (x y:IV)(h:IH):Wt:=match toD h 6 x,toD h 6 y with
 |some a,Za b=>if a.canLay0=Zh/\b.canLay0=Zh then Za (Zbv a b)else Zc
 |_,_=>Zc
noncomputable def cEq (x y:IV)(h:IH):Res IV:=match Xq x y with
 |some b=>.ok (.bl b) h
 |none=>match Vx x y h with
  |some b=>.ok (.bl b) h
  |none=>.stuck
noncomputable def cNe (x y:IV)(h:IH):Res IV:=match Xq x y with
 |some b=>.ok (.bl (!b)) h
 |none=>match Vx x y h with
  |some b=>.ok (.bl (!b)) h
  |none=>.stuck
theorem Joq(e:Vx x y h=Za b):∃da db,toD h 6 x=Za da/\toD h 6 y=Za db/\da.canLay0=Zh/\db.canLay0=Zh/\b=Zbv da db:=by
 unfold Vx at e
 cases e1:toD h 6 x with
 |none=>rw[e1]at e;cases e
 |some da=>
  cases e2:toD h 6 y with
  |none=>rw[e1,e2]at e;cases e
  |some db=>
   rw[e1,e2]at e
   dsimp only at e
   split at e
   ·rename_i hz
    cases e
    exact⟨da,db,rfl,rfl,hz.1,hz.2,rfl⟩
   ·cases e
theorem Jm1{K:W.Frag}{ι:Tp}{H:Hp}{x y:IV}{b:Bool}{xv yv:V}(e:Xq x y=Za b)(qx:RV K ι H x xv)(qy:RV K ι H y yv):scal xv yv=Zh/\decide (xv=yv)=b:=by
 cases x with
 |non=>
  cases y with
  |non=>cases e;cases (show xv=.non from qx);cases (show yv=.non from qy);exact⟨rfl,rfl⟩
  |_=>cases e
 |int i=>
  cases y with
  |int j=>cases e;cases (show xv=.int i from qx);cases (show yv=.int j from qy);exact⟨rfl,03⟩
  |_=>cases e
 |str i=>
  cases y with
  |str j=>cases e;cases (show xv=.str i from qx);cases (show yv=.str j from qy);exact⟨rfl,03⟩
  |_=>cases e
 |bl i=>
  cases y with
  |bl j=>cases e;cases (show xv=.bl i from qx);cases (show yv=.bl j from qy);exact⟨rfl,03⟩
  |_=>cases e
 |_=>cases y<;>cases e
theorem o_eq(hu:X.A.units+64<Ze7):OpI ce X (Zas .Eq) cEq:=by
 intro pj s σ H ι σi h x y v u Q E N rx ry K
 obtain⟨xv,rx,qx⟩:=rx
 obtain⟨yv,ry,qy⟩:=ry
 unfold cEq at K
 cases es:Xq x y with
 |some b=>
  rw[es]at K
  obtain⟨h1,h2⟩:=Jm1 es qx qy
  exact Qg (J5x (X:=X.wish E)) N.inv rx ry ⟨h1,by rw[h2];exact fin0 N K rfl⟩
 |none=>
  rw[es]at K
  dsimp only at K
  cases ed:Vx x y h with
  |none=>rw[ed]at K;exact Zf K
  |some b=>
   rw[ed]at K
   obtain⟨da,db,e1,e2,c1,c2,rfl⟩:=Joq ed
   obtain⟨as,r1⟩:=V1 N 6 x da xv v e1 qx rx
   obtain⟨bs,r2⟩:=V1 N 6 y db yv u e2 qy ry
   have d1:=Jfq 6 x da e1
   exact PySem.SeqAt.compareEq_reads r1 r2 c1 c2 00<|fin0 N K rfl _ s N.inv rfl
theorem o_ne(hu:X.A.units+64<Ze7):OpI ce X (Zas .NotEq) cNe:=by
 intro pj s σ H ι σi h x y v u Q E N rx ry K
 obtain⟨xv,rx,qx⟩:=rx
 obtain⟨yv,ry,qy⟩:=ry
 unfold cNe at K
 cases es:Xq x y with
 |some b=>
  rw[es]at K
  obtain⟨h1,h2⟩:=Jm1 es qx qy
  exact Qg (J52 (X:=X.wish E)) N.inv rx ry ⟨h1,by rw[h2];exact fin0 N K rfl⟩
 |none=>
  rw[es]at K
  dsimp only at K
  cases ed:Vx x y h with
  |none=>rw[ed]at K;exact Zf K
  |some b=>
   rw[ed]at K
   obtain⟨da,db,e1,e2,c1,c2,rfl⟩:=Joq ed
   obtain⟨as,r1⟩:=V1 N 6 x da xv v e1 qx rx
   obtain⟨bs,r2⟩:=V1 N 6 y db yv u e2 qy ry
   have d1:=Jfq 6 x da e1
   exact PySem.SeqAt.compareNe_reads r1 r2 c1 c2 00<|fin0 N K rfl _ s N.inv rfl
def inI(x c:IV)(h:IH):Wt:=match toD h 6 c,toD h 6 x with
 |some (.list ds),Za d=>if ZY ds=Zh/\d.canLay0=Zh then Za (ds.any λy=>Zbv y d)else Zc
 |some (.tuple ds),Za d=>if ZY ds=Zh/\d.canLay0=Zh then Za (ds.any λy=>Zbv y d)else Zc
 |_,_=>Zc
noncomputable def cIn (x c:IV)(h:IH):Res IV:=match inI x c h with
 |some b=>.ok (.bl b) h
 |none=>.stuck
def Jro(x c:IV)(h:IH):Res IV:=match inI x c h with
 |some b=>.ok (.bl (!b)) h
 |none=>.stuck
theorem Jxm(e:inI x c h=Za b):∃ds d,(toD h 6 c=Za (.list ds)∨toD h 6 c=Za (.tuple ds))/\toD h 6 x=Za d/\ZY ds=Zh/\d.canLay0=Zh/\b=ds.any λy=>Zbv y d:=by
 unfold inI at e
 cases e1:toD h 6 c with
 |none=>rw[e1]at e;cases e
 |some dc=>
  cases e2:toD h 6 x with
  |none=>rw[e1,e2]at e;cases dc<;>cases e
  |some d=>
   rw[e1,e2]at e
   cases dc with
   |list ds=>
    dsimp only at e
    split at e
    ·rename_i hz;cases e;exact⟨ds,d,.inl rfl,rfl,hz.1,hz.2,rfl⟩
    ·cases e
   |tuple ds=>
    dsimp only at e
    split at e
    ·rename_i hz;cases e;exact⟨ds,d,.inr rfl,rfl,hz.1,hz.2,rfl⟩
    ·cases e
   |_=>cases e
theorem o_in(hu:X.A.units+64<Ze7):OpI ce X (Zas .In) cIn:=by
 intro pj s σ H ι σi h x y v u Q E N rx ry K
 obtain⟨xv,rx,qx⟩:=rx
 obtain⟨yv,ry,qy⟩:=ry
 unfold cIn at K
 cases ei:inI x y h with
 |none=>rw[ei]at K;exact Zf K
 |some b=>
  rw[ei]at K
  obtain⟨ds,d,hc,e2,c1,c2,rfl⟩:=Jxm ei
  obtain⟨bs,r2⟩:=V1 N 6 x d xv v e2 qx rx
  have d2:=Jfq 6 x d e2
  rcases hc with e1|e1
  ·obtain⟨as,r1⟩:=V1 N 6 y _ yv u e1 qy ry
   exact PySem.SeqAt.in_list_reads r1 r2 c1 c2 00<|fin0 N K rfl _ s N.inv rfl
  ·obtain⟨as,r1⟩:=V1 N 6 y _ yv u e1 qy ry
   exact PySem.SeqAt.in_tuple_reads r1 r2 c1 c2 00<|fin0 N K rfl _ s N.inv rfl
theorem Jz7(hu:X.A.units+64<Ze7):OpI ce X (Zas .NotIn) Jro:=by
 intro pj s σ H ι σi h x y v u Q E N rx ry K
 obtain⟨xv,rx,qx⟩:=rx
 obtain⟨yv,ry,qy⟩:=ry
 unfold Jro at K
 cases ei:inI x y h with
 |none=>rw[ei]at K;exact Zf K
 |some b=>
  rw[ei]at K
  obtain⟨ds,d,hc,e2,c1,c2,rfl⟩:=Jxm ei
  obtain⟨bs,r2⟩:=V1 N 6 x d xv v e2 qx rx
  have d2:=Jfq 6 x d e2
  rcases hc with e1|e1
  ·obtain⟨as,r1⟩:=V1 N 6 y _ yv u e1 qy ry
   exact PySem.SeqAt.notIn_list_reads r1 r2 c1 c2 00<|fin0 N K rfl _ s N.inv rfl
  ·obtain⟨as,r1⟩:=V1 N 6 y _ yv u e1 qy ry
   exact PySem.SeqAt.notIn_tuple_reads r1 r2 c1 c2 00<|fin0 N K rfl _ s N.inv rfl
noncomputable def isI:IV->IV->Wt
 |.non,.non=>Za Zh
 |.bl a,.bl b=>Za<|a==b
 |.bl _,.non=>Za Zk
 |.int _,.non=>Za Zk
 |.str _,.non=>Za Zk
 |.tup _,.non=>Za Zk
 |.rol _,.non=>Za Zk
 |.ref _,.non=>Za Zk
 |.non,.bl _=>Za Zk
 |.int _,.bl _=>Za Zk
 |.str _,.bl _=>Za Zk
 |.tup _,.bl _=>Za Zk
 |.rol _,.bl _=>Za Zk
 |.ref _,.bl _=>Za Zk
 |_,_=>Zc
theorem isR:isI (.ref i) .non=Za Zk:=rfl
theorem isD:isI (.int i) .non=Za Zk:=rfl
noncomputable def cIs (x y:IV)(h:IH):Res IV:=match isI x y with
 |some b=>.ok (.bl b) h
 |none=>.stuck
noncomputable def Ys (x y:IV)(h:IH):Res IV:=match isI x y with
 |some b=>.ok (.bl (!b)) h
 |none=>.stuck
theorem Jxn{K:W.Frag}{ι:Tp}{H:Hp}{x y:IV}{b:Bool}{v u:Ze}(e:isI x y=Za b)(rx:RU K ι H x v)(ry:RU K ι H y u):plainIs v u=Zh/\(v==u)=b:=by
 obtain⟨xv,rx,qx⟩:=rx
 obtain⟨yv,ry,qy⟩:=ry
 cases y with
 |non=>
  cases (show yv=.non from qy)
  cases ry
  cases x with
  |non=>cases e;cases (show xv=.non from qx);cases rx;exact⟨rfl,rfl⟩
  |bl c=>cases e;cases (show xv=.bl c from qx);cases rx;exact⟨rfl,rfl⟩
  |int c=>cases e;cases (show xv=.int c from qx);obtain⟨t,rfl⟩:=rx;exact⟨rfl,rfl⟩
  |str c=>cases e;cases (show xv=.str c from qx);obtain⟨t,rfl⟩:=rx;exact⟨rfl,rfl⟩
  |tup c=>cases e;obtain⟨a,vs,rfl,_⟩:=qx;cases rx;exact⟨rfl,rfl⟩
  |rol c=>cases e;obtain⟨a,vs,rfl,_⟩:=qx;cases rx;exact⟨rfl,rfl⟩
  |ref c=>cases e;obtain⟨a,rfl,_⟩:=qx;cases rx;exact⟨rfl,rfl⟩
 |bl d=>
  cases (show yv=.bl d from qy)
  cases ry
  cases x with
  |non=>cases e;cases (show xv=.non from qx);cases rx;exact⟨rfl,rfl⟩
  |bl c=>cases e;cases (show xv=.bl c from qx);cases rx;cases c<;>cases d<;>exact⟨rfl,rfl⟩
  |int c=>cases e;cases (show xv=.int c from qx);obtain⟨t,rfl⟩:=rx;exact⟨rfl,rfl⟩
  |str c=>cases e;cases (show xv=.str c from qx);obtain⟨t,rfl⟩:=rx;exact⟨rfl,rfl⟩
  |tup c=>cases e;obtain⟨a,vs,rfl,_⟩:=qx;cases rx;exact⟨rfl,rfl⟩
  |rol c=>cases e;obtain⟨a,vs,rfl,_⟩:=qx;cases rx;exact⟨rfl,rfl⟩
  |ref c=>cases e;obtain⟨a,rfl,_⟩:=qx;cases rx;exact⟨rfl,rfl⟩
 |_=>cases x<;>cases e
theorem o_is:OpI ce X (Zas .Is) cIs:=by
 intro pj s σ H ι σi h x y v u Q E N rx ry K
 unfold cIs at K
 cases ei:isI x y with
 |none=>rw[ei]at K;exact Zf K
 |some b=>
  rw[ei]at K
  obtain⟨h1,h2⟩:=Jxn ei rx ry
  exact wpAny_is_plain h1<|by rw[h2];exact fin0 N K rfl _ s N.inv rfl
theorem Jz6:OpI ce X (Zas .IsNot) Ys:=by
 intro pj s σ H ι σi h x y v u Q E N rx ry K
 unfold Ys at K
 cases ei:isI x y with
 |none=>rw[ei]at K;exact Zf K
 |some b=>
  rw[ei]at K
  obtain⟨h1,h2⟩:=Jxn ei rx ry
  exact wpAny_isNot_plain h1<|by rw[h2];exact fin0 N K rfl _ s N.inv rfl
inductive Ty where
 |non|bl|int|str|lst|tup|dct|ins (c:Str)|exc (c:Str)
noncomputable def tyI:IV->IH->Option Ty
 |.non,_=>Za .non
 |.bl _,_=>Za .bl
 |.int _,_=>Za .int
 |.str _,_=>Za .str
 |.tup _,_=>Za .tup
 |.rol _,_=>Za .lst
 |.ref i,h=>match h[i]? with
  |some (.lst _)=>Za .lst
  |some (.dct _)=>Za .dct
  |some (.ins c _)=>Za<|.ins c
  |_=>Zc
structure ClsI(K:W.Frag)(C:Zq):Prop where
 cl:Cls K C
 ha:W.findIn K (.ref C) "__class__"=Za (Za<|.builtin "object.__class__")
 hn:W.specialIn K (.builtin "object.__class__") "__get__"=Za (Za<|.builtin "getset_descriptor.__get__")
 htk:W.takesIn K (.builtin "object.__class__")=Za Zh
 hm:W.mroIn K C (.type "object")=Za Zh
structure IsOk(ce:CeT)(K:W.Frag)(c:Ze)(ans:Ty->Wt):Prop where
 non:∀b,ans .non=Za b->W.kitOne K (.type "NoneType") c=Za b
 bl:∀b,ans .bl=Za b->W.kitOne K (.type "bool") c=Za b
 int:∀b,ans .int=Za b->W.kitOne K (.type "int") c=Za b
 str:∀b,ans .str=Za b->W.kitOne K (.type "str") c=Za b
 lst:∀b,ans .lst=Za b->W.kitOne K (.type "list") c=Za b
 tup:∀b,ans .tup=Za b->W.kitOne K (.type "tuple") c=Za b
 dct:∀b,ans .dct=Za b->W.kitOne K (.type "dict") c=Za b
 ins:∀k C b,ans (.ins k)=Za b->ce k=Za C->ClsI K C/\W.kitOne K (.ref C) c=Za b
 exc:∀k C b,ans (.exc k)=Za b->W.nsIn K Z5 k=Za (Za<|.ref C)->ExI K C/\W.kitOne K (.ref C) c=Za b
def eIsi(ans:Ty->Wt)(e:E1):E1:=λσ h=>(e σ h).bind λv h1=>match (tyI v h1).bind ans with
 |some b=>.ok (.bl b) h1
 |none=>.stuck
theorem Jzn{b:Bool}{Q E:QvT}{A:ZN}(N:Now ce X pj ι σi h σ H s)(rx:RU X.K ι H x u)(O:IsOk ce X.K c ans)
  (e:(tyI x h).bind ans=Za b)(hq:∀tk,Q (.bool b) {s with toks:=tk}):Z0 (Z9 X.prog X.w) A (call (.builtin "isinstance") [u,c]) Q E s:=by
 obtain⟨xv,rx,qx⟩:=rx
 cases x with
 |non=>cases (show xv=.non from qx);cases rx;exact W.kia_one W.kitx_none N.inv.kIn Zar (O.non b e) (λz=>nomatch z) hq
 |bl i=>cases (show xv=.bl i from qx);cases rx;exact W.kia_one W.kitx_bool N.inv.kIn Zar (O.bl b e) (λz=>nomatch z) hq
 |int i=>cases (show xv=.int i from qx);obtain⟨t,rfl⟩:=rx;exact W.kia_one W.kitx_int N.inv.kIn Zar (O.int b e) (λz=>nomatch z) hq
 |str i=>cases (show xv=.str i from qx);obtain⟨t,rfl⟩:=rx;exact W.kia_one W.kitx_str N.inv.kIn Zar (O.str b e) (λz=>nomatch z) hq
 |tup xs=>
  obtain⟨a,vs,rfl,sa,_⟩:=qx
  cases rx
  obtain⟨its,rv,⟨o,ho,hc,m,hd⟩,hz⟩:=N.inv.tuple sa
  exact W.kia_one W.kitx_tuple N.inv.kIn ⟨o,ho,hc⟩ (O.tup b e) (λz=>nomatch z) hq
 |rol xs=>
  obtain⟨a,vs,rfl,sa,_⟩:=qx
  cases rx
  obtain⟨its,rv,⟨o,m,ho,hc,_,hd⟩,hz⟩:=N.inv.list sa.sq
  exact W.kia_one W.kitx_list N.inv.kIn ⟨o,ho,hc⟩ (O.lst b e) (λz=>nomatch z) hq
 |ref i=>
  obtain⟨a,rfl,ha⟩:=qx
  cases rx
  cases hi:h[i]? with
  |none=>simp[tyI,hi]at e
  |some ob=>
   cases ob with
   |lst xs=>
    simp only[tyI,hi]at e
    obtain⟨vs,e1,r1⟩:=N.at hi ha
    obtain⟨its,rv,⟨o,m,ho,hc,_,hd⟩,hz⟩:=N.inv.list<|SqL.of e1
    exact W.kia_one W.kitx_list N.inv.kIn ⟨o,ho,hc⟩ (O.lst b e) (λz=>nomatch z) hq
   |dct kvs=>
    simp only[tyI,hi]at e
    obtain⟨vs,e1,r1⟩:=N.at hi ha
    obtain⟨_,_,ws,_,p⟩:=(show JQ X.prog X.w H s.heap a (.dK vs)from N.inv.hok a _ e1)
    obtain⟨o,es,ep,h1,h2,_⟩:=p
    exact W.kia_one W.kitx_dict N.inv.kIn ⟨o,h1,h2.1⟩ (O.dct b e) (λz=>nomatch z) hq
   |ins c fs=>
    simp only[tyI,hi]at e
    obtain⟨C,dx,vs,hC,hH,rp⟩:=N.at hi ha
    obtain⟨I,hk⟩:=O.ins c C b e hC
    obtain⟨mA,Ob,_⟩:=Jj8 N.inv.hok hH
    obtain⟨od,J,_⟩:=Ob.look
    exact W.kia_one (W.kitx_own (I.cl.get _) I.cl.hd I.ha I.hn I.htk I.hm) N.inv.kIn J hk (λz=>nomatch z) hq
   |exc c fs=>simp[tyI,hi]at e
   |hld c fs=>simp[tyI,hi]at e
   |tab q=>simp[tyI,hi]at e
variable{a cx:Expr}{ma:E1}{pos p:Pos}
def ClsE(X:Cx)(cx:Expr)(c:Ze):Prop:=∀(pj:PnT)(σ:L2.St)(H:Hp)(s:Zn)(Q E:QvT),Inv X pj σ H s->Q c s->Z0 (Z9 X.prog X.w) X.A (ZaY cx X.env) Q E s
theorem Yu(hg:Gl X x)(hm:X.mg x=Zc)(hv:Zce x=Za c)(hn:x≠"__name__":=by decide)(hdb:(x==("__debug__":Str))=Zk:=by decide):ClsE X (.Name x p) c:=λ_ _ _ _ _ _ I q=>Q8 I hg hm hv q hn hdb
theorem Jyw(hg:Gl X x)(hm:X.mg x=Za c)(hdb:(x==("__debug__":Str))=Zk:=by decide):ClsE X (.Name x p) c:=λ_ _ _ _ _ _ I q=>Xl I hg hm q hdb
theorem J5g{ans:Ty->Wt}{c:Ze}(hc:ClsE X cx c)(O:IsOk ce X.K c ans)(ha:PEi ce X a ma)(hg:Gl X "isinstance")(hm:X.mg "isinstance"=Zc)(hv:Zce "isinstance"=Za (.builtin "isinstance"):=by rfl)
  (he:ZC [a,cx] X.env=(Zk,ZaY a X.env)::ZC [cx] X.env:=by rfl)(he2:ZC [cx] X.env=(Zk,ZaY cx X.env)::ZC [] X.env:=by rfl)(hpl:(Zbm pos<|ZC [cx] X.env).any (·.1)=Zk:=by rfl):PEi ce X (.Call (.Name "isinstance" p) [a,cx] [] pos) (eIsi ans ma):=by
 intro pj s σ H ι σi h Q E N K
 refine Zag<|Q8 N.inv hg hm hv ?_ 01 01
 refine ZbK ?_ he hpl
 rw[he]
 show Z0 _ _ (spliced<|(Zk,ZaY a X.env)::Zbm pos (ZC [cx] X.env)) _ _ s
 refine Zdx<|ha.run N K λx h1 u s1 H1 ι1 N1 n1 r1 K1=>?_
 rw[he2]
 show Z0 _ _ (spliced<|(Zk,ZaY cx X.env)::Zbm pos (ZC [] X.env)) _ _ s1
 refine Zdx<|hc pj σ H1 s1 _ E N1.inv ?_
 refine Calls.spliced_nil ?_
 cases e:(tyI x h1).bind ans with
 |none=>rw[e]at K1;exact Zf K1
 |some b=>
  rw[e]at K1
  exact Jzn N1 r1 O e λtk=>K1 _ _ H1 ι1 ⟨N1.inv.tok tk,N1.rel,N1.st⟩ .refl ⟨.bl b,rfl,rfl⟩
def VB:Ty->Wt
 |.int=>Za Zh|.bl=>Za Zh|.ins _=>Zc|.exc _=>Zc|_=>Za Zk
def VA:Ty->Wt
 |.bl=>Za Zh|.ins _=>Zc|.exc _=>Zc|_=>Za Zk
def VP:Ty->Wt
 |.str=>Za Zh|.ins _=>Zc|.exc _=>Zc|_=>Za Zk
def QN:Ty->Wt
 |.lst=>Za Zh|.ins _=>Zc|.exc _=>Zc|_=>Za Zk
def QC:Ty->Wt
 |.tup=>Za Zh|.ins _=>Zc|.exc _=>Zc|_=>Za Zk
theorem Jsj{K:W.Frag}:IsOk ce K (.type "bool") VA:=by
 refine⟨?_,?_,?_,?_,?_,?_,?_,(λk C b e=>by cases e),(λk C b e=>by cases e)⟩<;>(intro b e;cases e;first|rfl|with_unfolding_all rfl|kernel_rfl)
theorem Jvj{K:W.Frag}:IsOk ce K (.type "str") VP:=by
 refine⟨?_,?_,?_,?_,?_,?_,?_,(λk C b e=>by cases e),(λk C b e=>by cases e)⟩<;>(intro b e;cases e;first|rfl|with_unfolding_all rfl|kernel_rfl)
theorem Jl8{K:W.Frag}:IsOk ce K (.type "list") QN:=by
 refine⟨?_,?_,?_,?_,?_,?_,?_,(λk C b e=>by cases e),(λk C b e=>by cases e)⟩<;>(intro b e;cases e;first|rfl|with_unfolding_all rfl|kernel_rfl)
theorem Jvk{K:W.Frag}:IsOk ce K (.type "tuple") QC:=by
 refine⟨?_,?_,?_,?_,?_,?_,?_,(λk C b e=>by cases e),(λk C b e=>by cases e)⟩<;>(intro b e;cases e;first|rfl|with_unfolding_all rfl|kernel_rfl)
theorem Jvi{K:W.Frag}:IsOk ce K (.type "int") VB:=by
 refine⟨?_,?_,?_,?_,?_,?_,?_,(λk C b e=>by cases e),(λk C b e=>by cases e)⟩<;>(intro b e;cases e;first|rfl|with_unfolding_all rfl|kernel_rfl)
end
noncomputable def clOf (cells:Wn):Wg->Wn->Wn
 |[],acc=>acc
 |(n,k)::r,acc=>clOf cells r (if (k==Za5)=Zh then(match cells.lookup n with|some c=>(n,c)::acc|none=>acc)else acc)
theorem Jij{env:Env}(names:Wg)(acc:Wn)(h:∀x∈names,x.2=.free->∃c,env.cells.lookup x.1=Za c):
  (forIn names acc (λ(x:Str×Zbd)(r:Wn)=>if (x.2==Za5)=Zh then(do let c<-cellOf env x.1;pure (ZaR ((x.1,c)::r)))else pure (ZaR r)):Sem<|Wn)=pure (clOf env.cells names acc):=by
 induction names generalizing acc with
 |nil=>rfl
 |cons x r ih=>
  obtain⟨n,k⟩:=x
  have ih':=λa=>ih a λy hy=>h y<|Zp _ hy
  rw[List.forIn_cons]
  by_cases hk:(k==Za5)=Zh
  ·have hk':k=.free:=by
    cases k<;>first|rfl|exact absurd hk 01
   obtain⟨c,hc⟩:=h (n,k) Zy hk'
   have e1:cellOf env n=pure c:=by unfold cellOf;rw[hc]
   simp only[hk,if_true,e1,pure_bind]
   rw[ih']
   simp only[clOf,hk,if_true,hc]
  ·simp only[hk,Zae,if_false,pure_bind]
   rw[ih']
   simp only[clOf,hk,Zae,if_false]
theorem Jat{scope:Zbg}{env:Env}(h:∀x∈scope.names,x.2=.free->∃c,env.cells.lookup x.1=Za c):ZcQ scope env=pure (clOf env.cells scope.names []):=by
 have e:=Jij (env:=env) scope.names [] h
 have e2:ZcQ scope env=((forIn scope.names [] (λ(x:Str×Zbd)(r:Wn)=>if (x.2==Za5)=Zh then(do let c<-cellOf env x.1;pure (ZaR ((x.1,c)::r)))else pure (ZaR r)):Sem<|Wn)>>=λs=>pure s):=rfl
 rw[e2,e]
 rfl
theorem Jjs{cells:Wn}:∀(names:Wg)(acc:Wn),(∀x c,acc.lookup x=Za c->cells.lookup x=Za c)->∀x c,(clOf cells names acc).lookup x=Za c->cells.lookup x=Za c
 |[],_,h,x,c,e=>h x c e
 |(n,k)::r,acc,h,x,c,e=>by
  refine Jjs r _ ?_ x c e
  intro y d q
  split at q
  ·cases hc:cells.lookup n with
   |none=>rw[hc]at q;exact h y d q
   |some a=>
    rw[hc]at q
    simp only[Zad]at q
    cases hb:y==n with
    |true=>
     rw[hb]at q
     cases q
     rw[beq_iff_eq.mp hb]
     exact hc
    |false=>
     rw[hb]at q
     exact h y d q
  ·exact h y d q
theorem Jlk:∀(names:Wg)(acc:Wn)(x:Str),(acc.lookup x).isSome=Zh->((clOf cells names acc).lookup x).isSome=Zh
 |[],_,_,h=>h
 |(n,k)::r,acc,x,h=>by
  refine Jlk r _ x ?_
  split
  ·cases hc:cells.lookup n with
   |none=>exact h
   |some a=>
    simp only[Zad]
    cases hb:x==n with
    |true=>rfl
    |false=>exact h
  ·exact h
theorem Yt{cells:Wn}:∀(names:Wg)(acc:Wn)(x:Str)(c:Zq),(x,Za5)∈names->cells.lookup x=Za c->((clOf cells names acc).lookup x).isSome=Zh
 |[],_,_,_,h,_=>by simp at h
 |(n,k)::r,acc,x,c,h,hc=>by
  rcases Z6.mp h with e|e
  ·obtain⟨rfl,rfl⟩:=Prod.mk.inj e
   refine Jlk r _ _ ?_
   simp[hc]
  ·exact Yt r _ x c e hc
theorem Jbo{env:Env}:∀{names:Wg}{x:Str}{k:Zbd},
  (names.map λ(n,k)=>if (k==Za5&&env.scope.kind==.function&&env.kindOf n==Za .cell)then(n,ZdD)else(n,k)).lookup x=Za k ->
  ∃k0,names.lookup x=Za k0/\(k,k0)∈([(k0,k0),(.cell,.free)]:List<|Zbd×Zbd)
 |[],_,_,h=>by simp at h
 |(n,k1)::r,x,k,h=>by
  have ih:=@Jbo env r x k
  have h':Zb8 x ((if (k1==Za5&&env.scope.kind==.function&&env.kindOf n==Za .cell)=Zh then(n,ZdD)else(n,k1))::_)=Za k:=h
  cases hx:x==n with
  |true=>
   refine⟨k1,by simp[Zad,hx],?_⟩
   by_cases hc:(k1==Za5&&env.scope.kind==.function&&env.kindOf n==Za .cell)=Zh
   ·rw[if_pos hc]at h'
    simp only[Zad,hx]at h'
    cases h'
    simp only[Zo,beq_iff_eq]at hc
    rw[hc.1.1]
    simp
   ·rw[if_neg hc]at h'
    simp only[Zad,hx]at h'
    cases h'
    simp
  |false=>
   have h2:Zb8 x (r.map λ(n,k)=>if (k==Za5&&env.scope.kind==.function&&env.kindOf n==Za .cell)then(n,ZdD)else(n,k))=Za k:=by
    by_cases hc:(k1==Za5&&env.scope.kind==.function&&env.kindOf n==Za .cell)=Zh
    ·rw[if_pos hc]at h';simpa only[Zad,hx]using h'
    ·rw[if_neg hc]at h';simpa only[Zad,hx]using h'
   obtain⟨k0,e,m⟩:=ih h2
   exact⟨k0,by simp only[Zad,hx];exact e,m⟩
theorem Jgh{env:Env}:∀{names:Wg}{x:Str},names.lookup x=Za .free ->
  ∃k,(names.map λ(n,k)=>if (k==Za5&&env.scope.kind==.function&&env.kindOf n==Za .cell)then(n,ZdD)else(n,k)).lookup x=Za k/\(k=.cell∨k=.free)
 |[],_,h=>by simp at h
 |(n,k1)::r,x,h=>by
  have ih:=@Jgh env r x
  cases hx:x==n with
  |true=>
   simp only[Zad,hx]at h
   cases h
   by_cases hc:(Za5==Za5&&env.scope.kind==.function&&env.kindOf n==Za .cell)=Zh
   ·exact⟨.cell,by rw[Z1];dsimp only;rw[if_pos hc];simp only[Zad,hx],.inl rfl⟩
   ·exact⟨.free,by rw[Z1];dsimp only;rw[if_neg hc];simp only[Zad,hx],.inr rfl⟩
  |false=>
   simp only[Zad,hx]at h
   obtain⟨k,e,q⟩:=ih h
   refine⟨k,?_,q⟩
   rw[Z1]
   dsimp only
   by_cases hc:(k1==Za5&&env.scope.kind==.function&&env.kindOf n==Za .cell)=Zh
   ·rw[if_pos hc];simp only[Zad,hx];exact e
   ·rw[if_neg hc];simp only[Zad,hx];exact e
def cxC(X:Cx)(N':Tg)(scope:Zbg)(C:Zq)(s:Zn)(H:Hp)(fp:Tp):Cx:=
 {X with N:=N',s₀:=s,H₀:=H,env:=compEnvC scope (clOf X.env.cells scope.names []) C X.env,outer:=X.stack,ex:=fp,fn:=λ_=>Zk,pn:=[]}
noncomputable def QP (N0 loc caps:Tg)(js:Tl)(sc₀ scope:Zbg):Bool:=
 decide (scope.kind=.function)&&decide (sc₀.kind=.function)&&scope.names.all (λx=>!(x.2==.cell))&&scope.names.all (λx=>!(x.2==.local)||decide (scope.names.lookup x.1=Za .local)) &&
 scope.names.all (λx=>!(x.2==.free)||decide (sc₀.names.lookup x.1=Za .cell)||decide (sc₀.names.lookup x.1=Za .free)) &&
 scope.names.all (λx=>!(decide (scope.names.lookup x.1=Za .free))||(x.2==.free)) &&
 (js.zip caps).all (λp=>decide (N0[p.1]?=Za p.2)&&decide (scope.names.lookup p.2=Za .free))&&decide (js.length=caps.length)&&decide (loc++caps).Nodup &&
 loc.all (λn=>decide (scope.names.lookup n=Za .local))
open Classical in
def JR(chk:IH->Prop)(g:G1)(t:T1)(e:E1)(i0:Nat):Tq->ISt->IH->Res IV
 |[],_,h=>if chk h then .ok (.ref i0) h else .stuck
 |x::xs,σ,h=>if chk h then(match g x σ h with
   |.next σ1 h1=>(match t σ1 h1 with
    |.ok Zh h2=>(match e σ1 h2 with
     |.ok v h3=>(match h3[i0]? with
      |some (.lst acc)=>if acc.length<sizeLine then JR chk g t e i0 xs σ1 (h3.set i0<|.lst<|acc++[v])else .stuck
      |_=>.stuck)
     |_=>.stuck)
    |.ok Zk h2=>JR chk g t e i0 xs σ1 h2
    |_=>.stuck)
   |_=>.stuck)else .stuck
noncomputable def stC (nloc:Nat)(js:Tl)(σ:ISt):ISt:=ZU nloc Zc++js.map λj=>(σ[j]?).join
def Jz(it:I1)(nloc:Nat)(js:Tl)(g:G1)(t:T1)(e:E1):E1:=λσ h=>(it σ h).bind λJ h1=>JR J.chk g t e h1.length J.xs (stC nloc js σ)<|h1++[.lst []]
theorem Jlm{prog:ZB}{w:ZV}{A:ZN}{R:Zep->Zn->Prop}{s:Zn}{elt target iter:Expr}{ifs:Ta}{scope:Zbg}{pos:Pos}{it acc:Ze}{env:Env}(I:Nat->Zn->Prop)
  (turn:∀n s,I n s->Z0 (Z9 prog w) A (Zc3 it) (λr s₁=>match r with
   |none=>R (.ok .next) s₁
   |some v=>Z0 (Z9 prog w) A (Zco target it v) (λ_ s₁'=>Z0 (Z9 prog w) A (ZdZ target env v) (λ_ s₂=>
     Z0 (Z9 prog w) A (forIn ifs Zh λc r=>if r=Zh then do let ok<-isTrue c env (ZaY c env);pure (ZaR ok)else pure (ZaR r)) (λok s₃=>
      if ok=Zh then Z0 (Z9 prog w) A (ZaY elt env) (λx s₄=>
       Z0 (Z9 prog w) A (call (.builtin "list.append") [acc,x]) (λ_ s₅=>∃m,m<n/\I m s₅) (λ_ _=>False) s₄) (λ_ _=>False) s₃
      else ∃m,m<n/\I m s₃) (λ_ _=>False) s₂) (λ_ _=>False) s₁') (λ_ _=>False) s₁) (λ_ _=>False) s)
  (n:Nat) (h:I n s):Zc4 (Z9 prog w) A (.compLoop (.ListComp elt [⟨target,iter,ifs,0⟩] scope pos) 0 it acc env) R s:=by
 refine codeAny_loop rfl I (λn s hI=>?_) n h
 show Z0 _ A ((compTurn (.ListComp elt [⟨target,iter,ifs,0⟩] scope pos) 0 it acc env).onRaise λx=>do noteFrame x env;theTreesLotGoes x) _ _ s
 refine wpAny_noted<|nof ?_
 rw[compTurn_list]
 refine Zd<|Zbj<|Zd<|Zal (turn n s hI) (λr s₁ h₁=>?_) λ_ _ h'=>h'
 cases r with
 |none=>exact Zv h₁
 |some v=>
  refine Zd<|Zal h₁ (λ_ s₁' h₁'=>?_) λ_ _ h'=>h'
  refine Zd<|Zal h₁' (λ_ s₂ h₂=>Zd<|Zal h₂ (λok s₃ h₃=>?_) λ_ _ h'=>h') λ_ _ h'=>h'
  cases ok with
  |false=>exact Zv ⟨rfl,h₃⟩
  |true=>
   exact Zd<|Zd<|Zal h₃ (λx s₄ h₄=>Zd<|Zal h₄ (λ_ s₅ h₅=>Zv<|Zv ⟨rfl,h₅⟩) λ_ _ h'=>h') λ_ _ h'=>h'
def PTsi(ce:CeT)(X:Cx)(ifs:Ta)(m:T1):Prop:=PX ce X RB (forIn ifs Zh λc r=>if r=Zh then do let ok<-isTrue c X.env (ZaY c X.env);pure (ZaR ok)else pure (ZaR r)) m
noncomputable def JD:T1:=λ_ h=>.ok Zh h
theorem Jx8:PTsi ce X [] JD:=λ_ s _ H ι _ _ _ _ N K=>wpAny_tests_nil<|K Zh s H ι N .refl rfl
theorem Jx9{ce:CeT}{X:Cx}{c:Expr}{m:T1}(hc:PTi ce X c m):PTsi ce X [c] m:=λpj s σ H ι σi h Q E N K=>wpAny_tests_one<|hc pj s σ H ι σi h Q E N K
def V7(ce:CeT)(X:Cx)(use:Option<|Ze->Sem Unit)(pj:PnT)(ι:Tp)(σi:ISt)(σ:L2.St)(H:Hp)(r:Res IV)(Q E:QvT):Prop:=
 match r with
 |.ok v h'=>∀D C m s' H' ι',Now ce X pj ι' σi h' σ H' s'->Nxt ι H ι' H'->RU X.K ι' H' v (.ref D)->s'.heap.Ns C m->FpOk X pj H' C->compPost (Z9 X.prog X.w) X.A E use Q (.ref D) C (.ok .next) s'
 |.exc n h'=>∀pl a s' H' ι',Now ce X (pj++pl) ι' σi h' σ H' s'->Nxt ι H ι' H'->ι'[n]?=Za a->E (.ref a) s'
 |.stuck=>False
theorem V7.mono(k:V7 ce X use pj ι σi σ H r Q E)(n:Nxt ι H ι' H'):V7 ce X use pj ι' σi σ H' r Q E:=by
 cases r with
 |ok v h'=>exact λD C m s' H2 ι2 N n2 q=>k D C m s' H2 ι2 N (n.trans n2) q
 |exc m h'=>exact λpl a s' H2 ι2 N n2 q=>k pl a s' H2 ι2 N (n.trans n2) q
 |stuck=>exact k
structure TurnC(P:ZB)(w:ZV)(C:Cx->Hp->Prop)(tg:Expr)(J:It)(fp:Tp)(it:Zq)(tn:Nat->Zax->Prop):Prop where
 obj:∀i h,tn i h->∀b∈fp,∃o,h.get? b=Za o/\∀v,o.data≠.cell v
 keep:∀i h h',tn i h->(∀b∈fp,∀o,h.get? b=Za o->h'.get? b=Za o)->tn i h'
 item:∀(X:Cx)(i:Nat)(s:Zn)(σ:L2.St)(H:Hp),C X H->Inv X [] σ H s->(∀b∈fp,FpOk X [] H b)->tn i s.heap->J.go i H ->
  Z0 (Z9 P w) X.A (Zc3<|.ref it) (λr s1=>∃u,r=Za u/\Z0 (Z9 P w) X.A (Zco tg (.ref it) u) (λ_ s2=>∃x H',Inv X [] σ H' s2/\RelV x u/\J.yld i H x H'/\tn (i+1) s2.heap/\∀b∈fp,H' b=Zc) (λ_ _=>False) s1) (λ_ _=>False) s
 done:∀(X:Cx)(i:Nat)(s:Zn)(σ:L2.St)(H:Hp),C X H->Inv X [] σ H s->(∀b∈fp,FpOk X [] H b)->tn i s.heap->J.stop i H->Z0 (Z9 P w) X.A (Zc3<|.ref it) (λr s1=>r=Zc/\Inv X [] σ H s1) (λ_ _=>False) s
 self:∀(A:ZN)(i:Nat)(s:Zn)(Q:QvT)(E:QvT),tn i s.heap->Q (.ref it) s->Z0 (Z9 P w) A (ZdV<|.ref it) Q E s
def J4r(X0:Cx)(X:Cx)(_:Hp):Prop:=X.prog=X0.prog/\X.w=X0.w/\X.K=X0.K/\X.calm=Zh
def RItC(C:Cx->Hp->Prop)(ce:CeT)(X:Cx)(tg:Expr)(pj:PnT)(ι':Tp)(I:ItI)(itv:Ze)(s2:Zn)(H':Hp):Prop:=
 ∃(it:Zq)(fp:Tp)(tn:Nat->Zax->Prop)(J:It),itv=.ref it/\TurnC X.prog X.w C tg J fp it tn/\tn 0 s2.heap/\(∀b∈fp,FpOk X pj H' b)/\ItOk ce X.K ι' H' J I
def PIc(C:Cx->Hp->Prop)(ce:CeT)(X:Cx)(tg iter:Expr)(m:I1):Prop:=
 ∀(pj:PnT)(s:Zn)(σ:L2.St)(H:Hp)(ι:Tp)(σi:ISt)(h:IH)(Q:QvT)(E:QvT),Now ce X pj ι σi h σ H s ->
  (match m σi h with
   |.ok I h'=>∀itv s' H' ι',Now ce X pj ι' σi h' σ H' s'->Nxt ι H ι' H'->RItC C ce X tg pj ι' I itv s' H'->Q itv s'
   |.exc n h'=>∀pl a s' H' ι',Now ce X (pj++pl) ι' σi h' σ H' s'->Nxt ι H ι' H'->ι'[n]?=Za a->E (.ref a) s'
   |.stuck=>False) ->
  Z0 (Z9 X.prog X.w) X.A (ZaY iter X.env) (λv s1=>Z0 (Z9 X.prog X.w) X.A (ZdV v) Q E s1) E s
theorem PIi.c(p:PIi ce X tg iter m):PIc (J4r X) ce X tg iter m:=λpj s σ H ι σi h Q E N k=>p pj s σ H ι σi h Q E N (by
 cases e:m σi h with
 |exc n h'=>rw[e]at k;exact k
 |stuck=>rw[e]at k;exact k
 |ok I h'=>
  rw[e]at k
  intro itv s' H' ι' N' n' ⟨it,fp,tn,J,e1,T,r⟩
  refine k itv s' H' ι' N' n' ⟨it,fp,tn,J,e1,⟨T.obj,T.keep,λX' i s σ H c=>?_,λX' i s σ H c=>?_,T.self⟩,r⟩
  ·exact T.item X' c.1 c.2.1 c.2.2.1 c.2.2.2 i [] s σ H _
  ·exact T.done X' c.1 c.2.1 c.2.2.1 c.2.2.2 i [] s σ H _)
section
variable{ce:CeT}{X:Cx}
theorem Jln{N0 loc caps:Tg}{js:Tl}{sc₀ scope:Zbg}{tg iter elt:Expr}{ifs:Ta}{g:G1}{mt:T1}{me:E1}{pos ppos:Pos}{use:Option (Ze->Sem Unit)}(hi:PIc Cc ce X tg iter mi)
  (hg:∀C s H fp,PGi ce (cxC X (loc++caps) scope C s H fp) tg g)(ht:∀C s H fp,PTsi ce (cxC X (loc++caps) scope C s H fp) ifs mt)(he:∀C s H fp,PEi ce (cxC X (loc++caps) scope C s H fp) elt me)
  (ok:QP N0 loc caps js sc₀ scope=Zh)(hN0:X.N=N0:=by rfl)(hsc:X.env.scope=sc₀:=by rfl)(hs:∀x,ZbZ iter X.env x=pure x:=by intro _;rfl)
  {pj:PnT}{s:Zn}{σ:L2.St}{H:Hp}{ι:Tp}{σi:ISt}{h:IH}{Q E:QvT}(hcc:∀C s H1 fp H',Ext H H'->Cc (cxC X (loc++caps) scope C s H1 fp) H')(N:Now ce X pj ι σi h σ H s)(K:V7 ce X use pj ι σi σ H (Jz mi loc.length js g mt me σi h) Q E):
  Z0 (Z9 X.prog X.w) X.A (comprehension (.ListComp elt [⟨tg,iter,ifs,0⟩] scope pos) scope X.env ppos (newList []) Zk (ZaY iter X.env) use) Q E s:=by
 simp only[QP,Zo,decide_eq_true_eq,Zbe,ZaN,Za4,beq_iff_eq,beq_eq_false_iff_ne]at ok
 obtain⟨⟨⟨⟨⟨⟨⟨⟨⟨kF,kF0⟩,kNC⟩,kL⟩,kFr⟩,kFx⟩,kJ⟩,kLen⟩,kNd⟩,kLo⟩:=ok
 have hfree:∀x∈scope.names,x.2=.free->X.env.kindOf x.1=Za .cell∨X.env.kindOf x.1=Za .free:=λx hx hk=>by
  have e:X.env.kindOf x.1=sc₀.names.lookup x.1:=by rw[<-hsc];rfl
  rw[e]
  rcases kFr x hx with(z|z)|z
  ·exact absurd hk z
  ·exact .inl z
  ·exact .inr z
 have hclos:ZcQ scope X.env=pure (clOf X.env.cells scope.names []):=Jat λx hx hk=>N.inv.ok.has x.1<|hfree x hx hk
 refine wpAny_comprehension_free (use:=use) (e:=.ListComp elt [⟨tg,iter,ifs,0⟩] scope pos) rfl hs hclos kF (λx hx hl=>(kL x hx).resolve_left λz=>z hl) ?_
 refine hi pj s σ H ι σi h _ E N ?_
 unfold Jz at K
 cases e0:mi σi h with
 |exc n h'=>rw[e0]at K;exact K
 |stuck=>rw[e0]at K;exact K
 |ok Jt h1=>
  rw[e0]at K
  intro itv s1 H1 ι1 N1 n1 RI
  obtain⟨it,fp,tn,J,e,T,st1,f1,OK⟩:=RI
  subst e
  -- the list
  refine Zbq ?_
  have fresh1:H1 s1.heap.objs.size=Zc:=N1.inv.hok.fresh<|Zm _
  have I2:Inv X pj σ (upd H1 s1.heap.objs.size<|.lst []) {s1 with heap:=s1.heap.push {cls:=.type "list",dict:=Zc,data:=.seq ([]:To).toArray} }:=
   N1.inv.laid (t':=s1.toks) (λb u e=>Zj _ e) (Zm _) ⟨ZR _,[],0,.nil,Z2 _ rfl⟩
  obtain⟨R2,n2⟩:=N1.rel.alloc (o:=.lst []) (io:=.lst []) fresh1 ⟨[],JH,rfl⟩
  generalize hs2:({s1 with heap:=s1.heap.push {cls:=.type "list",dict:=Zc,data:=.seq ([]:To).toArray} }:Zn)=s2 at I2 ⊢
  generalize hD:s1.heap.objs.size=D at *
  generalize hH2:upd H1 D (.lst [])=H2 at *
  have N2:Now ce X pj (ι1++[D]) σi (h1++[.lst []]) σ H2 s2:=⟨I2,R2,N1.st.mono n2⟩
  have keep12:∀b o,s1.heap.get? b=Za o->s2.heap.get? b=Za o:=λb o q=>by rw[<-hs2];exact Zj _ q
  have st2:tn 0 s2.heap:=T.keep 0 _ _ st1 λb _ o q=>keep12 b o q
  have hat:(ι1++[D])[h1.length]?=Za D:=by
   rw[<-N1.rel.len,Z8<|Zm _]
   simp
  have f2:∀b∈fp,FpOk X pj H2 b:=λb hb=>by
   refine⟨?_,(f1 b hb).2⟩
   obtain⟨o,ho,_⟩:=T.obj 0 _ st1 b hb
   have:b≠D:=Z7<|by rw[<-hD];exact Z3 ho
   rw[<-hH2,Jx this]
   exact(f1 b hb).1
  -- the block's own dict
  refine wpAny_newFunctionEnv (λx hx=>kNC x hx) (by intro y hy;simp at hy) (λh3 hns3 hsb3=>?_) kF
  generalize hC:s2.heap.objs.size=C at *
  have keep23:∀b o,s2.heap.get? b=Za o->h3.get? b=Za o:=λb o q=>(hsb3.2 b<|Z7<|by rw[<-hC];exact Z3 q).trans<|Zj _ q
  have cells':∀x c,(clOf X.env.cells scope.names []).lookup x=Za c->X.env.cells.lookup x=Za c:=Jjs _ _ (λx c q=>by simp at q)
  -- the context of the block
  have okX:(cxC X (loc++caps) scope C s2 H2 fp).Ok:=by
   refine⟨N.inv.ok.mod,kF,N.inv.ok.glob,N.inv.ok.blt,Zc6 hC,λx y c a b=>N.inv.ok.inj x y c (cells' x c a)<|cells' y c b,λx hx=>?_,λx c z=>?_,N.inv.ok.hd,N.inv.ok.frames,.inl rfl,λb hb=>?_,λb o q=>I2.bs b o q,
    ZW N.inv.ok.bsz I2.sz,λb o q hb=>?_,λb hb z=>?_,I2.stack,I2.stkFree⟩
   ·have hx':(relabel scope X.env).names.lookup x=Za .cell∨(relabel scope X.env).names.lookup x=Za .free:=hx
    have hfr:scope.names.lookup x=Za .free:=by
     rcases hx' with z|z
     ·obtain⟨k0,e,m⟩:=Jbo z
      simp only[Z6,Prod.mk.injEq,ZF,or_false]at m
      rcases m with⟨m1,_⟩|⟨_,m2⟩
      ·exact absurd (kNC _<|Zah e) (by rw[<-m1];intro q;exact q rfl)
      ·rw[m2]at e;exact e
     ·obtain⟨k0,e,m⟩:=Jbo z
      simp only[Z6,Prod.mk.injEq,ZF,or_false]at m
      rcases m with⟨m1,_⟩|⟨m1,_⟩
      ·rw[<-m1]at e;exact e
      ·cases m1
    have hm:=Zah hfr
    obtain⟨c,hc'⟩:=N.inv.ok.has x<|hfree (x,.free) hm rfl
    exact Zbh.mp<|Yt _ _ x c hm hc'
   ·exact absurd (show Zk=Zh from z) Zu
   ·have hbD:=f2 b hb
    obtain⟨o,ho,_⟩:=T.obj 0 _ st2 b hb
    exact⟨Z7 (by show b<C;rw[<-hC];exact Z3 ho),λx c q=>hbD.2.2.2.2.1 x c<|cells' x c q⟩
   ·rcases(f2 b hb).2.2.2.1 with z|z
    ·exact N.inv.ok.noex b o q z
    ·exact ZbX _<|ZH (Z3 q)<|ZW N.inv.ok.bsz z
   ·rcases Z6.mp (I2.stkSub b z)with e|e
    ·exact(f2 b hb).2.1 e
    ·exact(f2 b hb).2.2.1 e
  -- the block's state
  have lenJ:js.length=caps.length:=kLen
  have stl:(stC loc.length js σi).length=(loc++caps).length:=by simp[stC,lenJ]
  have R3:Rel ce X.K (ι1++[D]) (h1++[.lst []]) H2:=R2
  have I3:Inv (cxC X (loc++caps) scope C s2 H2 fp) [] (ZU loc.length Zc++js.map λj=>(σ[j]?).join) H2 {s2 with heap:=h3,toks:=s2.toks+([]:Wj).length}:=by
   refine⟨okX,rfl,I2.bare,Un.kept keep23,⟨_,hns3,λi x v a b c=>?_⟩,λx c q=>?_,I2.hok.fresh<|Zc6 hC,λx c q=>I2.freeC x c<|cells' x c q,λp hp=>absurd (show p∈([]:PnT)from hp) 03,I2.hok.kept keep23,by show _=(loc++caps).length;simp[lenJ]⟩
   ·have hi:loc.length<=i:=by
     refine ZcP λhlt=>?_
     rw[ZE (by simpa using hlt),ZbJ]at b
     split at b<;>cases b
    obtain⟨k,rfl⟩:∃k,i=loc.length+k:=⟨i-loc.length,00⟩
    have a':(loc++caps)[loc.length+k]?=Za x:=a
    rw[Z8 00]at a'
    rw[Z8 03]at b
    simp only[Nat.add_sub_cancel_left,Zb3,Z4]at a' b
    cases ej:js[k]? with
    |none=>rw[ej]at b;cases b
    |some j=>
     rw[ej]at b
     have b':(σ[j]?).join=Za v:=Zaq b
     have hσ:σ[j]?=Za (Za v):=by
      cases es:σ[j]? with
      |none=>rw[es]at b';cases b'
      |some o=>rw[es]at b';rw[show o=Za v from b']
     have hz:=kJ (j,x) (List.mem_iff_getElem?.mpr ⟨k,by rw[List.getElem?_zip_eq_some];exact⟨ej,a'⟩⟩)
     obtain⟨hx1,hx2⟩:=hz
     obtain⟨m,hn,hl⟩:=I2.loc
     have hk:=hfree (x,.free) (Zah hx2) rfl
     obtain⟨u,ru,lk⟩:=hl j x v (by rw[hN0];exact hx1) hσ (by rcases hk with q|q;exact .inr (.inl q);exact .inr (.inr q))
     rcases lk with⟨q,_⟩|⟨q,c,hc',hcell⟩
     ·rcases hk with q'|q'<;>(rw[q']at q;cases q)
     ·obtain⟨kk,ek,hkk⟩:=Jgh (env:=X.env) hx2
      have hcl:=Yt (cells:=X.env.cells) scope.names [] x c (Zah hx2) hc'
      obtain⟨c',hc2⟩:=Zbh.mp hcl
      have:=cells' x c' hc2
      rw[hc']at this
      cases this
      obtain⟨oc,hoc,hd⟩:=hcell
      refine⟨u,ru,.inr ⟨?_,c,hc2,oc,keep23 _ _ hoc,hd⟩⟩
      rcases hkk with rfl|rfl
      ·exact .inl ek
      ·exact .inr ek
   ·obtain⟨v,o,ho,hd⟩:=I2.cell x c<|cells' x c q
    exact⟨v,o,keep23 _ _ ho,hd⟩
  have N3:Now ce (cxC X (loc++caps) scope C s2 H2 fp) [] (ι1++[D]) (stC loc.length js σi) (h1++[.lst []]) (ZU loc.length Zc++js.map λj=>(σ[j]?).join) H2 {s2 with heap:=h3,toks:=s2.toks+([]:Wj).length}:=by
   refine⟨I3,R3,by simp[stC],λi v q=>?_⟩
   unfold stC at q
   have hi:loc.length<=i:=by
    refine ZcP λhlt=>?_
    rw[ZE (by simpa using hlt),ZbJ]at q
    split at q<;>cases q
   rw[Z8<|by simpa using hi]at q
   simp only[Zb3,Z4]at q
   cases ej:js[i-loc.length]? with
   |none=>rw[ej]at q;cases q
   |some j=>
    rw[ej]at q
    have q':(σi[j]?).join=Za v:=Zaq q
    have hσ:σi[j]?=Za (Za v):=by
     cases es:σi[j]? with
     |none=>rw[es]at q';cases q'
     |some o=>rw[es]at q';rw[show o=Za v from q']
    obtain⟨u,hu,qu⟩:=N2.st.at_ j v hσ
    refine⟨u,?_,qu⟩
    rw[Z8<|by simpa using hi]
    simp only[Zb3,Z4,ej,Option.map_some,hu]
    rfl
  have st3:tn 0 h3:=T.keep 0 _ _ st2 λb _ o q=>keep23 b o q
  have K2:V7 ce X use pj (ι1++[D]) σi σ H2 (JR Jt.chk g mt me h1.length Jt.xs (stC loc.length js σi)<|h1++[.lst []]) Q E:=V7.mono (r:=JR Jt.chk g mt me h1.length Jt.xs (stC loc.length js σi)<|h1++[.lst []]) K<|n1.trans n2
  have loop:Zc4 (Z9 X.prog X.w) X.A (.compLoop (.ListComp elt [⟨tg,iter,ifs,0⟩] scope pos) 0 (.ref it) (.ref D)<|compEnvC scope (clOf X.env.cells scope.names []) C X.env) (compPost (Z9 X.prog X.w) X.A E use Q (.ref D) C)
    {s2 with heap:=h3,toks:=s2.toks+([]:Wj).length}:=by
   refine Jlm (λn s'=>∃k ιk σk hk σ' H',Now ce (cxC X (loc++caps) scope C s2 H2 fp) [] ιk σk hk σ' H' s'/\Nxt (ι1++[D]) H2 ιk H'/\tn k s'.heap/\(∀b∈fp,H' b=Zc)/\n=Jt.xs.length-k/\k<=Jt.xs.length/\V7 ce X use pj ιk σi σ H' (JR Jt.chk g mt me h1.length (Jt.xs.drop k) σk hk) Q E) ?_ Jt.xs.length
    ⟨0,ι1++[D],stC loc.length js σi,h1++[.lst []],_,H2,N3,.refl,st3,λb hb=>(f2 b hb).1,03,ZR _,by simpa using K2⟩
   have stat:∀{H':Hp},(∀b∈fp,H' b=Zc)->∀b∈fp,FpOk (cxC X (loc++caps) scope C s2 H2 fp) [] H' b:=λhn b hb=>
    ⟨hn b hb,(okX.exf b hb).1,okX.exfs b hb,.inl hb,(okX.exf b hb).2,λp hp=>absurd (show p∈([]:PnT)from hp) 03⟩
   rintro n s4 ⟨k,ιk,σk,hk,σ4,H4,N4,n4,st4,fr4,rfl,hkl,K4⟩
   by_cases hlt:k<Jt.xs.length
   ·have hd:Jt.xs.drop k=Jt.xs[k]::Jt.xs.drop (k+1):=ZaI hlt
    rw[hd]at K4
    unfold JR at K4
    split at K4
    ·rename_i hck
     obtain⟨go,yl⟩:=OK.go k Jt.xs[k] hk H4 ιk (n2.trans n4) N4.rel hck<|Zb hlt
     refine thn (T.item (cxC X (loc++caps) scope C s2 H2 fp) k s4 σ4 H4 (hcc _ _ _ _ _ (n1.trans<|n2.trans n4).ext) N4.inv (stat fr4) st4 go) λr s5 ⟨u,hr,h5⟩=>?_
     subst hr
     refine thn h5 λ_ s6 ⟨x,H6,I6,r6,y6,st6,fr6⟩=>?_
     obtain⟨R6,n6,q6⟩:=yl x H6 y6
     have I6':=I6.pinned (stat fr6)<|T.obj _ _ st6
     have N6:Now ce (cxC X (loc++caps) scope C s2 H2 fp) ([]++Vj fp s6.heap) ιk σk hk σ4 H6 s6:=⟨I6',R6,N4.st.mono n6⟩
     have again:∀{σ7:L2.St}{H7:Hp}{s7:Zn}{σ7i:ISt}{h7:IH}{ι7:Tp},Now ce (cxC X (loc++caps) scope C s2 H2 fp) ([]++Vj fp s6.heap) ι7 σ7i h7 σ7 H7 s7->Nxt ιk H6 ι7 H7->V7 ce X use pj ιk σi σ H4 (JR Jt.chk g mt me h1.length (Jt.xs.drop<|k+1) σ7i h7) Q E ->
       ∃m,m<Jt.xs.length-k/\∃k ιk σk hk σ' H',Now ce (cxC X (loc++caps) scope C s2 H2 fp) [] ιk σk hk σ' H' s7/\Nxt (ι1++[D]) H2 ιk H'/\tn k s7.heap/\(∀b∈fp,H' b=Zc)/\m=Jt.xs.length-k/\k<=Jt.xs.length/\V7 ce X use pj ιk σi σ H' (JR Jt.chk g mt me h1.length (Jt.xs.drop k) σk hk) Q E:=
      λ{σ7 H7 s7 σ7i h7 ι7} N7 n7 K7=>by
       have nn:Nxt ιk H4 ι7 H7:=n6.trans n7
       refine⟨Jt.xs.length-(k+1),00,k+1,ι7,σ7i,h7,σ7,H7,N7.pins,n4.trans nn,T.keep _ _ _ st6 λb hb o e=>(N7.inv.pin (b,o)<|Zl _<|Zl _<|Y9 hb e).1,λb hb=>?_,rfl,hlt,K7.mono nn⟩
       obtain⟨o,e,d⟩:=T.obj _ _ st6 b hb
       exact(N7.inv.pin (b,o)<|Zl _<|Zl _<|Y9 hb e).2.1
     cases eg:g Jt.xs[k] σk hk with
     |next σg hgg=>
      rw[eg]at K4
      dsimp only at K4
      refine hg C s2 H2 fp _ s6 σ4 H6 ιk σk hk _ u (λ_ s7=>Z0 (Z9 X.prog X.w) X.A (forIn ifs Zh λc r=>if r=Zh then do let ok<-isTrue c _ (ZaY c _);pure (ZaR ok)else pure (ZaR r)) _ _ s7) (λ_ _=>False) N6 ⟨x,r6,q6⟩ ?_
      rw[eg]
      intro s7 σ7 H7 ι7 N7 n7
      refine ht C s2 H2 fp _ s7 σ7 H7 ι7 σg hgg _ (λ_ _=>False) N7 ?_
      cases et:mt σg hgg with
      |ok c h8=>
       rw[et]at K4
       intro d s8 H8 ι8 N8 n8 rd
       have rd':d=c:=rd
       subst rd'
       cases d with
       |false=>exact again N8 (n7.trans n8) K4
       |true=>
        dsimp only at K4
        refine he C s2 H2 fp _ s8 σ7 H8 ι8 σg h8 _ (λ_ _=>False) N8 ?_
        cases ee:me σg h8 with
        |ok v h9=>
         rw[ee]at K4
         dsimp only at K4
         intro w s9 H9 ι9 N9 n9 rw9
         have hat9:ι9[h1.length]?=Za D:=(((n4.trans n6).trans n7).trans<|n8.trans n9).at hat
         cases hl:h9[h1.length]? with
         |none=>rw[hl]at K4;exact Zf K4
         |some ob=>
          rw[hl]at K4
          cases ob with
          |lst acc=>
           dsimp only at K4
           split at K4
           ·rename_i hz
            obtain⟨vs,eD,rD⟩:=N9.at hl hat9
            obtain⟨wv,rw9,qw⟩:=rw9
            have ap:=Jmd (X:=(cxC X (loc++caps) scope C s2 H2 fp).wish λ_ _=>False) ([]++Vj fp s6.heap) s9 σ7 H9 (.ref D) [wv] (.ref D) [w] (λ_ H'=>H'=upd H9 D (.lst<|vs++[wv])) (N9.inv.wish _) rfl (.cons rw9 .nil) ⟨D,vs,wv,rfl,rfl,eD,by rw[rD.length];exact hz,rfl⟩
            refine Zal ap (λ_ s10 hq=>?_) λ_ _ z=>z
            obtain⟨z,H10,I10,_,rfl⟩:=hq
            have n10:Nxt ι9 H9 ι9 (upd H9 D<|.lst<|vs++[wv]):=⟨⟨[],03⟩,Ext.upd_mut eD<|by rw[eD];exact Zar⟩
            obtain⟨R10,_⟩:=N9.rel.write (o:=.lst<|vs++[wv]) (io:=.lst<|acc++[v]) hat9 eD (by rw[eD];exact Zar) ⟨_,JH,(RVs.mono n10 _ _ rD).append<|RVs.one<|RV.mono n10 _ _ qw⟩
            exact again ⟨I10.unwish,R10,N9.st.mono n10⟩ (((n7.trans n8).trans n9).trans n10) K4
           ·exact Zf K4
          |_=>exact Zf K4
        |_=>rw[ee]at K4;exact Zf K4
      |_=>rw[et]at K4;exact Zf K4
     |_=>rw[eg]at K4;exact Zf K4
    ·exact Zf K4
   ·have hke:Jt.xs.drop k=[]:=ZcA 00
    rw[hke]at K4
    unfold JR at K4
    split at K4
    ·rename_i hck
     have stop:=OK.stop k hk H4 ιk (n2.trans n4) N4.rel hck 00
     refine thn (T.done (cxC X (loc++caps) scope C s2 H2 fp) k s4 σ4 H4 (hcc _ _ _ _ _ (n1.trans<|n2.trans n4).ext) N4.inv (stat fr4) st4 stop) λr s5 ⟨hr,I5⟩=>?_
     subst hr
     obtain⟨m,hnm,_⟩:=I5.loc
     -- back to the def's own frame
     have hos:s5.os=s2.os:=I5.os
     obtain⟨hp5,g5,d5,t5,os5⟩:=s5
     obtain rfl:os5=s2.os:=hos
     have J5:Inv X pj σ H4 {s2 with heap:=hp5,gens:=g5,drawn:=d5,toks:=t5}:=I2.call (ch:=fp) I5.base I5.hok I5.bare λb hb=>⟨(f2 b hb).2.2.2.1,(f2 b hb).2.1,(f2 b hb).2.2.2.2.1,(f2 b hb).2.2.2.2.2⟩
     have fC:FpOk X pj H4 C:=I2.fpOk (Zc6 hC) I5.free
     exact K4 D C m _ H4 ιk ⟨J5,N4.rel,(N2.st.mono n4)⟩ .refl ⟨.ref D,rfl,D,rfl,n4.at hat⟩ hnm fC
    ·exact Zf K4
  exact codeAny_compStart_list loop<|T.self X.A 0 _ _ _ st3 loop
theorem Now.letgo{pj:PnT}{ι:Tp}{σi:ISt}{h:IH}{σ:L2.St}{H:Hp}{s:Zn}{C:Zq}{h':Zax}(N:Now ce X pj ι σi h σ H s)(fC:FpOk X pj H C)(sb:Zc2 C s.heap h'):Now ce X pj ι σi h σ H {s with heap:=h'}:=
 ⟨N.inv.turned (it:=C) (t':=s.toks) (λb o hb q=>(sb.2 b hb).trans q) fC.1 fC.2.1 fC.2.2.2.1 fC.2.2.2.2.1 fC.2.2.2.2.2,N.rel,N.st⟩
theorem Jxl{N0 loc caps:Tg}{js:Tl}{sc₀ scope:Zbg}{tg iter elt:Expr}{ifs:Ta}{g:G1}{mt:T1}{me:E1}{pos:Pos}(hc:X.calm=Zh)(hi:PIi ce X tg iter mi)
  (hg:∀C s H fp,PGi ce (cxC X (loc++caps) scope C s H fp) tg g)(ht:∀C s H fp,PTsi ce (cxC X (loc++caps) scope C s H fp) ifs mt)(he:∀C s H fp,PEi ce (cxC X (loc++caps) scope C s H fp) elt me)
  (ok:QP N0 loc caps js sc₀ scope=Zh)(hN0:X.N=N0:=by rfl)(hsc:X.env.scope=sc₀:=by rfl)(hs:∀x,ZbZ iter X.env x=pure x:=by intro _;rfl):PEi ce X (.ListComp elt [⟨tg,iter,ifs,0⟩] scope pos) (Jz mi loc.length js g mt me):=by
 intro pj s σ H ι σi h Q E N K
 rw[eval_ListComp]
 refine Jln hi.c hg ht he ok hN0 hsc hs (λ_ _ _ _ _ _=>⟨rfl,rfl,rfl,hc⟩) N ?_
 cases e0:Jz mi loc.length js g mt me σi h with
 |exc n h'=>rw[e0]at K;exact K
 |stuck=>rw[e0]at K;exact K
 |ok v h'=>
  rw[e0]at K
  exact λD C m s' H' ι' N' n' r hns fC=>⟨m,hns,λh2 sb=>K _ _ H' ι' (N'.letgo fC sb) n' r⟩
theorem Jx1{N0 loc caps:Tg}{js:Tl}{sc₀ scope:Zbg}{tg iter elt:Expr}{ifs:Ta}{g:G1}{mt:T1}{me:E1}{pos pos2 pos3:Pos}{i:Nat}{x:Str}(hc:X.calm=Zh)(hi:PIi ce X tg iter mi)
  (hg:∀C s H fp,PGi ce (cxC X (loc++caps) scope C s H fp) tg g)(ht:∀C s H fp,PTsi ce (cxC X (loc++caps) scope C s H fp) ifs mt)(he:∀C s H fp,PEi ce (cxC X (loc++caps) scope C s H fp) elt me)
  (ok:QP N0 loc caps js sc₀ scope=Zh)(hN0:X.N=N0:=by rfl)(hsc:X.env.scope=sc₀:=by rfl)(hs:∀x,ZbZ iter X.env x=pure x)
  (hN:X.N.Nodup)(hix:X.N[i]?=Za x)(hlx:Loc X.env.scope x)(hf:X.fn x=Zh∨X.env.scope.names.lookup x=Za .local)
  (hsw:Zdq (.ListComp elt [⟨tg,iter,ifs,0⟩] scope pos) (Za<|.Name x pos2) pos3.line X.env=pure Zh):
  PS1 ce X (.Assign [.Name x pos2] (.ListComp elt [⟨tg,iter,ifs,0⟩] scope pos) pos3) (Jj i<|Jz mi loc.length js g mt me):=by
 intro pj s σ H ι σi h Q E N K
 rw[exec_Assign_Name_used _ _ _ _ hsw]
 refine Zd<|Zbj<|Zd ?_
 rw[arm_evalThenUse_ListComp]
 refine Zd ?_
 refine Jln (use:=Za<|ZdZ (.Name x pos2) X.env) hi.c hg ht he ok hN0 hsc hs (λ_ _ _ _ _ _=>⟨rfl,rfl,rfl,hc⟩) N ?_
 unfold Jj at K
 cases e0:Jz mi loc.length js g mt me σi h with
 |exc n h'=>rw[e0]at K;exact λpl a s' H' ι' N' n' q=>K pl a s' σ H' ι' N' n' q s'<|.inl rfl
 |stuck=>rw[e0]at K;exact K
 |ok v h'=>
  rw[e0]at K
  intro D C m s' H' ι' N' n' r hns fC
  obtain⟨w,rw',q⟩:=r
  obtain⟨oC,es,ep,hoC,hdC,hrest⟩:=id hns
  have hp:Inv X (pj++Vj [C] s'.heap) σ H' s':=N'.inv.pinned (λb hb=>(show b=C by simpa using hb)▸fC) (λb hb=>by
   have e:b=C:=by simpa using hb
   subst e
   exact⟨oC,hoC,λv z=>by rw[hdC]at z;cases z⟩)
  refine wpAny_assign_Name<|Jg0 hp hN hix hlx rw' (λs2 I2=>?_) hf
  have hC2:=(I2.pin (C,oC)<|Zl _<|Zl _<|Y9 03 hoC).1
  refine⟨m,⟨oC,es,ep,hC2,hdC,hrest⟩,λh2 sb=>Zv ?_⟩
  have N2:Now ce X pj ι' (σi.set i<|Za v) h' (σ.set i<|Za w) H' s2:=⟨I2.unpinned,N'.rel,N'.st.set i q⟩
  exact Zv<|K _ _ H' ι' (N2.letgo fC sb) n'
noncomputable def V2 (x:Str):Tq:=x.cps.toList.map λc=>.str ⟨#[c]⟩
def Its(x:Str):It:=⟨λi _=>i<x.cps.size,λi H y H'=>H'=H/\∃c,x.cps[i]?=Za c/\y=.str ⟨#[c]⟩,λi _=>x.cps.size<=i⟩
theorem Jpe{P:ZB}{w:ZV}{K:W.Frag}{tg:Expr}{x:Str}{t:Tok}(it:Zq)(hty:["enumerate","zip","dict_itemiterator","dict_reverseitemiterator","odict_iterator","itertools.zip_longest","itertools.pairwise"].contains ty=Zk)
  (W:∀A:ZN,A.handled=Zc->Walks P w A it [it] [it] x.cps.size (SignAt x) (λi h=>h.IsStrIter it ty x t i))
  (We:∀(A:ZN)(E:QvT)(s:Zn)(i:Nat)(Q:Wx->Zn->Prop),A.handled=Zc->s.heap.IsStrIter it ty x t i->x.cps[i]?=Zc->(∀h',Heap.ExtBut it s.heap h'->Q Zc {s with heap:=h'})->Z0 (Z9 P w) A (Zc3<|.ref it) Q E s)
  (Ws:∀(A:ZN)(E:QvT)(s:Zn)(i:Nat)(Q:QvT),s.heap.IsStrIter it ty x t i->Q (.ref it) s->Z0 (Z9 P w) A (ZdV<|.ref it) Q E s):Turn P w K tg (Its x) [it] it (λi h=>h.IsStrIter it ty x t i) where
 mem:=03
 obj:=λi h st b hb=>by
  have e:b=it:=by simpa using hb
  subst e
  obtain⟨o,e,c,d⟩:=st
  exact⟨o,e,λv z=>by rw[d]at z;cases z⟩
 keep:=λi h h' st k=>by
  obtain⟨o,e,r⟩:=st
  exact⟨o,k it 03 o e,r⟩
 item:=by
  intro X hP hw hK hc i pj s σ H E I hf st hg
  subst hP hw hK
  obtain⟨f0,f1,f2,f3,f4,f5⟩:=hf it 03
  refine(W X.A<|I.ok.hd hc).item i s _ _ hg st λv h' tk hv st' kk=>?_
  obtain⟨c,u,hcc,rfl⟩:=hv
  have I1:Inv X pj σ H {s with heap:=h',toks:=tk}:=I.turned (λb o hb e=>kk b o (by simpa using hb) e) f0 f1 f3 f4 f5
  obtain⟨o,e,c1,d1⟩:=id st'
  exact⟨_,rfl,Ju7 (s:={s with heap:=h',toks:=tk}) e c1 d1 hty ⟨.str ⟨#[c]⟩,H,I1,⟨u,rfl⟩,⟨rfl,c,hcc,rfl⟩,st',λb hb=>(hf b hb).1⟩⟩
 done:=by
  intro X hP hw hK hc i pj s σ H E I hf st hg
  subst hP hw hK
  obtain⟨f0,f1,f2,f3,f4,f5⟩:=hf it 03
  have hi:x.cps.size<=i:=hg
  have hx:x.cps[i]?=Zc:=by simp[hi]
  exact We X.A _ s i _ (I.ok.hd hc) st hx λh' eb=>⟨rfl,I.turned (t':=s.toks) (λb o hb e=>eb b o hb e) f0 f1 f3 f4 f5⟩
 self:=λA i s Q E st h=>Ws A E s i Q st h
def Jvo:IV->IH->Res ItI
 |.str x,h=>.ok ⟨V2 x,λ_=>True⟩ h
 |_,_=>.stuck
def iStr(e:E1):I1:=λσ h=>(e σ h).bind Jvo
theorem Jxo{x:Str}{ι:Tp}{H₀:Hp}:ItOk ce X.K ι H₀ (Its x) ⟨V2 x,λ_=>True⟩:=by
 refine⟨λk v h H ι' hp R hck hx=>?_,λk h H ι' hp R hck hx=>?_⟩
 ·have hk:k<x.cps.size:=by
   have:=(Zr.mp hx).1
   simpa[V2]using this
  refine⟨hk,λy H' hy=>?_⟩
  obtain⟨rfl,c,hc,rfl⟩:=hy
  simp only[V2,Z4,Zel,hc]at hx
  cases hx
  exact⟨R,.refl,rfl⟩
 ·have:(V2 x).length=x.cps.size:=by simp[V2]
  show x.cps.size<=k
  rw[<-this]
  exact hx
theorem Jqe{tg l:Expr}{ml:E1}(hl:PEi ce X l ml):PIi ce X tg l (iStr ml):=by
 intro pj s σ H ι σi h Q E N K
 refine hl pj s σ H ι σi h _ E N ?_
 unfold iStr at K
 cases e0:ml σi h with
 |exc n h'=>rw[e0]at K;exact K
 |stuck=>rw[e0]at K;exact K
 |ok v h'=>
  rw[e0]at K
  intro u s1 H1 ι1 N1 n1 r1
  obtain⟨w,rw',q⟩:=r1
  have fresh:∀b∈[s1.heap.objs.size],FpOk X pj H1 b:=λb hb=>by
   have e:b=s1.heap.objs.size:=by simpa using hb
   subst e
   exact N1.inv.fpOk (Zm _)<|N1.inv.hok.fresh<|Zm _
  cases v with
  |str x=>
   have e1:w=.str x:=q
   subst e1
   obtain⟨t,rfl⟩:=rw'
   simp only[Res.bind,Jvo]at K
   cases ha:x.cps.all (· < 128)with
   |true=>
    refine wpAny_pyIter_ascii ha<|K _ _ H1 ι1 ⟨N1.inv.kept (t':=s1.toks) λb o e=>Zj _ e,N1.rel,N1.st⟩ n1 ?_
    exact⟨s1.heap.objs.size,[s1.heap.objs.size],_,Its x,rfl,Jpe (ty:="str_ascii_iterator") (t:=t) _ 01 (λA hA=>Walks.strAscii hA _ x t) (λA E s i Q hA st hx hQ=>wpAny_pyNext_ascii_end hA st hx hQ) λA E s i Q st hq=>wpAny_pyIter_striter_ascii st hq,⟨_,Z2 _ rfl,rfl,rfl⟩,fresh,Jxo⟩
   |false=>
    refine wpAny_pyIter_wide ha<|K _ _ H1 ι1 ⟨N1.inv.kept (t':=s1.toks) λb o e=>Zj _ e,N1.rel,N1.st⟩ n1 ?_
    exact⟨s1.heap.objs.size,[s1.heap.objs.size],_,Its x,rfl,Jpe (ty:="str_iterator") (t:=t) _ 01 (λA hA=>Walks.strWide hA _ x t) (λA E s i Q hA st hx hQ=>wpAny_pyNext_wide_end hA st hx hQ) λA E s i Q st hq=>wpAny_pyIter_striter_wide st hq,⟨_,Z2 _ rfl,rfl,rfl⟩,fresh,Jxo⟩
  |_=>simp only[Res.bind,Jvo]at K
def Ite(K:W.Frag)(a:Zq):It:=
 ⟨λi H=>∃xs x,SqL K H a xs/\xs[i]?=Za x,λi H y H'=>∃p x,H p=Zc/\y=.ref p/\H'=upd H p (.tup [.int (i:Int),x])/\∀xs,SqL K H a xs->xs[i]?=Za x,λi H=>∃xs,SqL K H a xs/\xs.length<=i⟩
theorem Jtw{P:ZB}{w:ZV}{K:W.Frag}{es:Ta}{k:Nat}{p:Pos}(a it e:Zq)(hne:e≠it):Turn P w K (.Tuple es k p) (Ite K a) [e,it] e (λi h=>(∃old,IsEnum h e it (i:Int) old)/\h.IsListIter it a i) where
 mem:=03
 obj:=λi h st b hb=>by
  obtain⟨⟨old,he⟩,o,e1,c,d⟩:=st
  simp only[Z6,ZF,or_false]at hb
  rcases hb with rfl|rfl
  ·exact⟨_,he,λv z=>by
    have z':Data.fields _=ZeP v:=z
    cases z'⟩
  ·exact⟨o,e1,λv z=>by rw[d]at z;cases z⟩
 keep:=λi h h' st k=>⟨let ⟨old,he⟩:=st.1;⟨old,k e 03 _ he⟩,st.2.at λo e=>k it 03 o e⟩
 item:=by
  intro X hP hw hK hc i pj s σ H E I hf st hg
  subst hP hw hK
  obtain⟨⟨old,he⟩,hit⟩:=st
  obtain⟨xs,x,hq,hx⟩:=hg
  obtain⟨its,rv,pl,hz⟩:=I.list hq
  obtain⟨u,hu,ru⟩:=rv.get hx
  have fe:=hf e 03
  have fi:=hf it 03
  have hn:H s.heap.objs.size=Zc:=I.hok.fresh<|Zm _
  refine wpAny_pyNext_enum_item he hit pl.isList (x:=u) (by simpa using hu) hne λh' he' hit' ht hsz kk=>?_
  refine⟨_,rfl,wpAny_letOwnedTupleGo_enum he' λh2 he2 sb=>?_⟩
  have ltE:e<s.heap.objs.size:=Z3 he
  have neT:s.heap.objs.size≠e:=Zby ltE
  have k2:∀b o,b≠e->b≠it->s.heap.get? b=Za o->h2.get? b=Za o:=λb o h1 h3 q=>(sb.2 b h1).trans<|kk b o h1 h3 q
  have hl2:h2.IsListIter it a (i+1):=by
   obtain⟨o,q,r⟩:=hit'
   exact⟨o,(sb.2 it<|Zab hne).trans q,r⟩
  have t2:h2.get? s.heap.objs.size=Za {cls:=.type "tuple",data:=.seq #[.int i s.toks,u]}:=(sb.2 _ neT).trans ht
  -- the two records turn,then the tuple is tracked
  obtain⟨oe,hoe⟩:∃o,s.heap.get? e=Za o:=⟨_,he⟩
  obtain⟨oi,hoi,_⟩:=id hit
  have neP:∀b u,H b=Za u->b≠s.heap.objs.size:=λb u q=>V0 q hn
  have I1:Inv X pj σ (upd H s.heap.objs.size<|.tup [.int (i:Int),x]) {s with heap:=h2,toks:=s.toks+1}:=by
   refine I.step (g':=s.gens) (d':=s.drawn) (ch:=[e,it]) (λb hb=>?_) (λb o _ _ hc q _=>k2 b o (λz=>hc<|by simp[z]) (λz=>hc<|by simp[z]) q) (λb o _ _ hc q _=>⟨o.slots,k2 b o (λz=>hc<|by simp[z]) (λz=>hc<|by simp[z]) q⟩) (λb o _ q n=>?_)
    (λb o hc q=>⟨o,k2 b o (λz=>hc<|by simp[z]) (λz=>hc<|by simp[z]) q⟩) (λb xs q=>by rw[Jx<|neP b _ q];exact q) (λb o u q=>by rw[Jx<|neP b _ q];exact q) (λb ps q=>⟨#[],by rw[Jx<|neP b _ q,q];simp⟩) (λm hm=>?_) (λb u q=>?_) I.bare
   ·simp only[Z6,ZF,or_false]at hb
    rcases hb with rfl|rfl
    ·exact⟨fe.2.2.2.1,fe.2.1,fe.2.2.2.2.1,fe.2.2.2.2.2⟩
    ·exact⟨fi.2.2.2.1,fi.2.1,fi.2.2.2.2.1,fi.2.2.2.2.2⟩
   ·rw[Jx<|Z7<|Z3 q];exact n
   ·obtain⟨o,es,ep,ho,r⟩:=hm
    exact⟨o,es,ep,k2 _ o (Zab fe.2.1) (Zab fi.2.1) ho,r⟩
   ·by_cases hb:b=s.heap.objs.size
    ·subst hb
     rw[JH]at q
     cases q
     exact⟨by show 2<=sizeLine;decide,[.int i s.toks,u],.cons ⟨_,rfl⟩<|.cons ru .nil,⟨_,t2,rfl,_,rfl⟩⟩
    ·rw[Jx hb]at q
     have n1:b≠e:=λz=>by rw[z,fe.1]at q;cases q
     have n2:b≠it:=λz=>by rw[z,fi.1]at q;cases q
     refine(I.hok b u q).stay (λc v hc r=>k2 c v ?_ ?_ r) (λc q=>by rw[Jx<|neP c _ q];exact q) λc ys q=>by rw[Jx<|neP c _ q];exact q
     ·rcases hc with z|z
      ·rw[z];exact n1
      ·intro y;rw[y,fe.1]at z;cases z
     ·rcases hc with z|z
      ·rw[z];exact n2
      ·intro y;rw[y,fi.1]at z;cases z
  refine⟨.ref s.heap.objs.size,_,I1,rfl,⟨s.heap.objs.size,x,hn,rfl,rfl,λys hy=>by rw[I.list_inj hy hq];exact hx⟩,⟨⟨_,he2⟩,hl2⟩,λb hb=>?_⟩
  simp only[Z6,ZF,or_false]at hb
  rcases hb with rfl|rfl
  ·rw[Jx<|Z7 ltE];exact fe.1
  ·rw[Jx<|Z7<|Z3 hoi];exact fi.1
 done:=by
  intro X hP hw hK hc i pj s σ H E I hf st hg
  subst hP hw hK
  obtain⟨⟨old,he⟩,hit⟩:=st
  obtain⟨xs,hq,hx⟩:=hg
  obtain⟨its,rv,p,hz⟩:=I.list hq
  obtain⟨f0,f1,f2,f3,f4,f5⟩:=hf it 03
  have hl:=rv.length
  exact wpAny_pyNext_enum_end (I.ok.hd hc) he hit p.isList (by simp;omega) λh' eb=>⟨rfl,I.turned (t':=s.toks) (λb o hb e=>eb b o hb e) f0 f1 f3 f4 f5⟩
 self:=λ_ _ _ _ _ st h=>let ⟨_,he⟩:=st.1;wpAny_pyIter_enum he h
noncomputable def QG (n:Nat):Tq->Tq
 |[]=>[]
 |x::xs=>.tup [.int n,x]::QG (n+1) xs
theorem Jhq:∀(xs:Tq)(n k:Nat),(QG n xs)[k]?=(xs[k]?).map λx=>.tup [.int ((n+k:Nat):Int),x]
 |[],_,_=>by simp[QG]
 |x::xs,n,0=>by simp[QG]
 |x::xs,n,k+1=>by
  simp only[QG,Za8]
  rw[Jhq xs (n+1) k]
  have:n+1+k=n+(k+1):=00
  rw[this]
theorem XB:∀(xs:Tq)(n:Nat),(QG n xs).length=xs.length
 |[],_=>rfl
 |_::xs,n=>by simp[QG,XB xs]
def Ve:Tq->IH->Res ItI
 |[.ref i],h=>match h[i]? with
  |some (.lst xs)=>.ok ⟨QG 0 xs,λh'=>h'[i]?=Za (.lst xs)⟩ h
  |_=>.stuck
 |_,_=>.stuck
theorem J2s{i:Nat}{ι:Tp}(ha:ι[i]?=Za a):ItOk ce X.K ι H₀ (Ite X.K a) ⟨QG 0 xs,λh'=>h'[i]?=Za (.lst xs)⟩:=by
 refine⟨λk v h H ι' hp R hck hx=>?_,λk h H ι' hp R hck hx=>?_⟩
 ·obtain⟨vs,e1,r1⟩:=R.get hck<|hp.at ha
  have hx':(QG 0 xs)[k]?=Za v:=hx
  rw[Jhq]at hx'
  obtain⟨x,hxk,rfl⟩:=ZD.mp hx'
  obtain⟨u,hu,qu⟩:=r1.get hxk
  refine⟨⟨vs,u,SqL.of e1,hu⟩,λy H' hy=>?_⟩
  obtain⟨p,x',hp0,rfl,rfl,hy⟩:=hy
  have:=hy vs<|SqL.of e1
  rw[hu]at this
  cases this
  obtain⟨R',n'⟩:=R.grow (o:=.tup [.int (k:Int),u]) hp0
  refine⟨R',n',p,_,rfl,SqT.of JH,⟨_,_,rfl,?_,_,_,rfl,RV.mono n' _ _ qu,rfl⟩⟩
  show V.int (k:Int)=V.int ((0+k:Nat):Int)
  simp
 ·obtain⟨vs,e1,r1⟩:=R.get hck<|hp.at ha
  exact⟨vs,SqL.of e1,by rw[r1.length,<-XB xs 0];exact hx⟩
theorem J2j{es:Ta}{kt:Nat}{pt:Pos}{a:Expr}{ma:A1}{p pos:Pos}(hg:Gl X "enumerate")(hm:X.mg "enumerate"=Zc)(ha:PAi ce X [a] ma)(hs:ZC [a] X.env=[(Zk,ZaY a X.env)]:=by rfl):PIi ce X (.Tuple es kt pt) (.Call (.Name "enumerate" p) [a] [] pos) (iRg Ve ma):=by
 intro pj s σ H ι σi h Q E N K
 refine Call_<|Q8 N.inv hg hm boot_enumerate<|Za7 ?_ hs rfl
 refine ha pos pj s σ H ι σi h _ E N ?_
 unfold iRg at K
 cases e0:ma σi h with
 |exc n h'=>rw[e0]at K;exact K
 |stuck=>rw[e0]at K;exact K
 |ok vs h'=>
  rw[e0]at K
  intro us s1 H1 ι1 N1 n1 r1
  obtain⟨xs,rv,qs⟩:=r1
  cases vs with
  |nil=>exact Zf K
  |cons x t=>
   cases x with
   |ref i=>
    cases t with
    |cons _ _=>exact Zf K
    |nil=>
     obtain⟨w,e1,q⟩:=qs.one_of
     subst e1
     obtain⟨b,e3,hb⟩:=q
     subst e3
     obtain⟨u,rfl,ru⟩:=Qn rv
     cases ru
     cases hi:h'[i]? with
     |none=>simp only[Res.bind,Ve,hi]at K
     |some ob=>
      cases ob with
      |lst ys=>
       simp only[Res.bind,Ve,hi]at K
       obtain⟨ws,eH,rH⟩:=N1.at hi hb
       obtain⟨z,its,n,r,hl,eo⟩:=N1.inv.lstM eH
       refine call_enumerate_1 eo λh2 he hit hsz kp=>?_
       refine wpAny_pyIter_enum he<|K _ _ H1 ι1 ⟨N1.inv.kept (t':=s1.toks) kp,N1.rel,N1.st⟩ n1 ?_
       refine⟨s1.heap.objs.size+1,[s1.heap.objs.size+1,s1.heap.objs.size],_,Ite X.K b,rfl,Jtw b s1.heap.objs.size (s1.heap.objs.size+1)<|Zby<|Zaz _,⟨⟨_,he⟩,hit⟩,λc hc=>?_,J2s hb⟩
       simp only[Z6,ZF,or_false]at hc
       rcases hc with rfl|rfl
       ·exact N1.inv.fpOk (ZaU _)<|N1.inv.hok.fresh<|ZaU _
       ·exact N1.inv.fpOk (Zm _)<|N1.inv.hok.fresh<|Zm _
      |_=>simp only[Res.bind,Ve,hi]at K
   |_=>exact Zf K
end
noncomputable def XG:IV->IH->Res ItI
 |.str x,h=>Jvo (.str x) h
 |v,h=>itOf v h
def Ju(e:E1):I1:=λσ h=>(e σ h).bind XG
theorem Jvc{ce:CeT}{X:Cx}{tg l:Expr}{ml:E1}(hl:PEi ce X l ml):PIi ce X tg l (Ju ml):=by
 intro pj s σ H ι σi h Q E N K
 cases e0:ml σi h with
 |ok v h'=>
  cases v with
  |str x=>exact Jqe (tg:=tg) hl pj s σ H ι σi h Q E N<|by unfold iStr;unfold Ju at K;rw[e0]at K ⊢;exact K
  |_=>exact Jsd (tg:=tg) hl pj s σ H ι σi h Q E N<|by unfold iVal;unfold Ju at K;rw[e0]at K ⊢;exact K
 |exc n h'=>exact Jsd (tg:=tg) hl pj s σ H ι σi h Q E N<|by unfold iVal;unfold Ju at K;rw[e0]at K ⊢;exact K
 |stuck=>exact Jsd (tg:=tg) hl pj s σ H ι σi h Q E N<|by unfold iVal;unfold Ju at K;rw[e0]at K ⊢;exact K
section
variable{ce:CeT}{X:Cx}
theorem J04{prog:ZB}{w:ZV}{A:ZN}{E:QvT}{s:Zn}{lo hi:Wv}{Q:QvT}(ht:IsTup s.heap t items)(hs:s.heap.IsSliceOf sl vl vu .none)(pl:Zdv vl lo)(pu:Zdv vu hi)
  (hw:HT.sIx items.size 0 lo=0/\HT.sIx items.size items.size hi=items.size->Q (.ref t) s)
  (h:¬(HT.sIx items.size 0 lo=0/\HT.sIx items.size items.size hi=items.size)->Q (.ref s.heap.objs.size) {s with heap:=s.heap.push {cls:=.type "tuple",data:=.seq ((items.toList.drop<|HT.sIx items.size 0 lo).take<|HT.sIx items.size items.size hi-HT.sIx items.size 0 lo).toArray} })
  (hsz:items.size<=sizeLine):Z0 (Z9 prog w) A (Zdp (.ref t)<|.ref sl) Q E s:=by
 have zk:sizeOk (.seq ((items.toList.drop<|HT.sIx items.size 0 lo).take<|HT.sIx items.size items.size hi-HT.sIx items.size 0 lo).toArray):=by
  show(ZaG _).size<=sizeLine
  rw[Zt,Zaa,ZaF,ZaK]
  omega
 have hj:HT.sIx items.size items.size hi<=items.size:=HT.sIx_le _ _ (Zm _) hi
 obtain⟨os,hos,hcs,hds⟩:=id hs
 have hT:s.TypeIs (.ref sl) "slice":=⟨os,hos,hcs⟩
 unfold Zdp
 try with_reducible refine Zaj ?_
 first|refine Zd (Zv ?_)|skip
 refine Zd<|wpAny_sequenceKey ht.typeIs 01 ?_
 refine Zd (wpAny_callSpecial?_slot (name:=ZS "__getitem__") ht.typeIs ZcI
  (wpAny_call_entry ZcI ht.typeIs entry_tuple_getitem ?_<|args_tuple_getitem _ _))
 show Z0 _ _ (Builtin.Tuple.tupleItemsOf (.ref t)>>=_) _ _ s
 refine Zd<|tupleItemsOf_ ht ?_
 refine Zd<|wpAny_typeOf hT ?_
 rw[if_pos 01]
 refine Zd<|HT.sliceApplied_gen hs pl pu ?_
 have eb:((((HT.sIx items.size 0 lo:Nat):Int)==0&&(1:Int)==1&&(HT.sIx items.size items.size hi-HT.sIx items.size 0 lo)==items.size)=Zh)↔(HT.sIx items.size 0 lo=0/\HT.sIx items.size items.size hi=items.size):=by
  rw[Zo,Zo,beq_iff_eq,beq_iff_eq,beq_iff_eq]
  omega
 show Z0 _ _ (if (((HT.sIx items.size 0 lo:Nat):Int)==0&&(1:Int)==1&&(HT.sIx items.size items.size hi-HT.sIx items.size 0 lo)==items.size)=Zh then _ else _) _ _ s
 by_cases c:HT.sIx items.size 0 lo=0/\HT.sIx items.size items.size hi=items.size
 ·rw[if_pos<|eb.mpr c]
  refine Zd<|Zd<|wpAny_typeOf ht.typeIs<|Zv ?_
  rw[if_pos 01]
  exact Zd<|Zdy<|Zv ⟨_,rfl,Zv<|hw c⟩
 ·rw[if_neg λz=>c<|eb.mp z,HT.pick_gen]
  have h:=h c
  first
   |exact Zd (m:=ZbG _) (Zbq (Zv ⟨_,rfl,Zv h⟩) zk)
   |exact Zd (m:=ZbG _) (Zbq (Zd (Zv (Zv ⟨_,rfl,Zv h⟩))) zk)
   |exact Zd (Zd (m:=ZbG _) (Zbq (Zv (Zv ⟨_,rfl,Zv h⟩)) zk))
   |exact Zd (Zd (m:=ZbG _) (Zbq (Zv ⟨_,rfl,Zv h⟩) zk))
theorem x_sl:SlI ce X slI:=by
 intro pj s σ H ι σi h x v vl vu lo hi sl Q E N rx hs pl pu K
 obtain⟨xv,rx,qx⟩:=rx
 cases x with
 |ref i=>
  obtain⟨a,e1,ha⟩:=qx
  subst e1
  dsimp only[slI]at K
  cases hi':h[i]? with
  |none=>rw[hi']at K;exact Zf K
  |some ob=>
   rw[hi']at K
   cases ob with
   |lst xs=>
    obtain⟨vs,e1,r1⟩:=N.at hi' ha
    exact Jyc (Jtl (X:=X.wish E)) N.inv rx hs pl pu ⟨a,vs,rfl,SqL.of e1,λp hp=>finA N K p hp ⟨_,JH,RVs.new hp<|r1.cut lo hi⟩⟩
   |_=>exact Zf K
 |rol xs=>
  obtain⟨a,vs,e1,sa,ra⟩:=qx
  subst e1
  exact Jyc (Jtl (X:=X.wish E)) N.inv rx hs pl pu ⟨a,vs,rfl,sa.sq,λp hp=>finA N K p hp ⟨_,JH,RVs.new hp<|ra.cut lo hi⟩⟩
 |tup xs=>
  obtain⟨a,vs,e1,sa,ra⟩:=qx
  subst e1
  cases rx
  obtain⟨its,r,ht,hz⟩:=N.inv.tuple sa
  have hl:its.toArray.size=vs.length:=by rw[Zt];exact r.length.symm
  have K:Kont ce X RU pj ι σi σ H (.ok (.tup<|cutI xs lo hi) h) Q E:=K
  refine⟨"tuple",_,PyProof.Rows.slot_tuple_getitem.lookup,ht.typeIs,J04 ht hs pl pu (λhw=>?_) (λ_=>?_)<|by rw[hl];exact hz⟩
  ·rw[hl,ra.length]at hw
   have e:cutI xs lo hi=xs:=by
    unfold cutI
    rw[hw.1,hw.2]
    exact Za1<|Zm _
   rw[e]at K
   exact fin0 N K ⟨a,vs,rfl,sa,ra⟩ _ _ N.inv rfl
  ·rw[hl]
   refine finT N K _ (N.inv.hok.fresh<|Zm _) (ra.cut lo hi) _ _ (N.inv.laid (t':=s.toks) (o:=.tup<|cutV vs lo hi) (λb ob q=>Zj _ q) (Zm _) ?_) rfl
   exact⟨ZW (Jhl vs lo hi) hz,_,(r.drop<|HT.sIx vs.length 0 lo).take<|HT.sIx vs.length vs.length hi-HT.sIx vs.length 0 lo,IsTup.new _ _⟩
 |_=>exact Zf K
noncomputable def Vf:IV->IH->Res IV
 |.ref i,h=>match h[i]? with
  |some (.lst xs)=>.ok (.ref h.length)<|h++[.lst xs]
  |_=>.stuck
 |.rol xs,h=>.ok (.ref h.length)<|h++[.lst xs]
 |.tup xs,h=>.ok (.ref h.length)<|h++[.lst xs]
 |_,_=>.stuck
theorem J1y:Qh ce X (.type "list") (on1 Vf):=Vw λpj s σ H ι σi h x xv u Q E N ru qx K=>by
 cases x with
 |ref i=>
  obtain⟨a,e1,ha⟩:=qx
  subst e1
  dsimp only[Vf]at K
  cases hi:h[i]? with
  |none=>rw[hi]at K;exact Zf K
  |some ob=>
   rw[hi]at K
   cases ob with
   |lst xs=>
    obtain⟨vs,e1,r1⟩:=N.at hi ha
    exact QA (Jc7 (X:=X.wish E)) N.inv (.cons ru .nil) ⟨a,vs,rfl,.inl<|SqL.of e1,λp hp=>finA N K p hp ⟨_,JH,RVs.new hp r1⟩⟩
   |_=>exact Zf K
 |rol xs=>
  obtain⟨a,vs,e1,sa,ra⟩:=qx
  subst e1
  exact QA (Jc7 (X:=X.wish E)) N.inv (.cons ru .nil) ⟨a,vs,rfl,.inl sa.sq,λp hp=>finA N K p hp ⟨_,JH,RVs.new hp ra⟩⟩
 |tup xs=>
  obtain⟨a,vs,e1,sa,ra⟩:=qx
  subst e1
  exact QA (Jc7 (X:=X.wish E)) N.inv (.cons ru .nil) ⟨a,vs,rfl,.inr sa,λp hp=>finA N K p hp ⟨_,JH,RVs.new hp ra⟩⟩
 |_=>exact Zf K
noncomputable def Xs:IV->IH->Res IV
 |.ref i,h=>match h[i]? with
  |some (.lst xs)=>.ok (.tup xs) h
  |_=>.stuck
 |.tup xs,h=>.ok (.tup xs) h
 |_,_=>.stuck
theorem Jyv:Qh ce X (.type "tuple") (on1 Xs):=Vw λpj s σ H ι σi h x xv u Q E N ru qx K=>by
 cases x with
 |ref i=>
  obtain⟨a,e1,ha⟩:=qx
  subst e1
  dsimp only[Xs]at K
  cases hi:h[i]? with
  |none=>rw[hi]at K;exact Zf K
  |some ob=>
   rw[hi]at K
   cases ob with
   |lst xs=>
    obtain⟨vs,e1,r1⟩:=N.at hi ha
    exact QA (Je9 (X:=X.wish E)) N.inv (.cons ru .nil) ⟨a,vs,rfl,.inl ⟨SqL.of e1,λp hp=>finT N K p hp r1⟩⟩
   |_=>exact Zf K
 |tup xs=>
  have qx':=qx
  obtain⟨a,vs,e1,sa,ra⟩:=qx
  subst e1
  exact QA (Je9 (X:=X.wish E)) N.inv (.cons ru .nil) ⟨a,vs,rfl,.inr ⟨sa,fin0 N K qx'⟩⟩
 |_=>exact Zf K
noncomputable def intI:IV->IH->Res IV
 |.int i,h=>.ok (.int i) h
 |.bl b,h=>.ok (.int (if b then 1 else 0)) h
 |_,_=>.stuck
theorem VQ:Qh ce X (.type "int") (on1 intI):=Vw λpj s σ H ι σi h x xv u Q E N ru qx K=>by
 cases x with
 |int i=>
  have e:xv=.int i:=qx
  subst e
  exact QA (Jli (X:=X.wish E)) N.inv (.cons ru .nil)<|.inl ⟨i,rfl,fin0 N K rfl⟩
 |bl b=>
  have e:xv=.bl b:=qx
  subst e
  exact QA (Jli (X:=X.wish E)) N.inv (.cons ru .nil)<|.inr ⟨b,rfl,fin0 N K rfl⟩
 |_=>exact Zf K
noncomputable def strI:IV->IH->Res IV
 |.int i,h=>if i.natAbs.log2<1920 then .ok (.str<|toString i) h else .stuck
 |_,_=>.stuck
theorem J40:Qh ce X (.type "str") (on1 strI):=Vw λpj s σ H ι σi h x xv u Q E N ru qx K=>by
 cases x with
 |int i=>
  have e:xv=.int i:=qx
  subst e
  dsimp only[strI]at K
  split at K
  ·rename_i hz
   exact QA (Jlj (X:=X.wish E)) N.inv (.cons ru .nil) ⟨i,rfl,hz,fin0 N K rfl⟩
  ·exact Zf K
 |_=>exact Zf K
noncomputable def Xh:Tq->Option (List Bool)
 |[]=>Za []
 |.bl b::r=>(Xh r).map (b:: ·)
 |_::_=>Zc
noncomputable def allI:IV->IH->Res IV
 |.ref i,h=>match h[i]? with
  |some (.lst xs)=>(match Xh xs with
   |some bs=>.ok (.bl<|bs.all id) h
   |none=>.stuck)
  |_=>.stuck
 |_,_=>.stuck
theorem Jok{K:W.Frag}{ι:Tp}{H:Hp}:∀{xs:Tq}{bs:List Bool}{vs:Tu}{us:To},Xh xs=Za bs->RVs K ι H xs vs->Vals vs us->us=bs.map ZcL
 |[],bs,vs,us,e,q,r=>by
  cases e
  have e1:vs=[]:=q
  subst e1
  cases r
  rfl
 |x::xs,bs,vs,us,e,q,r=>by
  obtain⟨v,vr,e1,q1,q2⟩:=q
  subst e1
  cases r with
  |cons r1 r2=>
   cases x with
   |bl b=>
    obtain⟨b2,e2,rfl⟩:=ZD.mp (show(Xh xs).map (b:: ·)=Za bs from e)
    cases (show v=.bl b from q1)
    cases r1
    rw[Jok e2 q2 r2]
    rfl
   |_=>cases e
theorem Jq9(bs:List Bool):((ZM bs.length).all λi=>bs.getD i Zh)=bs.all id:=by
 induction bs with
 |nil=>rfl
 |cons b r ih=>
  rw[ZA,List.range_succ_eq_map,Zak,List.all_map,Zak]
  have e:((ZM r.length).all<|(λi=>(b::r).getD i Zh)∘Nat.succ)=(ZM r.length).all λi=>r.getD i Zh:=by
   congr 1
  rw[e,ih]
  rfl
theorem J4w(hh:X.A.handled=Zc):Qh ce X (.builtin "all") (on1 allI):=Vw λpj s σ H ι σi h x xv u Q E N ru qx K=>by
 cases x with
 |ref i=>
  obtain⟨a,e1,ha⟩:=qx
  subst e1
  cases ru
  dsimp only[allI]at K
  cases hi:h[i]? with
  |none=>rw[hi]at K;exact Zf K
  |some ob=>
   rw[hi]at K
   cases ob with
   |lst xs=>
    dsimp only at K
    cases hb:Xh xs with
    |none=>rw[hb]at K;exact Zf K
    |some bs=>
     rw[hb]at K
     obtain⟨vs,e1,r1⟩:=N.at hi ha
     obtain⟨its,rv,pl,hz⟩:=N.inv.list<|SqL.of e1
     have eu:=Jok hb r1 rv
     subst eu
     refine call_all_walk<|Zba pl.isList ?_
     have hlt:a<s.heap.objs.size:=by obtain⟨o,_,ho,_⟩:=pl;exact Z3 ho
     have ne:a≠s.heap.objs.size:=Z7 hlt
     refine⟨s.heap.objs.size,_,_,_,_,_,λi=>bs.getD i Zh,rfl,ZcR (prog:=X.prog) (w:=X.w) (A:=X.A.in1) hh s.heap.objs.size a ne (bs.map ZcL).toArray,⟨⟨_,Z2 _ rfl,rfl,rfl⟩,?_⟩,?_,λh' tk kk=>?_⟩
     ·obtain⟨o,n,ho,hc,_,hd⟩:=pl
      exact⟨o,Zj _ ho,hc,n,hd⟩
     ·intro i v s' Q' E' hP hq
      simp only[Zem,Z4]at hP
      obtain⟨b,hb',rfl⟩:=ZD.mp hP
      refine Zbp ?_
      have:bs.getD i Zh=b:=by simp[List.getD,hb']
      rw[<-this]
      exact hq
     ·rw[show(bs.map ZcL).toArray.size=bs.length by simp,Jq9]
      have I1:Inv X pj σ H {s with heap:=s.heap.push {cls:=.type "list_iterator",data:=.fields #[.ref a,.int 0 0]} }:=N.inv.kept (t':=s.toks) λb o e=>Zj _ e
      have f:=N.inv.fpOk (Zm _)<|N.inv.hok.fresh<|Zm _
      exact fin0 N K rfl _ _ (I1.turned (t':=tk) (it:=s.heap.objs.size) (λb o hb e=>kk b o (by simpa using hb) e) f.1 f.2.1 f.2.2.2.1 f.2.2.2.2.1 f.2.2.2.2.2) rfl
   |_=>exact Zf K
 |_=>exact Zf K
def MtI(ce:CeT)(X:Cx)(T id:String)(g:IV->Tq->IH->Res IV):Prop:=
 ∀(pj:PnT)(s:Zn)(σ:L2.St)(H:Hp)(ι:Tp)(σi:ISt)(h:IH)(x:IV)(xs:Tq)(v:Ze)(us:To)(Q:QvT)(E:QvT),Now ce X pj ι σi h σ H s->RU X.K ι H x v->RUs X.K ι H xs us ->
  Kont ce X RU pj ι σi σ H (g x xs h) Q E->Z0 (Z9 X.prog X.w) X.A (call (.builtin id)<|v::us) Q E s
noncomputable def tyOk (T:String):IV->IH->Bool
 |.str _,_=>T=="str"
 |.int _,_=>T=="int"
 |.ref i,h=>match h[i]? with
  |some (.lst _)=>T=="list"
  |some (.dct _)=>T=="dict"
  |_=>Zk
 |.rol _,_=>T=="list"
 |_,_=>Zk
def eBm(T:String)(g:IV->Tq->IH->Res IV)(o:E1)(a:A1):E1:=λσ h=>(o σ h).bind λx h1=>if tyOk T x h1=Zh then(a σ h1).bind λxs h2=>g x xs h2 else .stuck
theorem Jya(N:Now ce X pj ι σi h σ H s)(q:RV X.K ι H x xv)(e:tyOk T x h=Zh):tyV X.K T xv H:=by
 cases x with
 |str y=>cases (show xv=.str y from q);exact beq_iff_eq.mp e
 |int y=>cases (show xv=.int y from q);exact beq_iff_eq.mp e
 |rol y=>
  obtain⟨a,vs,rfl,sa,_⟩:=q
  exact .inl ⟨beq_iff_eq.mp e,vs,sa.sq⟩
 |ref i=>
  obtain⟨a,rfl,ha⟩:=q
  cases hi:h[i]? with
  |none=>simp[tyOk,hi]at e
  |some ob=>
   cases ob with
   |lst xs=>
    simp only[tyOk,hi]at e
    obtain⟨vs,e1,_⟩:=N.at hi ha
    exact .inl ⟨beq_iff_eq.mp e,vs,SqL.of e1⟩
   |dct kvs=>
    simp only[tyOk,hi]at e
    obtain⟨vs,e1,_⟩:=N.at hi ha
    exact .inr<|.inr<|.inl ⟨beq_iff_eq.mp e,.inl ⟨vs,e1⟩⟩
   |_=>simp[tyOk,hi]at e
 |_=>simp[tyOk]at e
variable{o a:Expr}{es:Ta}{mo:E1}{ma:A1}{name:Str}{apos cpos:Pos}{T id:String}{g:IV->Tq->IH->Res IV}
theorem i_bm(pa:PlainAttrs T)(slot:Slot T name id)(hty:typeOf (.builtin id)=pure (.type "method_descriptor"))(hm:MtI ce X T id g)(ho:PEi ce X o mo)(ha:PAi ce X (a::es) ma)
  (hbase:ZcS o name X.env (ZaY o X.env)=ZaY o X.env:=by rfl)
  (hfew:((Zbm cpos<|ZC (a::es) X.env).all (λx=>!x.1)&&(ZdL cpos<|Zcz [] X.env).all (λx=>x.1.isSome)
   && decide ((a::es).length+([]:Tj).length+(if ([]:Tj).isEmpty then 0 else 1)<30))=Zh:=by rfl)
  (hline:(apos.endLine==cpos.line)=Zh:=by rfl) (hs:ZC (a::es) X.env=(Zk,ZaY a X.env)::ZC es X.env:=by rfl) (hplain:(Zbm cpos<|ZC es X.env).any (·.1)=Zk:=by rfl):
  PEi ce X (.Call (.Attribute o name apos) (a::es) [] cpos) (eBm T g mo ma):=by
 intro pj s σ H ι σi h Q E N K
 refine wpAny_Call_method_late hbase hfew hline rfl (ho.run N K λx h1 v s1 H1 ι1 N1 n1 r1 K1=>?_)
 by_cases hty1:tyOk T x h1=Zh
 ·rw[if_pos hty1]at K1
  obtain⟨xv,rx,qx⟩:=r1
  obtain⟨h1',h2'⟩:=Jyb N1.inv rx<|Jya N1 qx hty1
  refine⟨T,id,pa,slot,hty,h1',h2',?_⟩
  have hA:=(ha cpos).run (Q1:=λus s2=>Z0 (Z9 X.prog X.w) X.A (call (.builtin id)<|v::us) Q E s2) N1 K1 λxs h2 us s2 H2 ι2 N2 n2 r2 K2=>hm pj s2 σ H2 ι2 σi h2 x xs v us Q E N2 ⟨xv,rx,RV.mono n2 _ _ qx⟩ r2 K2
  rw[hs]at hA ⊢
  exact Zea (by show(Zk||(Zbm cpos (ZC es X.env)).any (·.1))=Zk;rw[hplain]<;>rfl)<|Calls.evalArgs_plain hA
 ·rw[if_neg hty1]at K1
  exact Zf K1
theorem J5c(pa:PlainAttrs T)(slot:Slot T name id)(hty:typeOf (.builtin id)=pure (.type "method_descriptor"))(hm:MtI ce X T id g)(ho:PEi ce X o mo)
  (hbase:ZcS o name X.env (ZaY o X.env)=ZaY o X.env:=by rfl)(hline:(apos.endLine==cpos.line)=Zh:=by rfl):PEi ce X (.Call (.Attribute o name apos) [] [] cpos) (eBm T g mo Jd):=by
 intro pj s σ H ι σi h Q E N K
 refine wpAny_Call_method0_late hbase hline<|ho.run N K λx h1 v s1 H1 ι1 N1 n1 r1 K1=>?_
 by_cases hty1:tyOk T x h1=Zh
 ·rw[if_pos hty1]at K1
  obtain⟨xv,rx,qx⟩:=r1
  obtain⟨h1',h2'⟩:=Jyb N1.inv rx<|Jya N1 qx hty1
  exact⟨T,id,pa,slot,hty,h1',h2',Zea rfl (PySem.evalArgs_none<|hm pj s1 σ H1 ι1 σi h1 x [] v [] Q E N1 ⟨xv,rx,qx⟩ .nil K1)⟩
 ·rw[if_neg hty1]at K1
  exact Zf K1
theorem Jpg{pj:PnT}{s:Zn}{σ:L2.St}{H:Hp}{Q E:QvT}{r:V->Tu->Hp->VK->Prop}{x:V}{xs:Tu}{v:Ze}{us:To}(p:MtM (X.wish E) id r)(I:Inv X pj σ H s)(rx:RelV x v)(rs:Vals xs us)
  (k:r x xs H λz H'=>∀u s',Inv X pj σ H' s'->RelV z u->Q u s'):Z0 (Z9 X.prog X.w) X.A (call (.builtin id)<|v::us) Q E s:=
 Zal (p pj s σ H x xs v us _ (I.wish E) rx rs k) (λu s' ⟨_,_,I',r,q⟩=>q u s' I'.unwish r) λ_ _ z=>z
theorem finW{b:Zq}{vs ws:Tu}{w:V}(N:Now ce X pj ι σi h σ H s)(K:Kont ce X RU pj ι σi σ H (.ok v<|h.set i<|.lst ys) Q E)
  (hb:ι[i]?=Za b)(eH:H b=Za (.lst vs))(r:RVs X.K ι H ys ws)(q:RV X.K ι H v w):∀u s',Inv X pj σ (upd H b<|.lst ws) s'->RelV w u->Q u s':=λu s' I ru=>by
 have n:Nxt ι H ι (upd H b<|.lst ws):=⟨⟨[],03⟩,Ext.upd_mut eH<|by rw[eH];exact Zar⟩
 obtain⟨R,_⟩:=N.rel.write (o:=.lst ws) (io:=.lst ys) hb eH (by rw[eH];exact Zar) ⟨_,JH,RVs.mono n _ _ r⟩
 exact K u s' _ ι ⟨I,R,N.st.mono n⟩ n ⟨w,ru,RV.mono n _ _ q⟩
noncomputable def Xg:IV->Tq->IH->Res IV
 |.ref i,[y],h=>match h[i]? with
  |some (.lst xs)=>if xs.length<sizeLine then .ok .non (h.set i<|.lst<|xs++[y])else .stuck
  |_=>.stuck
 |_,_,_=>.stuck
theorem Jvv:MtI ce X "list" "list.append" Xg:=by
 intro pj s σ H ι σi h x xs v us Q E N rx rs K
 obtain⟨xv,rx,qx⟩:=rx
 obtain⟨vs,rv,qs⟩:=rs
 cases x with
 |ref i=>
  match xs,K with
  |[y],K=>
   obtain⟨a,rfl,ha⟩:=qx
   obtain⟨w,rfl,qw⟩:=qs.one_of
   dsimp only[Xg]at K
   cases hi:h[i]? with
   |none=>rw[hi]at K;exact Zf K
   |some ob=>
    rw[hi]at K
    cases ob with
    |lst zs=>
     dsimp only at K
     split at K
     ·rename_i hz
      obtain⟨ws,e1,r1⟩:=N.at hi ha
      exact Jpg (Jmd (X:=X.wish E)) N.inv rx rv ⟨a,ws,w,rfl,rfl,e1,by rw[r1.length];exact hz,finW N K ha e1 (r1.append<|RVs.one qw) rfl⟩
     ·exact Zf K
    |_=>exact Zf K
  |[],K=>exact Zf K
  |_::_::_,K=>exact Zf K
 |_=>cases xs<;>exact Zf K
def setI:IV->IV->IV->ISt->IH->SRes
 |.ref i,.int k,v,σ,h=>match h[i]? with
  |some (.lst xs)=>(match ixN xs.length k with
   |some j=>.next σ<|h.set i<|.lst<|xs.set j v
   |none=>.stuck)
  |_=>.stuck
 |_,_,_,_,_=>.stuck
end
section
variable{ce:CeT}{X:Cx}
noncomputable def keyI:IV->Option Key
 |.int i=>Za<|.inl i
 |.str x=>Za<|.inr x
 |_=>Zc
theorem Jgw{K:W.Frag}{ι:Tp}{H:Hp}{x:IV}{v:V}{k:Key}(e:keyI x=Za k)(r:RV K ι H x v):v=kV k:=by
 cases x with
 |int i=>cases e;exact r
 |str y=>cases e;exact r
 |_=>cases e
def maxI:IV->IV->IH->Res IV
 |.int i,.int j,h=>.ok (.int (if j>i then j else i)) h
 |_,_,_=>.stuck
def minI:IV->IV->IH->Res IV
 |.int i,.int j,h=>.ok (.int (if j<i then j else i)) h
 |_,_,_=>.stuck
theorem J4y(hc:X.calm=Zh):Qh ce X (.builtin "max") (on2 maxI):=by
 intro pj s σ H ι σi h xs us Q E N r K
 obtain⟨vs,rv,q⟩:=r
 match xs,K with
 |[x,y],K=>
  obtain⟨v,w,rfl,qx,qy⟩:=q.two_of
  cases x with
  |int i=>
   cases y with
   |int j=>
    cases (show v=.int i from qx)
    cases (show w=.int j from qy)
    exact QA (Jrp (X:=X.wish E) hc) N.inv rv ⟨i,j,rfl,fin0 N K rfl⟩
   |_=>exact Zf K
  |_=>cases y<;>exact Zf K
 |[],K=>exact Zf K
 |[_],K=>exact Zf K
 |_::_::_::_,K=>exact Zf K
theorem J4z(hc:X.calm=Zh):Qh ce X (.builtin "min") (on2 minI):=by
 intro pj s σ H ι σi h xs us Q E N r K
 obtain⟨vs,rv,q⟩:=r
 match xs,K with
 |[x,y],K=>
  obtain⟨v,w,rfl,qx,qy⟩:=q.two_of
  cases x with
  |int i=>
   cases y with
   |int j=>
    cases (show v=.int i from qx)
    cases (show w=.int j from qy)
    exact QA (Jrq (X:=X.wish E) hc) N.inv rv ⟨i,j,rfl,fin0 N K rfl⟩
   |_=>exact Zf K
  |_=>cases y<;>exact Zf K
 |[],K=>exact Zf K
 |[_],K=>exact Zf K
 |_::_::_::_,K=>exact Zf K
noncomputable def Q9:Tq->Option (Tg)
 |[]=>Za []
 |.str x::r=>(Q9 r).map (x:: ·)
 |_=>Zc
theorem Jn8{K:W.Frag}{ι:Tp}{H:Hp}:∀{xs:Tq}{zs:Tg}{vs:Tu}{us:To},Q9 xs=Za zs->RVs K ι H xs vs->Vals vs us->∃l:List<|Str×Tok,us=ZeQ l/\l.map (·.1)=zs
 |[],zs,vs,us,e,q,r=>by
  cases e
  have e1:vs=[]:=q
  subst e1
  cases r
  exact⟨[],rfl,rfl⟩
 |x::xs,zs,vs,us,e,q,r=>by
  obtain⟨v,vr,e1,q1,q2⟩:=q
  subst e1
  cases r with
  |cons r1 r2=>
   cases x with
   |str y=>
    obtain⟨z2,e2,rfl⟩:=ZD.mp (show(Q9 xs).map (y:: ·)=Za zs from e)
    cases (show v=.str y from q1)
    obtain⟨t,rfl⟩:=r1
    obtain⟨l,rfl,hl⟩:=Jn8 e2 q2 r2
    exact⟨(y,t)::l,rfl,by rw[Z1,hl]⟩
   |_=>cases e
def XH:IV->Tq->IH->Res IV
 |.str x,[.ref i],h=>match h[i]? with
  |some (.lst xs)=>(match Q9 xs with
   |some zs=>if JoinOk x zs=Zh then .ok (.str<|Txt.join x zs) h else .stuck
   |none=>.stuck)
  |_=>.stuck
 |_,_,_=>.stuck
theorem J25:MtI ce X "str" "str.join" XH:=by
 intro pj s σ H ι σi h x xs v us Q E N rx rs K
 obtain⟨xv,rx,qx⟩:=rx
 obtain⟨vs,rv,qs⟩:=rs
 cases x with
 |str x=>
  cases (show xv=.str x from qx)
  obtain⟨t,rfl⟩:=rx
  match xs,K with
  |[.ref i],K=>
   obtain⟨w,rfl,a,rfl,ha⟩:=qs.one_of
   obtain⟨u,rfl,ru⟩:=Qn rv
   cases ru
   dsimp only[XH]at K
   cases hi:h[i]? with
   |none=>rw[hi]at K;exact Zf K
   |some ob=>
    rw[hi]at K
    cases ob with
    |lst ys=>
     dsimp only at K
     cases hb:Q9 ys with
     |none=>rw[hb]at K;exact Zf K
     |some zs=>
      rw[hb]at K
      dsimp only at K
      split at K
      ·rename_i hz
       obtain⟨ws,e1,r1⟩:=N.at hi ha
       obtain⟨its,rv',pl,_⟩:=N.inv.list<|SqL.of e1
       obtain⟨l,rfl,hl⟩:=Jn8 hb r1 rv'
       exact SC.join pl.isList hl hz λt' k=>fin0 N K rfl _ _ (N.inv.tok _) ⟨_,rfl⟩
      ·exact Zf K
    |_=>exact Zf K
  |[],K=>exact Zf K
  |[.non],K=>exact Zf K
  |[.bl _],K=>exact Zf K
  |[.int _],K=>exact Zf K
  |[.str _],K=>exact Zf K
  |[.tup _],K=>exact Zf K
  |[.rol _],K=>exact Zf K
  |y::_::_,K=>cases y<;>exact Zf K
 |_=>exact Zf K
noncomputable def X5:IV->Tq->IH->Res IV
 |.ref i,[],h=>match h[i]? with
  |some (.lst _)=>.ok .non<|h.set i<|.lst []
  |_=>.stuck
 |_,_,_=>.stuck
theorem Jzy:MtI ce X "list" "list.clear" X5:=by
 intro pj s σ H ι σi h x xs v us Q E N rx rs K
 obtain⟨xv,rx,qx⟩:=rx
 obtain⟨vs,rv,qs⟩:=rs
 cases x with
 |ref i=>
  match xs,K with
  |[],K=>
   obtain⟨a,rfl,ha⟩:=qx
   cases (show vs=[]from qs)
   dsimp only[X5]at K
   cases hi:h[i]? with
   |none=>rw[hi]at K;exact Zf K
   |some ob=>
    rw[hi]at K
    cases ob with
    |lst zs=>
     obtain⟨ws,e1,r1⟩:=N.at hi ha
     exact Jpg (Jv2 (X:=X.wish E)) N.inv rx rv ⟨a,ws,rfl,rfl,e1,finW (ys:=[]) (ws:=[]) N K ha e1 rfl rfl⟩
    |_=>exact Zf K
  |_::_,K=>exact Zf K
 |_=>cases xs<;>exact Zf K
end
noncomputable def JI:Tq->Option (Tk)
 |[]=>Za []
 |.int i::r=>(JI r).map (i:: ·)
 |_=>Zc
theorem Vd{K:W.Frag}{ι:Tp}{H:Hp}:∀{xs:Tq}{ns:Tk}{vs:Tu}{us:To},JI xs=Za ns->RVs K ι H xs vs->Vals vs us->Zb4 us ns
 |[],ns,vs,us,e,q,r=>by
  cases e
  have e1:vs=[]:=q
  subst e1
  cases r
  exact .nil
 |x::xs,ns,vs,us,e,q,r=>by
  obtain⟨v,vr,e1,q1,q2⟩:=q
  subst e1
  cases r with
  |cons r1 r2=>
   cases x with
   |int i=>
    obtain⟨n2,e2,rfl⟩:=ZD.mp (show(JI xs).map (i:: ·)=Za ns from e)
    cases (show v=.int i from q1)
    obtain⟨t,rfl⟩:=r1
    exact .cons i t<|Vd e2 q2 r2
   |_=>cases e
theorem Xk:∀{us:To}{ns:Tk},Zb4 us ns->us.length=ns.length
 |_,_,.nil=>rfl
 |_,_,.cons _ _ r=>by simp[Xk r]
section
variable{ce:CeT}{X:Cx}
noncomputable def sumI:IV->IH->Res IV
 |.ref i,h=>match h[i]? with
  |some (.lst xs)=>(match JI xs with
   |some ns=>.ok (.int ns.sum) h
   |none=>.stuck)
  |_=>.stuck
 |_,_=>.stuck
theorem J41(hh:X.A.handled=Zc):Qh ce X (.builtin "sum") (on1 sumI):=Vw λpj s σ H ι σi h x xv u Q E N ru qx K=>by
 cases x with
 |ref i=>
  obtain⟨a,e1,ha⟩:=qx
  subst e1
  cases ru
  dsimp only[sumI]at K
  cases hi:h[i]? with
  |none=>rw[hi]at K;exact Zf K
  |some ob=>
   rw[hi]at K
   cases ob with
   |lst xs=>
    dsimp only at K
    cases hb:JI xs with
    |none=>rw[hb]at K;exact Zf K
    |some ns=>
     rw[hb]at K
     obtain⟨vs,e1,r1⟩:=N.at hi ha
     obtain⟨its,rv,pl,hz⟩:=N.inv.list<|SqL.of e1
     have are:=Vd hb r1 rv
     obtain⟨ys,hy⟩:=are.allInts.items
     have pl':s.heap.IsList a (intItems ys):=hy▸pl.isList
     refine sum_intListG hh pl' λh2 tk t2 kk=>?_
     have en:ns=ys.toList.map (·.1):=by
      have q1:=are.numsOf
      have q2:=congrArg (λz:Tf=>numsOf z.toList) hy
      simp only at q2
      rw[<-q1]
      exact q2.trans<|nums_intItems ys
     have es:preSum (numAt ys) ys.size=ns.sum:=by
      rw[preSum_eq,en,Za1 03]
     rw[es]
     exact fin0 N K rfl _ _ (N.inv.kept (t':=tk) kk) ⟨_,rfl⟩
   |_=>exact Zf K
 |_=>exact Zf K
end
noncomputable def JJ (f:Nat->Int):Nat->Int
 |0=>0
 |1=>f 0
 |j+2=>if f (j+1)>JJ f (j+1)then f (j+1)else JJ f (j+1)
theorem Jdo(f:Nat->Int)(hj:0<j):JJ f (j+1)=if f j>JJ f j then f j else JJ f j:=by
 cases j with
 |zero=>omega
 |succ j=>rfl
def mmS:{F:String->CmpOp->ZcT // ZcT.«max.loop» =F "max" .Gt/\ZcT.«min.loop» =F "min" .Lt}:=⟨_,by unfold ZcT.«max.loop»;exact rfl,by unfold ZcT.«min.loop»;exact rfl⟩
structure Mm(nm L:String)(op:CmpOp):Prop where
 en:entryFor table L=Za (mmS.1 nm op)
 pl:plainId L=Zh
 nm:(toString nm++toString ".loop":String)=L
theorem mmX:Mm "max" "max.loop" .Gt:=⟨ZbQ,Za2,01⟩
theorem mmN:Mm "min" "min.loop" .Lt:=⟨PySem.F.entry_min_loop,PySem.F.plain_min_loop,01⟩
section
variable{pr:ZB}{wd:ZV}{B:ZN}{R:Zep->Zn->Prop}{it:Zq}{fps wrs:Tp}{n:Nat}{P:Nat->Ze->Prop}{St:Nat->Zax->Prop}
abbrev liOb(l:Zq):Obj:={cls:=.type "list_iterator",data:=.fields #[.ref l,.int 0 0]}
abbrev J3n(v:Ze)(c:Nat):Obj:={cls:=.type "list",dict:=Zc,data:=.seq #[v,v] c,slots:=#[]}
theorem YB:(toString "max"++toString ".loop":String)="max.loop":=01
theorem Jz3{kw:Wj}(W:Walks pr wd B.in1 it fps wrs n P St)(f:Nat->Int)(hf:∀i v,P i v->∃t,v=.int (f i) t)(C:Zq)(hC:C∉fps):
  ∀(r j:Nat)(z:Zn)(v:Ze)(u:Tok)(c:Nat),n-j=r->0<j->j<=n->St j z.heap->v=.int (JJ f j) u->z.heap.get? C=Za (J3n v c) ->
   (∀u h2 tk,(∀a o,a∉wrs->a≠C->z.heap.get? a=Za o->h2.get? a=Za o)->R (.ok<|.ret<|.int (JJ f n) u) {z with heap:=h2,toks:=tk}) ->
   Zc4 (Z9 pr wd) B (.builtin "max.loop" ⟨[.ref it,.none,.ref C],kw⟩) R z:=by
 have hw:C∉wrs:=λq=>hC<|W.sub _ q
 intro r
 induction r with
 |zero=>
  intro j z v u c hr h0 hj st ev gC fin
  obtain rfl:j=n:=00
  subst ev
  refine ZaE ZbQ ?_
  rw[Zau Za2 _]
  show Z0 _ B.in1 (Zdr (.ref C)>>=_) _ _ z
  refine Zd<|Zcb gC rfl ?_
  show Z0 _ B.in1 (tryCatch (Zc3<|.ref it) _>>=_) _ _ z
  refine Zd<|ZaB<|W.done z _ _ st λh2 tk keep=>?_
  have gC2:=keep C _ hw gC
  show Z0 _ B.in1 (ZeR C (λ_=>#[])>>=_) _ _ _
  refine Zd ?_
  refine ZbV gC2 rfl (Zd<|ZbP<|Zv ?_)
  exact fin u _ tk λa o ha hb e=>(ZI _ _<|Zab hb).trans<|keep a o ha e
 |succ r ih=>
  intro j z v u c hr h0 hj st ev gC fin
  have lt:j<n:=00
  subst ev
  refine ZaE ZbQ ?_
  rw[Zau Za2 _]
  show Z0 _ B.in1 (Zdr (.ref C)>>=_) _ _ z
  refine Zd<|Zcb gC rfl ?_
  show Z0 _ B.in1 (tryCatch (Zc3<|.ref it) _>>=_) _ _ z
  refine Zd<|ZaB<|W.item j z _ _ lt st λy h2 tk hP st2 keep=>?_
  obtain⟨t,rfl⟩:=hf j y hP
  have gC2:=keep C _ hw gC
  have cmp:=Ze9 (prog:=pr) (w:=wd) (A:=B.in1) (P:=λi v=>∃t,v=.int (if i=0 then f j else JJ f j) t) (λi=>if i=0 then f j else JJ f j) λ_ _ q=>q
  show Z0 _ B.in1 (tryCatch (Zcg [Zcx (f j) t,Zcx (f j) t]<|ZcZ .Gt (.int (f j) t) (.int (JJ f j) u)>>=_) _>>=_) _ _ _
  refine Zd<|ZaB<|Zaj<|Zd<|cmp 0 1 _ _ _ _ _ ⟨t,03⟩ ⟨u,03⟩ ?_
  refine Zd<|Zaj<|Zbp ?_
  refine Zd<|ZbP<|Zv ?_
  have step:=Jdo f h0
  by_cases hb:f j>JJ f j
  ·rw[if_pos hb]at step
   simp only[if_true,show ¬(1:Nat)=0 by decide,if_false,decide_eq_true hb]
   refine Zd ?_
   refine ZbV gC2 rfl (Zd<|ZbP ?_)
   rw[YB]
   refine Zv ⟨ZaX Za2 _,ih (j+1) _ (.int (f j) t) t _ 00 00 lt (W.frame _ _ _ st2 λa ha o e=>?_) (by rw[step]) (ZcJ _ gC2 rfl) λu2 h3 tk3 k3=>?_⟩
   ·exact(ZI _ _ λq:C=a=>hC<|by rw[q];exact ha).trans e
   ·exact fin u2 h3 tk3 λa o ha hc e=>k3 a o ha hc<|(ZI _ _<|Zab hc).trans<|keep a o ha e
  ·rw[if_neg hb]at step
   simp only[if_true,show ¬(1:Nat)=0 by decide,if_false,decide_eq_false hb,Zae]
   refine Zd<|ZbP ?_
   rw[YB]
   refine Zv ⟨ZaX Za2 _,ih (j+1) _ (.int (JJ f j) u) u c 00 00 lt st2 (by rw[step]) gC2 λu2 h3 tk3 k3=>?_⟩
   exact fin u2 h3 tk3 λa o ha hc e=>k3 a o ha hc<|keep a o ha e
end
theorem Jrd(a v:Ze):Zeb "max" ⟨[a],[(ZS "default",v)]⟩:=by unfold Zeb;kernel_rfl
section
variable{pr:ZB}{wd:ZV}{B:ZN}{E:QvT}{z:Zn}{l:Zq}{us:To}{ns:Tk}{d:Wx}{Q:QvT}{kw:Wj}
def J4s(ns:Tk)(d:Wx)(v:Ze):Prop:=(ns=[]/\d=Za v)∨(ns≠[]/\∃u,v=.int (JJ (λi=>ns.getD i 0) ns.length) u)
theorem Js4(hk:Zap "max" ["key","default"] 0 ⟨[],kw⟩=pure [Zc,d])(ha:Zeb "max" ⟨[.ref l],kw⟩)(hn:ns=[]->∃v,d=Za v)(hh:B.handled=Zc)(hl:z.heap.IsList l us.toArray)(hi:Zb4 us ns)
  (hQ:∀v h2 tk,J4s ns d v->(∀b o,z.heap.get? b=Za o->h2.get? b=Za o)->Q v {z with heap:=h2,toks:=tk}):
  Z0 (Z9 pr wd) B (call (.builtin "max") [.ref l] kw) Q E z:=by
 obtain⟨ol,hol,_⟩:=id hl
 have lt:l<z.heap.objs.size:=Z3 hol
 have ll:=Xk hi
 refine kmk_tree ZdM Zd8 Zd9 ha ?_
 show Z0 _ B.in1 (Zap "max" ["key","default"] 0 ⟨[],kw⟩>>=_) _ _ z
 refine Zd<|Zeu hk ?_
 refine Zd<|Zv ?_
 refine Zd<|Zba hl ?_
 refine Zd<|ZcU ?_<|ZR _
 rw[YB]
 have ne:l≠z.heap.objs.size:=Z7 lt
 have W:=ZcR (prog:=pr) (w:=wd) (A:=B.in1) hh z.heap.objs.size l ne us.toArray
 have sz:us.toArray.size=us.length:=Zt ..
 have hS:(z.heap.push<|liOb l).objs.size=z.heap.objs.size+1:=Zdz ..
 have hC:(z.heap.push<|liOb l).objs.size∉[z.heap.objs.size,l]:=by
  rw[hS]
  simp only[Z6,ZF,or_false,not_or]
  exact⟨Zby<|Zaz _,Zby<|ZbA lt⟩
 have hw:(z.heap.push<|liOb l).objs.size∉[z.heap.objs.size]:=by
  rw[hS]
  simp only[Z6,ZF,or_false]
  exact Zby<|Zaz _
 have old:∀b o,z.heap.get? b=Za o->((z.heap.push<|liOb l).push<|Zav "list" #[] 0).get? b=Za o:=λb o e=>Zj _<|Zj _ e
 have gI:((z.heap.push<|liOb l).push<|Zav "list" #[] 0).get? z.heap.objs.size=Za (liOb l):=Zj _<|Z2 _ rfl
 have gC:((z.heap.push<|liOb l).push<|Zav "list" #[] 0).get? (z.heap.push<|liOb l).objs.size=Za (Zav "list" #[] 0):=Z2 _ rfl
 have notin:∀b o,z.heap.get? b=Za o->b∉[z.heap.objs.size]:=λb o e q=>Z7 (Z3 e)<|Zx.mp q
 have notC:∀b o,z.heap.get? b=Za o->b≠(z.heap.push<|liOb l).objs.size:=λb o e=>by rw[hS];exact Z7<|ZbA<|Z3 e
 refine Zv ⟨ZaX Za2 _,ZaE ZbQ ?_⟩
 rw[Zau Za2 _]
 show Z0 _ B.in1 (Zdr (.ref _)>>=_) _ _ _
 refine Zd<|Zcb gC rfl ?_
 show Z0 _ B.in1 (tryCatch (Zc3<|.ref z.heap.objs.size) _>>=_) _ _ _
 by_cases h0:us.length=0
 ·refine Zd (ZaB<|W.done _ _ _ (by rw[sz,h0];exact⟨⟨_,gI,rfl,rfl⟩,(hl.push _).push _⟩) λh2 tk keep=>?_)
  obtain⟨v,rfl⟩:=hn<|Zbn 00
  show Z0 _ B.in1 (rule _>>=_) _ _ _
  refine Zd<|Zdy<|Zv ?_
  refine hQ v h2 tk (.inl ⟨Zbn 00,rfl⟩) λb o e=>keep b o (notin b o e)<|old b o e
 ·refine Zd (ZaB<|W.item 0 _ _ _ (by rw[sz];omega) ⟨⟨_,gI,rfl,rfl⟩,(hl.push _).push _⟩ λy h2 tk hP st2 keep=>?_)
  have gC2:=keep _ _ hw gC
  show Z0 _ B.in1 (ZeR (z.heap.push<|liOb l).objs.size (λ_=>#[y,y])>>=_) _ _ _
  refine Zd ?_
  refine ZbV gC2 rfl ?_
  rw[YB]
  have hf:∀(i:Nat)(v:Ze),us.toArray[i]?=Za v->∃t,v=.int ((λi=>ns.getD i 0) i) t:=λi v q=>Zd0 hi i v<|by simpa using q
  obtain⟨t,rfl⟩:=hf 0 y hP
  refine Zv ⟨ZaX Za2 _,Jz3 W (λi=>ns.getD i 0) hf _ hC _ 1 _ _ t _ rfl 01 (by rw[sz];omega) (W.frame _ _ _ st2 λa ha o e=>?_) rfl (ZcJ _ gC2 rfl) λu h3 tk3 k3=>?_⟩
  ·exact(ZI _ _ λq=>hC<|by rw[q];exact ha).trans e
  ·rw[sz,ll]
   refine hQ _ h3 tk3 (.inr ⟨λq=>h0 (by rw[ll,q];rfl),u,rfl⟩) λb o e=>k3 b o (notin b o e) (notC b o e)<|(ZI _ _<|Zab<|notC b o e).trans<|keep b o (notin b o e)<|old b o e
end
section
variable{ce:CeT}{X:Cx}
def maxD(ns:Tk)(d:IV):IV:=if ns=[]then d else .int (JJ (λi=>ns.getD i 0) ns.length)
def Yz(aa:A1)(md:E1):E1:=λσ h=>(aa σ h).bind λxs h1=>(md σ h1).bind λd h2=>match xs with
 |[.ref i]=>(match h2[i]? with
  |some (.lst ys)=>(match JI ys with
   |some ns=>.ok (maxD ns d) h2
   |none=>.stuck)
  |_=>.stuck)
 |_=>.stuck
theorem J2m{a de:Expr}{aa:A1}{md:E1}{p pos kp:Pos}(hh:X.A.handled=Zc)(hg:Gl X "max")(hm:X.mg "max"=Zc)(ha:PAi ce X [a] aa)(hd:PEi ce X de md)(hs:ZC [a] X.env=[(Zk,ZaY a X.env)]):
  PEi ce X (.Call (.Name "max" p) [a] [⟨Za "default",de,kp⟩] pos) (Yz aa md):=λpj s σ H ι σi h Q E N K=>by
 refine Zag<|Q8 N.inv hg hm rfl ?_
 refine Zev ?_ (by rw[hs];rfl) (by rw[hs];rfl) rfl rfl
 refine(ha pos).run N K λxs h1 us s1 H1 ι1 N1 n1 r1 K1=>?_
 refine ZaJ<|Zd<|PX.run hd N1 K1 λd h2 du s2 H2 ι2 N2 n2 r2 K2=>Zd<|Zbj<|Zv<|ZbH ?_
 obtain⟨vs,rv,qs⟩:=r1.mono n2
 cases xs with
 |nil=>exact Zf K2
 |cons x t=>
  cases t with
  |cons _ _=>cases x<;>exact Zf K2
  |nil=>
   cases x with
   |ref i=>
    obtain⟨w,rfl,ad,rfl,hav⟩:=qs.one_of
    obtain⟨u,rfl,ru⟩:=Qn rv
    cases ru
    dsimp only at K2
    cases hi:h2[i]? with
    |none=>rw[hi]at K2;exact Zf K2
    |some ob=>
     rw[hi]at K2
     cases ob with
     |lst ys=>
      dsimp only at K2
      cases hb:JI ys with
      |none=>rw[hb]at K2;exact Zf K2
      |some ns=>
       rw[hb]at K2
       dsimp only at K2
       obtain⟨ws,e1,r3⟩:=N2.at hi hav
       obtain⟨its,rv2,pl,_⟩:=N2.inv.list<|SqL.of e1
       refine Js4 (d:=Za du) rfl (Jrd _ _) (λ_=>⟨_,rfl⟩) hh pl.isList (Vd hb r3 rv2) λv h3 tk mi kk=>?_
       have N3:Now ce X pj ι2 σi h2 σ H2 {s2 with heap:=h3,toks:=tk}:=⟨N2.inv.kept (t':=tk) kk,N2.rel,N2.st⟩
       rcases mi with⟨e,ev⟩|⟨e,t,rfl⟩
       ·cases ev
        have em:maxD ns d=d:=if_pos e
        rw[em]at K2
        exact K2 _ _ _ _ N3 .refl r2
       ·have em:maxD ns d=.int (JJ (λi=>ns.getD i 0) ns.length):=if_neg e
        rw[em]at K2
        exact K2 _ _ _ _ N3 .refl ⟨.int _,⟨t,rfl⟩,rfl⟩
     |_=>exact Zf K2
   |_=>exact Zf K2
end
noncomputable def metB (f:Nat->Str)(i:Nat)(k:Str):Bool:=(ZM i).any λj=>decide (k=f j)
def cntD(f:Nat->Str):Nat->Nat
 |0=>0
 |i+1=>if metB f i (f i)then cntD f i else cntD f i+1
theorem Js1(f:Nat->Str)(i:Nat)(k:Str):metB f (i+1) k=(metB f i k||decide (k=f i)):=by simp[metB,Zei]
theorem Jnd(f:Nat->Str):∀i,cntD f i<=i
 |0=>Zm _
 |i+1=>by
  have:=Jnd f i
  unfold cntD
  split<;>omega
section
variable{pr:ZB}{wd:ZV}{B:ZN}{R:Zep->Zn->Prop}{it:Zq}{fps wrs:Tp}{G:Wy->Wy->Prop}{n:Nat}{P:Nat->Ze->Prop}{St:Nat->Zn->Prop}
abbrev V8(pr:ZB)(wd:ZV)(hp:Zax)(a:Zq)(f:Nat->Str)(i:Nat):Prop:=hp.SetOf (ZcV pr wd) a (λk=>metB f i k)<|cntD f i
theorem V8.moved{hp h2:Zax}(q:V8 pr wd hp a f i)(m:∀o,hp.get? a=Za o->h2.get? a=Za o):V8 pr wd h2 a f i:=by
 obtain⟨o,es,ep,t,ho,rest⟩:=q
 exact⟨o,es,ep,t,m o ho,rest⟩
theorem Jwg(W:WalksS pr wd B.in1 it fps wrs G n P St)(C:Zq)(hC:C∉fps)(f:Nat->Str)(hf:∀i v,P i v->∃t,v=.str (f i) t)(room:n+1<Zch):
  ∀(r i:Nat)(z:Zn),n-i=r->i<=n->St i z->V8 pr wd z.heap C f i->(∀z2,Moved (C::wrs) G z z2->V8 pr wd z2.heap C f n->R (.ok<|.ret .none) z2) ->
   Zc4 (Z9 pr wd) B (.builtin "set.update.loop" ⟨[.ref C,.ref it],[]⟩) R z:=by
 have nw:C∉wrs:=λq=>hC<|W.sub _ q
 have more:∀b∈wrs,b∈C::wrs:=λb q=>Zp _ q
 intro r
 induction r with
 |zero=>
  intro i z hr hi st hS fin
  obtain rfl:i=n:=00
  refine ZaE Zck ?_
  rw[Zau Zbx _]
  show Z0 _ B.in1 (Zc3 (.ref it)>>=_) _ _ z
  refine Zd<|W.done z _ _ st λz2 mv=>?_
  show Z0 _ B.in1 (ret ZaA) _ _ z2
  exact Zv<|fin z2 (mv.mono more)<|hS.moved λo e=>mv.heap C _ nw e
 |succ r ih=>
  intro i z hr hi st hS fin
  have lt:i<n:=00
  refine ZaE Zck ?_
  rw[Zau Zbx _]
  show Z0 _ B.in1 (Zc3 (.ref it)>>=_) _ _ z
  refine Zd<|W.item i z _ _ lt st λv z2 hP st2 mv=>?_
  obtain⟨t,rfl⟩:=hf i v hP
  have hS2:V8 pr wd z2.heap C f i:=hS.moved λo e=>mv.heap C _ nw e
  have ki:(ZcV pr wd).is (f i) (.str (f i) t)=Zh:=strKind_is _ _ _ _
  show Z0 _ B.in1 (Zcg [Zez (f i) t] (setAdd C<|.str (f i) t)>>=_) _ _ z2
  refine Zd<|Zaj ?_
  unfold setAdd
  refine Zaj ?_
  refine Zd<|(ZcV pr wd).pyHash (k:=f i) ki ?_
  have rm:cntD f i+1<Zch:=by have:=Jnd f i;omega
  refine wpAny_setAddHashed_of (knd:=ZcV pr wd) (s:={z2 with toks:=z2.toks+1}) ki rfl hS2 rm λh3 sb hS3=>?_
  have hS4:V8 pr wd h3 C f (i+1):=SetOf_congr hS3 (λk=>(Js1 f i k).symm) (by show _=cntD f (i+1);rfl)
  refine Zv ⟨ZaX Zbx _,ih (i+1) _ 00 lt (W.frame _ z2 _ _ st2 (ZaU _) λb q o e=>?_) hS4 λz5 m5 hS5=>?_⟩
  ·rw[sb.2 b λe2:b=C=>hC<|by rw[<-e2];exact q];exact e
  ·refine fin z5 (Moved.trans W.gtrans ((mv.mono more).then_heap (ZaU _) λb o q e=>?_) m5) hS5
   rw[sb.2 b λe2:b=C=>q<|by rw[e2];exact Zy];exact e
end
section
variable{pr:ZB}{wd:ZV}{B:ZN}{E:QvT}{z:Zn}{l:Zq}{us:To}{zs:Tg}{Q:QvT}
abbrev Vh(led:Bool):Obj:={cls:=.type "set",dict:=Zc,data:=.set #[] 0 (.fresh 0 0 led)}
abbrev QW(zs:Tg):Nat->Str:=λi=>zs.getD i Str.empty
set_option maxRecDepth 100000 in
theorem Jwe{l2:List (Str×Tok)}(hh:B.handled=Zc)(hl:z.heap.IsList l us.toArray)(eu:us=ZeQ l2)(ez:l2.map (·.1)=zs)(room:zs.length+1<Zch)
  (fin:∀(h2:Zax)(tk:Nat),V8 pr wd h2 z.heap.objs.size (QW zs) zs.length->(∀b o,z.heap.get? b=Za o->h2.get? b=Za o)->Q (.ref z.heap.objs.size) {z with heap:=h2,toks:=tk}):
  Z0 (Z9 pr wd) B (call (.type "set") [.ref l]) Q E z:=by
 have len:us.toArray.size=zs.length:=by rw[eu,<-ez];simp[ZeQ]
 have vals:∀(i:Nat)(v:Ze),us.toArray[i]?=Za v->∃t,v=.str (QW zs i) t:=λi v q=>by
  rw[eu]at q
  simp only[ZeQ,Zem,Z4]at q
  obtain⟨p,hp,rfl⟩:=ZD.mp q
  refine⟨p.2,?_⟩
  rw[<-ez]
  simp[QW,Zi,Z4,hp]
 obtain⟨c,tl,hmro⟩:=PySem.F.called_set.mro
 have hmade:=PySem.F.called_set.made
 have hsub:=PySem.F.called_set.sub
 refine ZeE<|codeAny_of_tree ?_
 show Z0 _ _ (callAny (.type "set") _) _ _ _
 refine Zv ⟨Code.quiet_builtin _ (by decide +kernel),ZaE PySem.F.entry_type_call ?_⟩
 rw[Around.under_plain (weight_type_call_type "set" [.ref l] []) rfl]
 have no1:=PySem.F.called_set.notType
 have no2:=PySem.F.called_set.canCreate
 have ok1:=PySem.F.typeCall_set_1<|.ref l
 repeat (any_goals (first|assumption|wp_step))
 refine Zc9 (code_set_new_1 (.ref l) (E:=E) (Q₁:=λobj z1=>∃led:Bool,obj=.ref z.heap.objs.size/\z1={z with heap:=z.heap.push (Vh led)}) λled=>⟨led,rfl,rfl⟩) λres z1 hr=>?_
 cases res with
 |error e=>exact hr
 |ok fl=>
  cases fl with
  |ret obj=>
   obtain⟨led,rfl,rfl⟩:=hr
   have gS:(z.heap.push<|Vh led).get? z.heap.objs.size=Za (Vh led):=Z2 _ rfl
   have tS:Shared.TypeIs {z with heap:=z.heap.push (Vh led)} (.ref z.heap.objs.size) "set":=⟨_,gS,rfl⟩
   have in1:=PySem.F.called_set.init.lookup
   have in2:=PySem.F.called_set.init.bind<|.ref z.heap.objs.size
   repeat (any_goals (first|assumption|wp_step))
   refine Zc9 (codeAny_call_builtin (R:=wants (λres z2=>res=.none/\∃h2 tk,z2={z with heap:=h2,toks:=tk}/\V8 pr wd h2 z.heap.objs.size (QW zs) zs.length/\(∀b o,z.heap.get? b=Za o->h2.get? b=Za o)) E)
    PySem.F.called_set.init.plain PySem.F.entry_set_init (check_set_init_1 tS ?_)) λres2 z2 hr2=>?_
   ·obtain⟨ol,hol,hcl,nl,hdl⟩:=hl
    obtain⟨ocls,odict,odata,oslots⟩:=ol
    simp only at hcl hdl
    subst hcl;subst hdl
    have gl:(z.heap.push<|Vh led).get? l=Za {cls:=.type "list",dict:=odict,data:=.seq us.toArray nl,slots:=oslots}:=Zj _ hol
    have sb1:=PySem.F.sub_list_set
    have sb2:=PySem.F.sub_list_frozenset
    have dne:(ZeD "list"==ZeD "dict")=Zk:=01
    have hl1:(z.heap.push<|Vh led).IsList l us.toArray:=⟨_,gl,rfl,nl,rfl⟩
    unfold ZcT.«set.__init__» noKeywords Builtin.Frozenset.updateFrom
    generalize hPI:ZdV=PI
    wp_walk
    subst hPI
    refine Zba hl1 ?_
    refine Zd<|wpAny_runValue ?_
    have lS:l<z.heap.objs.size:=Z3 hol
    have h3:B.in1.in1.in1.handled=Zc:=by simp[hh]
    have neI:l≠(z.heap.push<|Vh led).objs.size:=by rw[Zc5];exact Z7<|ZbA lS
    have nC:z.heap.objs.size∉[(z.heap.push<|Vh led).objs.size,l]:=by
     rw[Zc5]
     simp only[Z6,ZF,or_false,not_or]
     exact⟨Z7<|Zaz _,Zby lS⟩
    refine Jwg ((ZcR h3 _ l neI us.toArray).toS) z.heap.objs.size nC (QW zs) vals (by rw[len];exact room) (us.toArray.size-0) 0 _ 00 (ZR _) ⟨⟨_,Z2 _ rfl,rfl,rfl⟩,(hl1.push _)⟩ ?start ?stop
    case start=>
     have g0:((z.heap.push<|Vh led).push<|liOb l).get? z.heap.objs.size=Za (Vh led):=Zj _ gS
     exact SetOf_congr ((setObjOf_fresh (knd:=ZcV pr wd) led).setOf g0<|by unfold Zch;omega) (λ_=>rfl) rfl
    case stop=>
     intro z5 mv hS5
     obtain⟨h5,g5,d5,tk5,os5⟩:=z5
     have eg:g5=z.gens:=mv.gens
     have ed:d5=z.drawn:=mv.drawn
     have eo:os5=z.os:=mv.os
     subst eg;subst ed;subst eo
     show Z0 _ _ _ _ _ _
     refine Zv ?_
     show Z0 _ _ (ret ZaA) _ _ _
     rw[len]at hS5
     refine Zv ⟨rfl,h5,tk5,rfl,hS5,λb o e=>?_⟩
     have lb:=Z3 e
     have b1:b≠z.heap.objs.size:=Z7 lb
     have b2:b≠(z.heap.push<|Vh led).objs.size:=by rw[Zc5];exact Z7<|ZbA lb
     exact mv.heap b o (by simp only[Z6,ZF,or_false,not_or];exact⟨b1,b2⟩)<|Zj _<|Zj _ e
   ·cases res2 with
    |error e=>exact hr2
    |ok fl2=>
     cases fl2 with
     |ret rv=>
      obtain⟨rfl,h2,tk,rfl,hS2,keep⟩:=hr2
      repeat (any_goals (first|assumption|wp_step))
      exact fin _ _ hS2 keep
     |_=>exact hr2.elim
  |_=>exact hr.elim
end
section
variable{ce:CeT}{X:Cx}
def Yy(aa:A1):E1:=λσ h=>(aa σ h).bind λxs h1=>match xs with
 |[.ref i]=>(match h1[i]? with
  |some (.lst ys)=>(match Q9 ys with
   |some zs=>if zs.length+1<Zch then .ok (.int<|cntD (QW zs) zs.length) h1 else .stuck
   |none=>.stuck)
  |_=>.stuck)
 |_=>.stuck
theorem Jvd{a:Expr}{aa:A1}{p pos p2 pos2:Pos}(hh:X.A.handled=Zc)(g1:Gl X "len")(m1:X.mg "len"=Zc)(g2:Gl X "set")(m2:X.mg "set"=Zc)(ha:PAi ce X [a] aa)(hs:ZC [a] X.env=[(Zk,ZaY a X.env)]):
  PEi ce X (.Call (.Name "len" p) [.Call (.Name "set" p2) [a] [] pos2] [] pos) (Yy aa):=λpj s σ H ι σi h Q E N K=>by
 refine Zag<|Q8 N.inv g1 m1 rfl ?_
 refine ZbK ?_ rfl rfl
 refine Zd4 ?_
 refine Zag<|Q8 N.inv g2 m2 rfl ?_
 refine Za7 ?_ hs rfl
 refine(ha pos2).run N K λxs h1 us s1 H1 ι1 N1 n1 r1 K1=>?_
 obtain⟨vs,rv,qs⟩:=r1
 cases xs with
 |nil=>exact Zf K1
 |cons x t=>
  cases t with
  |cons _ _=>cases x<;>exact Zf K1
  |nil=>
   cases x with
   |ref i=>
    obtain⟨w,rfl,ad,rfl,hav⟩:=qs.one_of
    obtain⟨u,rfl,ru⟩:=Qn rv
    cases ru
    dsimp only at K1
    cases hi:h1[i]? with
    |none=>rw[hi]at K1;exact Zf K1
    |some ob=>
     rw[hi]at K1
     cases ob with
     |lst ys=>
      dsimp only at K1
      cases hb:Q9 ys with
      |none=>rw[hb]at K1;exact Zf K1
      |some zs=>
       rw[hb]at K1
       dsimp only at K1
       split at K1
       ·rename_i room
        obtain⟨ws,e1,r3⟩:=N1.at hi hav
        obtain⟨its,rv2,pl,_⟩:=N1.inv.list<|SqL.of e1
        obtain⟨l2,eu,ez⟩:=Jn8 hb r3 rv2
        refine Jwe hh pl.isList eu ez room λh2 tk hS keep=>Zd5 ?_
        obtain⟨o,es,ep,t,ho,hex,hd,hel,hmem,hbb,hf,hn⟩:=hS
        have fit:(es.size:Int)<2^63:=by
         have:=Jnd (QW zs) zs.length
         have sb:Zch<=2^40:=by unfold Zch;decide
         omega
        refine call_len_set ho hex hd hf fit ?_
        rw[hn]
        exact K1 _ _ _ _ ⟨(N1.inv.kept (t':=_) keep),N1.rel,N1.st⟩ .refl ⟨.int _,⟨_,rfl⟩,rfl⟩
       ·exact Zf K1
     |_=>exact Zf K1
   |_=>exact Zf K1
end
section
variable{α β:Type}{h h1:IH}{σ:ISt}
theorem Ju2(v:IV)(σ:ISt):Ja 0 (Za v::σ) h=.ok v h:=rfl
theorem Jy5(n:Nat)(x:Tb)(σ:ISt):Ja (n+1) (x::σ) h=Ja n σ h:=rfl
end
def MulS(x:Str)(n:Int):Bool:=decide (x.length<=1000/\ -1000<=n/\n<=1000)
theorem MulS.ok(h:MulS x n=Zh):MulOk x n:=by
 simp only[MulS,decide_eq_true_eq]at h
 obtain⟨h1,h2,h3⟩:=h
 refine⟨?_,λhn _=>?_,λhn _=>?_⟩
 ·simp only[Zda,decide_eq_false_iff_not]
  omega
 ·have e:(1000:Int)<=(2^63-1)/n:=by
   rw[Zec 00]
   have:(1000:Int)*n<=1000*1000:=ZaO h3 01
   omega
  omega
 ·have:x.length*n.toNat<=1000*1000:=Nat.mul_le_mul h1 00
  have hb:1000000<sizeLine:=01
  unfold Builtin.Str.tooLong
  simp only[decide_eq_false_iff_not]
  omega
theorem J0b:OpR X (ZaS .Mult) (λx y H Q=>∃i j,x=.str i/\y=.int j/\MulS i j=Zh/\Q (.str<|Txt.mul i j) H):=by
 intro pj s σ H x y v u Q I rx ry h
 obtain⟨i,j,rfl,rfl,hz,q⟩:=h
 obtain⟨t,rfl⟩:=rx
 obtain⟨t',rfl⟩:=ry
 exact SB.mul (MulS.ok hz) λt' tk=>⟨.str<|Txt.mul i j,H,I.tok _,⟨_,rfl⟩,q⟩
def Qt(x y:IV)(h:IH):Res IV:=match x with
 |.str i=>(match y with
  |.int j=>if MulS i j then .ok (.str<|Txt.mul i j) h else .stuck
  |_=>.stuck)
 |x=>XM x y h
section
variable{ce:CeT}{X:Cx}
theorem J3d:OpI ce X (ZaS .Mult) Qt:=by
 intro pj s σ H ι σi h x y v u Q E N rx ry K
 cases x with
 |str i=>
  obtain⟨xv,rx,qx⟩:=rx
  obtain⟨yv,ry,qy⟩:=ry
  cases y with
  |int j=>
   have e1:xv=.str i:=qx
   have e2:yv=.int j:=qy
   subst e1 e2
   dsimp only[Qt]at K
   split at K
   ·rename_i hz
    exact Qg (J0b (X:=X.wish E)) N.inv rx ry ⟨i,j,rfl,rfl,hz,fin0 N K rfl⟩
   ·exact Zf K
  |_=>exact Zf K
 |_=>exact J5u pj s σ H ι σi h _ y v u Q E N rx ry K
end
noncomputable def valI (kvs:Wm)(k:Key):Tb:=(kvs.find? λkv=>decide (kv.1=k)).map (·.2)
theorem QX{p:Key×IV}(e:p.1=k):valI (p::r) k=Za p.2:=by simp[valI,ZbU,e]
theorem QI{p:Key×IV}(e:¬p.1=k):valI (p::r) k=valI r k:=by simp[valI,ZbU,e]
theorem RPs.get{K:W.Frag}{ι:Tp}{H:Hp}(k:Key):∀{xs:Wm}{vs:Wp},RPs K ι H xs vs->(valI xs k=Zc/\valV vs k=Zc)∨∃v w,valI xs k=Za v/\valV vs k=Za w/\RV K ι H v w
 |[],_,h=>by
  have e:_=[]:=h
  subst e
  exact .inl ⟨rfl,rfl⟩
 |x::xs,_,h=>by
  obtain⟨v,r,rfl,q,t⟩:=h
  by_cases e:x.1=k
  ·exact .inr ⟨x.2,v,QX e,Jku e,q⟩
  ·rw[QI e,Jkt e]
   exact RPs.get k t
theorem RPs.snoc{K:W.Frag}{ι:Tp}{H:Hp}{k:Key}{v:IV}{w:V}(q:RV K ι H v w):∀{xs:Wm}{vs:Wp},RPs K ι H xs vs->RPs K ι H (xs++[(k,v)]) (vs++[(k,w)])
 |[],_,h=>by
  have e:_=[]:=h
  subst e
  exact⟨w,[],rfl,q,rfl⟩
 |x::xs,_,h=>by
  obtain⟨v',r,rfl,q',t⟩:=h
  exact⟨v',r++[(k,w)],rfl,q',RPs.snoc q t⟩
theorem Jo0{vs:Wp}{k:Key}{w:V}(e:valV vs k=Zc):putK vs k w=vs++[(k,w)]:=by
 unfold putK
 rw[if_neg]
 rw[Jpi,e]
 exact Zu
section
variable{ce:CeT}{X:Cx}
def X9:E1:=λ_ h=>.ok (.ref h.length)<|h++[.dct []]
theorem J2i:PEi ce X (.Dict [] [] pos) X9:=λpj s σ H ι σi h Q E N K=>by
 have hn:=N.inv.hok.fresh<|Zm s.heap.objs.size
 have I1:=N.inv.laid (a:=s.heap.objs.size) (o:=.dK []) (h':=s.heap.push {cls:=.type "dict",data:=.dict #[]}) (t':=s.toks) (λ_ _ q=>Zj _ q) (Zm _)<|Jux s.heap N.inv.big
 obtain⟨R1,n1⟩:=N.rel.alloc (o:=.dK []) (io:=.dct []) hn ⟨[],JH,rfl⟩
 have N1:Now ce X pj (ι++[s.heap.objs.size]) σi (h++[.dct []]) σ (upd H s.heap.objs.size<|.dK []) _:=⟨I1,R1,N.st.mono n1⟩
 have h0:(ι++[s.heap.objs.size])[h.length]?=Za s.heap.objs.size:=by rw[<-N.rel.len,Z8<|Zm _];simp
 exact wpAny_Dict_empty<|K _ _ _ (ι++[s.heap.objs.size]) N1 n1 ⟨.ref _,rfl,_,rfl,h0⟩
def VY:IV->Tq->IH->Res IV
 |.ref i,[y,v],h=>match h[i]? with
  |some (.dct kvs)=>(match keyI y with
   |some k=>(match valI kvs k with
    |some w=>.ok w h
    |none=>if kvs.length<sizeLine then .ok v (h.set i<|.dct<|kvs++[(k,v)])else .stuck)
   |none=>.stuck)
  |_=>.stuck
 |_,_,_=>.stuck
theorem Jvy:MtI ce X "dict" "dict.setdefault" VY:=by
 intro pj s σ H ι σi h x xs v us Q E N rx rs K
 obtain⟨xv,rx,qx⟩:=rx
 obtain⟨vs,rv,qs⟩:=rs
 cases x with
 |ref i=>
  match xs,K with
  |[y,y2],K=>
   obtain⟨a,rfl,ha⟩:=qx
   obtain⟨w,w2,rfl,qw,qw2⟩:=qs.two_of
   dsimp only[VY]at K
   cases hi:h[i]? with
   |none=>rw[hi]at K;exact Zf K
   |some ob=>
    rw[hi]at K
    cases ob with
    |dct kvs=>
     dsimp only at K
     cases ek:keyI y with
     |none=>rw[ek]at K;exact Zf K
     |some k=>
      rw[ek]at K
      dsimp only at K
      obtain⟨ws,e1,r1⟩:=N.at hi ha
      cases Jgw ek qw
      cases rv with
      |@cons _ _ _ _ ru t=>
      cases t with
      |@cons _ u2 _ _ ru2 t=>
      cases t
      cases (show v=.ref a from rx)
      obtain⟨z,hd,ps,rel,dd⟩:=Juy N.inv.hok e1
      have hz:ps.length<=sizeLine:=by rw[<-rel.length];exact z
      refine call_meetsIn Zdh dd.typeIs PySem.F.entry_dict_setdefault (PySem.F.args_dict_setdefault_3 _ _ _) (kt_meets_setdefault (Vz X.prog X.w) a (Jvq ru) hd u2) ⟨ps,dd,hz,λv' hv=>?_,λhn h' dd' hs=>?_⟩
      ·rcases r1.get k with⟨p,q⟩|⟨v1,w1,p,q,r⟩
       ·have rr:=rel.val k
        rw[q]at rr
        rw[RelO.none_of rr]at hv
        cases hv
       ·rw[p]at K
        have rr:=rel.val k
        rw[q,hv]at rr
        exact fin0 (w:=w1) N K r _ _ (N.inv.tok _) rr
      ·rcases r1.get k with⟨p,q⟩|⟨v1,w1,p,q,r⟩
       ·rw[p]at K
        dsimp only at K
        split at K
        ·rename_i hl
         have he:∃q,h'.get? a=Za q:=let ⟨q,_,_,hq,_⟩:=dd';⟨q,hq⟩
         have hlen:(putK ws k w2).length<=sizeLine:=by rw[Jo0 q,Zs,r1.length];exact hl
         have I4:=Jrt (t':=s.toks+1) N.inv (by rw[e1];exact Zar) hs he<|Jxh hlen hd (rel.put k ru2) dd'
         have n:Nxt ι H ι (upd H a<|.dK<|putK ws k w2):=⟨⟨[],03⟩,Ext.upd_mut e1<|by rw[e1];exact Zar⟩
         obtain⟨R4,_⟩:=N.rel.write (o:=.dK<|putK ws k w2) (io:=.dct<|kvs++[(k,y2)]) ha e1 (by rw[e1];exact Zar) ⟨_,JH,(congrArg (λP=>RPs X.K ι (upd H a<|.dK<|putK ws k w2) (kvs++[(k,y2)]) P)<|Jo0 q).mpr<|RPs.mono n _ _<|r1.snoc qw2⟩
         exact K _ _ _ ι ⟨I4,R4,N.st.mono n⟩ n ⟨w2,ru2,RV.mono n _ _ qw2⟩
        ·exact Zf K
       ·have rr:=rel.val k
        rw[q,hn]at rr
        exact Zf rr
    |_=>exact Zf K
  |[],K=>exact Zf K
  |[_],K=>exact Zf K
  |_::_::_::_,K=>exact Zf K
 |_=>cases xs<;>exact Zf K
end
noncomputable def putD (kvs:Wm)(k:Key)(v:IV):Wm:=
 if (kvs.any λkv=>decide (kv.1=k))=Zh then kvs.map (λkv=>if kv.1=k then(kv.1,v)else kv)else kvs++[(k,v)]
theorem RPs.any{K:W.Frag}{ι:Tp}{H:Hp}(k:Key):∀{xs:Wm}{vs:Wp},RPs K ι H xs vs->(xs.any λkv=>decide (kv.1=k))=vs.any λkv=>decide (kv.1=k)
 |[],_,h=>by
  have e:_=[]:=h
  subst e
  rfl
 |x::xs,_,h=>by
  obtain⟨v,r,rfl,q,t⟩:=h
  rw[ZbF,ZbF,RPs.any k t]
theorem RPs.upd{K:W.Frag}{ι:Tp}{H:Hp}{k:Key}{v:IV}{w:V}(q:RV K ι H v w):∀{xs:Wm}{vs:Wp},RPs K ι H xs vs->RPs K ι H (xs.map λkv=>if kv.1=k then(kv.1,v)else kv) (vs.map λkv=>if kv.1=k then(kv.1,w)else kv)
 |[],_,h=>by
  have e:_=[]:=h
  subst e
  exact rfl
 |x::xs,_,h=>by
  obtain⟨v',r,rfl,q',t⟩:=h
  rw[Z1,Z1]
  by_cases e:x.1=k
  ·rw[if_pos e,if_pos e]
   exact⟨w,_,rfl,q,RPs.upd q t⟩
  ·rw[if_neg e,if_neg e]
   exact⟨v',_,rfl,q',RPs.upd q t⟩
theorem RPs.putKK{K:W.Frag}{ι:Tp}{H:Hp}{k:Key}{v:IV}{w:V}{xs:Wm}{vs:Wp}(q:RV K ι H v w)(r:RPs K ι H xs vs):RPs K ι H (putD xs k v) (putK vs k w):=by
 unfold putD putK
 rw[r.any k]
 split
 ·exact r.upd q
 ·exact r.snoc q
section
variable{ce:CeT}{X:Cx}
def Vi(x y:IV)(h:IH):Res IV:=match x with
 |.ref i=>(match h[i]? with
  |some (.dct kvs)=>(match keyI y with
   |some k=>(match valI kvs k with
    |some v=>.ok v h
    |none=>.stuck)
   |none=>.stuck)
  |_=>.stuck)
 |_=>.stuck
theorem J6r:IxI ce X Vi:=by
 intro value slice pj s σ H ι σi h x y v u Q E N rx ry K hs
 obtain⟨xv,rx,qx⟩:=rx
 obtain⟨yv,ry,qy⟩:=ry
 cases x with
 |ref i=>
  obtain⟨a,e1,ha⟩:=qx
  subst e1
  dsimp only[Vi]at K
  cases hi:h[i]? with
  |none=>rw[hi]at K;exact Zf K
  |some ob=>
   rw[hi]at K
   cases ob with
   |dct kvs=>
    dsimp only at K
    cases ek:keyI y with
    |none=>rw[ek]at K;exact Zf K
    |some k=>
     rw[ek]at K
     dsimp only at K
     obtain⟨ws,e1,r1⟩:=N.at hi ha
     cases Jgw ek qy
     cases (show v=.ref a from rx)
     obtain⟨z,hd,ps,rel,dd⟩:=Juy N.inv.hok e1
     rcases r1.get k with⟨p,q⟩|⟨v1,w1,p,q,r⟩
     ·rw[p]at K;exact Zf K
     ·rw[p]at K
      have rr:=rel.val k
      rw[q]at rr
      obtain⟨w',hw,rw'⟩:=RelO.some_of rr
      exact Zc8 (x:=w') dd.typeIs PySem.F.slot_dict_getitem.lookup (wpAny_getItem_of (Q:=λr s'=>r=w'/\Q r s') (Jvq ry) dd.mapOf hw ⟨rfl,fin0 N K r _ _ (N.inv.tok _) rw'⟩) hs
   |_=>exact Zf K
 |_=>exact Zf K
noncomputable def cInD (x c:IV)(h:IH):Res IV:=match c with
 |.ref i=>(match h[i]? with
  |some (.dct kvs)=>(match keyI x with
   |some k=>.ok (.bl (valI kvs k).isSome) h
   |none=>.stuck)
  |_=>.stuck)
 |_=>.stuck
theorem J5s:OpI ce X (Zas .In) cInD:=by
 intro pj s σ H ι σi h x y v u Q E N rx ry K
 obtain⟨xv,rx,qx⟩:=rx
 obtain⟨yv,ry,qy⟩:=ry
 cases y with
 |ref i=>
  obtain⟨a,e1,ha⟩:=qy
  subst e1
  dsimp only[cInD]at K
  cases hi:h[i]? with
  |none=>rw[hi]at K;exact Zf K
  |some ob=>
   rw[hi]at K
   cases ob with
   |dct kvs=>
    dsimp only at K
    cases ek:keyI x with
    |none=>rw[ek]at K;exact Zf K
    |some k=>
     rw[ek]at K
     dsimp only at K
     obtain⟨ws,e1,r1⟩:=N.at hi ha
     cases Jgw ek qx
     cases (show u=.ref a from ry)
     obtain⟨z,hd,ps,rel,dd⟩:=Juy N.inv.hok e1
     refine wpAny_in_of (Jvq rx) hd dd.mapOf ?_
     rw[<-(rel.val k).isSome_eq]
     have es:(valV ws k).isSome=(valI kvs k).isSome:=by
      rcases r1.get k with⟨p,q⟩|⟨v1,w1,p,q,r⟩<;>rw[p,q]<;>rfl
     rw[es]
     exact fin0 N K rfl _ _ (N.inv.tok _) rfl
   |_=>exact Zf K
 |_=>exact Zf K
def YI:IV->IV->IV->ISt->IH->SRes
 |.ref i,iv,v,σ,h=>match h[i]? with
  |some (.dct kvs)=>(match keyI iv with
   |some k=>if kvs.length<sizeLine then .next σ (h.set i<|.dct<|putD kvs k v)else .stuck
   |none=>.stuck)
  |_=>.stuck
 |_,_,_,_,_=>.stuck
def gSbD(o i:E1):G1:=λv σ h=>rS σ (o σ h) λov h1=>rS σ (i σ h1) λiv h2=>YI ov iv v σ h2
theorem J2a{oe ie:Expr}{mo mi:E1}{pos:Pos}(ho:PEi ce X oe mo)(hi:PEi ce X ie mi)
  (ha:∀v,ZdZ (.Subscript oe ie pos) X.env v=(do
   let ov<-Zcg [v] (ZaY oe X.env)
   let iv<-Zcg [v,ov] (ZaY ie X.env)
   ZeL pos
   Zcg [v,ov,iv] (setItem ov iv v)
   release [v,ov,iv] [])):PGi ce X (.Subscript oe ie pos) (gSbD mo mi):=by
 intro pj s σ H ι σi h v u Q E N r K
 rw[ha]
 refine Zd<|Zaj<|krun ho N K λov h1 ou s1 H1 ι1 N1 n1 r1 K1=>?_
 refine Zd<|Zaj<|krun hi N1 K1 λiv h2 iu s2 H2 ι2 N2 n2 r2 K2=>?_
 have r':RU X.K ι2 H2 v u:=(r.mono n1).mono n2
 obtain⟨ox,ro,qo⟩:=r1.mono n2
 obtain⟨ix,ri,qi⟩:=r2
 obtain⟨vx,rvx,qv⟩:=r'
 refine Zd<|Zbj<|Zd<|Zaj ?_
 cases ov with
 |ref i=>
  obtain⟨a,rfl,haa⟩:=qo
  dsimp only[YI]at K2
  cases hh:h2[i]? with
  |none=>rw[hh]at K2;exact Zf K2
  |some ob=>
   rw[hh]at K2
   cases ob with
   |dct kvs=>
    dsimp only at K2
    cases ek:keyI iv with
    |none=>rw[ek]at K2;exact Zf K2
    |some k=>
     rw[ek]at K2
     dsimp only at K2
     split at K2
     ·rename_i hl
      obtain⟨ws,e1,r1'⟩:=N2.at hh haa
      cases Jgw ek qi
      cases (show ou=.ref a from ro)
      obtain⟨z,hd,ps,rel,dd⟩:=Juy N2.inv.hok e1
      have hz:ps.length<=sizeLine:=by rw[<-rel.length];exact z
      have hlen:(putK ws k vx).length<=sizeLine:=by
       have h1:=Jno ws k vx
       have h2:=r1'.length
       omega
      refine wpAny_setItem_pairs (hsz:=hz) (Jvq ri) dd λh' dd' hs=>?_
      have he:∃q,h'.get? a=Za q:=let ⟨q,_,_,hq,_⟩:=dd';⟨q,hq⟩
      have I4:=Jrt (t':=s2.toks+1) N2.inv (by rw[e1];exact Zar) hs he<|Jxh hlen hd (rel.put k rvx) dd'
      have n:Nxt ι2 H2 ι2 (upd H2 a<|.dK<|putK ws k vx):=⟨⟨[],03⟩,Ext.upd_mut e1<|by rw[e1];exact Zar⟩
      obtain⟨R3,_⟩:=N2.rel.write (o:=.dK<|putK ws k vx) (io:=.dct<|putD kvs k v) haa e1 (by rw[e1];exact Zar) ⟨_,JH,RPs.putKK (RV.mono n _ _ qv)<|RPs.mono n _ _ r1'⟩
      exact wpAny_release<|K2 _ σ _ ι2 ⟨I4,R3,N2.st.mono n⟩ n
     ·exact Zf K2
   |_=>exact Zf K2
 |_=>exact Zf K2
end
def leZ(a b:Int):Bool:=decide (a<=b)
def Vn(ns:Tk):Tk:=ns.mergeSort leZ
theorem Jo9(ns:Tk):(Vn ns).Pairwise (· <= ·):=by
 have:=List.pairwise_mergeSort (le:=leZ) (λa b c h1 h2=>by simp only[leZ,decide_eq_true_eq]at *;omega) (λa b=>by simp only[leZ,Za4,decide_eq_true_eq];omega) ns
 exact this.imp λh=>by simpa[leZ]using h
theorem Jwq{ns ns':Tk}(p:ns'.Perm ns)(s:ns'.Pairwise (· <= ·)):ns'=Vn ns:=
 List.Perm.eq_of_pairwise (le:=(· <= ·)) (λa b _ _ h1 h2=>Int.le_antisymm h1 h2) s (Jo9 ns) (p.trans (List.mergeSort_perm ns leZ).symm)
theorem Yf:∀{us:To}{ns:Tk},Zb4 us ns->Vals (ns.map V.int) us
 |_,_,.nil=>.nil
 |_,_,.cons _ _ r=>.cons ⟨_,rfl⟩<|Yf r
theorem Jke{K:W.Frag}{ι:Tp}{H:Hp}:∀ns:Tk,RVs K ι H (ns.map IV.int) (ns.map V.int)
 |[]=>rfl
 |_::ns=>⟨_,_,rfl,rfl,Jke ns⟩
def srtI(xs:Tq):Option (Tq):=match JI xs with
 |some ns=>Za<|(Vn ns).map .int
 |none=>Zc
section
variable{ce:CeT}{X:Cx}
def Yb:IV->IH->Res IV
 |.ref i,h=>match h[i]? with
  |some (.lst xs)=>if xs.length<64 then(match srtI xs with
   |some ys=>.ok (.ref h.length)<|h++[.lst ys]
   |none=>.stuck)else .stuck
  |_=>.stuck
 |_,_=>.stuck
theorem Jut:Qh ce X (.builtin "sorted") (on1 Yb):=Vw λpj s σ H ι σi h x xv u Q E N ru qx K=>by
 cases x with
 |ref i=>
  obtain⟨a,e1,ha⟩:=qx
  subst e1
  cases ru
  dsimp only[Yb]at K
  cases hi:h[i]? with
  |none=>rw[hi]at K;exact Zf K
  |some ob=>
   rw[hi]at K
   cases ob with
   |lst xs=>
    dsimp only at K
    split at K
    ·rename_i h64
     obtain⟨vs,e1,r1⟩:=N.at hi ha
     obtain⟨its,rv,pl,hz⟩:=N.inv.list<|SqL.of e1
     have li:its.length=xs.length:=by rw[<-rv.length,r1.length]
     have hb:64<=sizeLine:=01
     have fresh:H (s.heap.objs.size+1)=Zc:=N.inv.hok.fresh<|ZaU _
     unfold srtI at K
     cases ei:JI xs with
     |some ns=>
      rw[ei]at K
      have are:=Vd ei r1 rv
      have ln:=Xk are
      refine sorted_ints pl.isList are 00 λout ns' hI hp hs=>?_
      have en:=Jwq hp hs
      subst en
      obtain⟨e,he⟩:=sortedAll_at s.heap its out
      have hl:((Vn ns).map V.int).length<=sizeLine:=by rw[Zg,hp.length_eq];omega
      have I':=N.inv.laid (a:=s.heap.objs.size+1) (o:=.lst<|(Vn ns).map V.int) (h':=sortedAll s.heap its out) (t':=s.toks) (λ_ _=>sortedAll_old) (ZaU _) ⟨hl,out.toList,e,Yf hI,he⟩
      exact finA N K (s.heap.objs.size+1) fresh ⟨_,JH,Jke _⟩ _ _ I' rfl
     |none=>
      rw[ei]at K
      exact Zf K
    ·exact Zf K
   |_=>exact Zf K
 |_=>exact Zf K
end
def QE(f:Nat->Int):Nat->Int
 |0=>0
 |1=>f 0
 |j+2=>if f (j+1)<QE f (j+1)then f (j+1)else QE f (j+1)
theorem Jf0(f:Nat->Int)(hj:0<j):QE f (j+1)=if f j<QE f j then f j else QE f j:=by
 cases j with
 |zero=>omega
 |succ j=>rfl
theorem Jol(f:Nat->Int):∀k,QE f (k+1)=f (Ze3 (λi j=>decide (f i<f j)) k)
 |0=>rfl
 |k+1=>by
  rw[Jf0 f<|Nat.succ_pos k,Jol f k]
  show _=f (if decide (f (k+1)<f (Ze3 _ k))=Zh then k+1 else Ze3 _ k)
  simp only[decide_eq_true_eq]
  split<;>rfl
section
variable{pr:ZB}{wd:ZV}{B:ZN}{E:QvT}{z:Zn}{l:Zq}{us:To}{ns:Tk}{Q:QvT}
theorem Jz1(hh:B.handled=Zc)(hl:z.heap.IsList l us.toArray)(hi:Zb4 us ns)(hne:ns≠[])
  (hQ:∀v h2 tk,(∃u,v=.int (QE (λi=>ns.getD i 0) ns.length) u)->(∀b o,z.heap.get? b=Za o->h2.get? b=Za o)->Q v {z with heap:=h2,toks:=tk}):
  Z0 (Z9 pr wd) B (call (.builtin "min") [.ref l]) Q E z:=by
 obtain⟨ol,hol,_⟩:=id hl
 have lt:l<z.heap.objs.size:=Z3 hol
 have ll:=Xk hi
 have pos:0<ns.length:=List.length_pos_iff.mpr hne
 have sz:us.toArray.size=us.length:=Zt ..
 have hf:∀(i:Nat)(v:Ze),us.toArray[i]?=Za v->∃t,v=.int ((λi=>ns.getD i 0) i) t:=λi v q=>Zd0 hi i v<|by simpa using q
 refine call_min_walk (Zba hl ⟨_,[_,l],[_],_,_,_,_,rfl,ZcR (A:=B.in1) hh _ l (Z7 lt) us.toArray,⟨⟨_,Z2 _ rfl,rfl,rfl⟩,hl.push _⟩,λb hb=>?_,by rw[sz];omega,CmpOf.ints_lt (λi=>ns.getD i 0) hf,λv h' tk hP hk=>?_⟩)
 ·show b<(z.heap.push _).objs.size
  rw[Zdz]
  rcases Z6.mp hb with rfl|hb
  ·exact Zaz _
  ·cases Zx.mp hb
   exact ZbA lt
 ·obtain⟨u,rfl⟩:=hf _ _ hP
  have e:us.toArray.size-1+1=ns.length:=by rw[sz];omega
  refine hQ _ h' tk ⟨u,?_⟩ λb o e=>hk b o (λq=>Z7 (Z3 e)<|Zx.mp q)<|Zj _ e
  rw[<-e,Jol]
end
section
variable{ce:CeT}{X:Cx}
def Xn:IV->IH->Res IV
 |.ref i,h=>match h[i]? with
  |some (.lst xs)=>(match JI xs with
   |some ns=>if ns=[]then .stuck else .ok (.int<|QE (λi=>ns.getD i 0) ns.length) h
   |none=>.stuck)
  |_=>.stuck
 |_,_=>.stuck
theorem J11(hh:X.A.handled=Zc):Qh ce X (.builtin "min") (on1 Xn):=Vw λpj s σ H ι σi h x xv u Q E N ru qx K=>by
 cases x with
 |ref i=>
  obtain⟨a,e1,ha⟩:=qx
  subst e1
  cases ru
  dsimp only[Xn]at K
  cases hi:h[i]? with
  |none=>rw[hi]at K;exact Zf K
  |some ob=>
   rw[hi]at K
   cases ob with
   |lst xs=>
    dsimp only at K
    cases hb:JI xs with
    |none=>rw[hb]at K;exact Zf K
    |some ns=>
     rw[hb]at K
     dsimp only at K
     split at K
     ·exact Zf K
     ·rename_i hne
      obtain⟨vs,e1,r1⟩:=N.at hi ha
      obtain⟨its,rv,pl,hz⟩:=N.inv.list<|SqL.of e1
      refine Jz1 hh pl.isList (Vd hb r1 rv) hne λv h2 tk ⟨t,ev⟩ kk=>?_
      subst ev
      exact fin0 N K rfl _ _ (N.inv.kept (t':=tk) kk) ⟨t,rfl⟩
   |_=>exact Zf K
 |_=>exact Zf K
end
theorem RVs.erase{K:W.Frag}{ι:Tp}{H:Hp}:∀{xs:Tq}{vs:Tu}(k:Nat),RVs K ι H xs vs->RVs K ι H (xs.eraseIdx k) (vs.eraseIdx k)
 |[],vs,k,h=>by
  cases (show vs=[]from h)
  exact rfl
 |_::_,_,0,h=>by
  obtain⟨v,r,rfl,q,t⟩:=h
  exact t
 |_::_,_,k+1,h=>by
  obtain⟨v,r,rfl,q,t⟩:=h
  exact⟨v,r.eraseIdx k,rfl,q,RVs.erase k t⟩
section
variable{ce:CeT}{X:Cx}
noncomputable def XC:IV->Tq->IH->Res IV
 |.ref i,[.ref j],h=>match h[i]? with
  |some (.lst xs)=>(match h[j]? with
   |some (.lst ys)=>if xs.length+ys.length<=sizeLine then .ok .non (h.set i<|.lst<|xs++ys)else .stuck
   |_=>.stuck)
  |_=>.stuck
 |_,_,_=>.stuck
theorem Jvw:MtI ce X "list" "list.extend" XC:=by
 intro pj s σ H ι σi h x xs v us Q E N rx rs K
 obtain⟨xv,rx,qx⟩:=rx
 obtain⟨vs,rv,qs⟩:=rs
 cases x with
 |ref i=>
  match xs,K with
  |[y],K=>
   cases y with
   |ref j=>
    obtain⟨a,rfl,ha⟩:=qx
    obtain⟨w,rfl,b,rfl,hb⟩:=qs.one_of
    dsimp only[XC]at K
    cases hi:h[i]? with
    |none=>rw[hi]at K;exact Zf K
    |some ob=>
     rw[hi]at K
     cases ob with
     |lst zs=>
      dsimp only at K
      cases hj:h[j]? with
      |none=>rw[hj]at K;exact Zf K
      |some oj=>
       rw[hj]at K
       cases oj with
       |lst ys=>
        dsimp only at K
        split at K
        ·rename_i hl
         obtain⟨ws,e1,r1⟩:=N.at hi ha
         obtain⟨ws2,e2,r2⟩:=N.at hj hb
         exact Jpg (Js3 (X:=X.wish E)) N.inv rx rv ⟨a,b,ws,ws2,rfl,rfl,e1,e2,by rw[r1.length,r2.length];exact hl,finW (ys:=zs++ys) N K ha e1 (r1.append r2) rfl⟩
        ·exact Zf K
       |_=>exact Zf K
     |_=>exact Zf K
   |_=>exact Zf K
  |[],K=>exact Zf K
  |y::_::_,K=>cases y<;>exact Zf K
 |_=>cases xs with
  |nil=>exact Zf K
  |cons y r=>cases y<;>cases r<;>exact Zf K
def isK(k:Int):Ze->Bool
 |.int a _=>a==k
 |_=>Zk
theorem Jse:∀(us:To)(ns:Tk),us.length=ns.length->(∀i v,us[i]?=Za v->∃t:Tok,v=Zcx (ns.getD i 0) t)->Zb4 us ns
 |[],[],_,_=>.nil
 |u::us,n::ns,hl,h=>by
  obtain⟨t,e⟩:=h 0 u rfl
  cases (show u=.int n t from e)
  exact .cons n t (Jse us ns (by simpa using hl) λi v q=>h (i+1) v q)
 |[],_::_,hl,_=>by cases hl
 |_::_,[],hl,_=>by cases hl
theorem XS(j:Int):rngI 0 j=((ZM j.toNat).map λk=>((k:Nat):Int)).map IV.int:=by
 simp[rngI]
end
section
variable{prog:ZB}{w:ZV}{A:ZN}{E:QvT}{s:Zn}
end
open AutoSeq1 (wpAny_loadPart') in
section
variable{prog:ZB}{w:ZV}{A:ZN}{E:QvT}{s:Zn}
end
section
variable{ce:CeT}{X:Cx}
end
noncomputable def QT (a:ZbY):Option Str:=match a with
 | {posonlyargs:=[],args:=[p],vararg:=Zc,kwonlyargs:=[],kw_defaults:=[],kwarg:=Zc,defaults:=[]}=>Za p.arg
 |_=>Zc
noncomputable abbrev lamQ (q:Str):Str:=q++".<locals>."++"<lambda>"
abbrev lamO(q:Str)(params:ZbY)(body:Expr)(scope:Zbg)(cl:Wn)(pm ctv:Ze)(c:Zq):Obj:=W.kla_obj "<lambda>" (lamQ q) params body scope cl pm c ctv
def QB(mg:Str->Wx)(base:Zax):Prop:=
 ∃bm ob,mg "__builtins__"=Za (.ref bm)/\bm≠Zcu/\bm≠Z5/\base.get? bm=Za ob/\ob.cls=.type "module"/\ob.dict=Za Zcu/\ob.data=.plain
theorem QL.rec(l:QL H q cv)(hok:HOk P w H h):h.CodeRec cv (lamQ q):=by
 obtain⟨c,oc,vs,t,e1,e2,e3,e4⟩:=l
 exact⟨c,oc,vs,t,e1,(hok c _ e2).1,e3,e4⟩
theorem QL.mono(fz:∀b o u,H b=Za (.frz o u)->H' b=Za (.frz o u))(l:QL H q cv):QL H' q cv:=by
 obtain⟨c,oc,vs,t,e1,e2,r⟩:=l
 exact⟨c,oc,vs,t,e1,fz _ _ _ e2,r⟩
theorem Ji1:∀(l:To),TriplesOk l->ZdJ pos (l++[ZeO a,ZeO b,c])=Za cv->ZdJ pos l=Za cv∨cv=c
 |[],_,e=>by
  simp only[Zaw,ZeO,ZdJ]at e
  split at e
  ·cases e;exact .inr rfl
  ·cases e
 |.int x t::.int y u::z::rest,h,e=>by
  simp only[Zaf,ZdJ]at e ⊢
  split at e
  ·rename_i hh
   rw[if_pos hh]
   exact .inl e
  ·rename_i hh
   rw[if_neg hh]
   exact Ji1 rest h e
 |[.int _ _],h,_=>(show False from h).elim
 |[.int _ _,.int _ _],h,_=>(show False from h).elim
section
variable{ce:CeT}{X:Cx}
theorem Now.pinO{pj:PnT}{ι:Tp}{σi:ISt}{h:IH}{σ:L2.St}{H:Hp}{s:Zn}{f:Zq}{fo:Obj}(N:Now ce X pj ι σi h σ H s)(e:s.heap.get? f=Za fo)(F:FpOk X pj H f)(d:∀v,fo.data≠.cell v):Now ce X (pj++[(f,fo)]) ι σi h σ H s:=by
 have I:=N.inv.pinned (fp:=[f]) (λb hb=>by rw[Zx.mp hb];exact F) (λb hb=>by rw[Zx.mp hb];exact⟨fo,e,d⟩)
 have ep:Vj [f] s.heap=[(f,fo)]:=by simp[Vj,e]
 rw[ep]at I
 exact⟨I,N.rel,N.st⟩
theorem Jka{q:Str}{j:Nat}{params:ZbY}{body:Expr}{scope:Zbg}{pos:Pos}{cl:Wn}{pj:PnT}{s:Zn}{σ:L2.St}{H:Hp}{ι:Tp}{σi:ISt}{h:IH}{Q E:QvT}
  (N:Now ce X pj ι σi h σ H s)(hj:h[j]?=Za (.tab q))(hcd:W.codeIn X.K X.env.code q=Zh)(hq:X.env.qual=q++".<locals>.")(hdef:defaultsOf params X.env=([],[]))(hcl:ZcQ scope X.env=pure cl)(B:QB X.mg X.base)
  (K:∀f c pm ctv s' H',Now ce X (pj++[(f,lamO q params body scope cl pm ctv c)]) ι σi h σ H' s'->Nxt ι H ι H'->QL H' q (.ref c)->Q (.ref f) s'):
  Z0 (Z9 X.prog X.w) X.A (ZaY (.Lambda params body scope pos) X.env) Q E s:=by
 obtain⟨a,ha,hc,ps,hP,ht,hcodes⟩:=N.rel.at_ j _ hj
 obtain⟨c,ec,hhd⟩:=hc _ hcd
 have I:=N.inv
 have C:=W.codeHd_of_K I.kIn hhd
 have gP:s.heap.get? a=Za (W.tabObj ps):=I.hok a _ hP
 have hg:s.heap.Ns Z5 X.mg:=I.ok.mod.glob.keeps I.bk
 obtain⟨bm,ob,b1,b2,b3,b4,b5,b6,b7⟩:=B
 have gb:=I.bs bm ob b4
 have nba:bm≠a:=λz=>by rw[z,hP]at gb;cases gb.2
 have hb:s.heap.BuiltinsAt X.mg a:=⟨bm,ob,b1,b2,b3,nba,gb.1,b5,b6,b7⟩
 have nga:Z5≠a:=λz=>by
  obtain⟨o,es,ep,e,d,_⟩:=hg
  rw[z,gP]at e
  cases e
  cases d
 refine W.kla_eval hdef ?_
 rw[hq]
 cases ea:ZdJ pos ps.toList with
 |some cv=>
  have LC:=hcodes pos cv ea
  obtain⟨c',oc,vs,t,ecv,_⟩:=id LC
  subst ecv
  refine W.kla_makeFunctionHit hcl I.ok.glob hg ec C gP ht ea hb λctv h' tk hk hsz=>?_
  have I1:=I.kept (h':=h'.push<|lamO q params body scope cl ((X.mg "__name__").getD .none) ctv c') (t':=tk) λb o e=>Zj _<|hk b o e
  have N1:Now ce X pj ι σi h σ H _:=⟨I1,N.rel,N.st⟩
  exact K h'.objs.size c' _ ctv _ H (N1.pinO (Z2 _ rfl) (I.fpOk hsz<|I.hok.fresh hsz) λv z=>by
   have z':Data.func _=ZeP v:=z
   cases z') .refl LC
 |none=>
  refine W.kla_makeFunction hcl I.ok.glob hg ec C gP ht ea nga hb λc' ctv h' tk hx hge hlt hrec htb=>?_
  obtain⟨c2,oc,vs,t,e2,hoc,hd,hv⟩:=hrec
  cases e2
  generalize hps:ps++#[ZeO pos.line,ZeO pos.col,.ref c']=ps' at htb
  generalize hob:lamO q params body scope cl ((X.mg "__name__").getD .none) ctv c'=fo
  have fc:H c'=Zc:=I.hok.fresh hge
  have nca:c'≠a:=λz=>by rw[z,hP]at fc;cases fc
  have lts:s.heap.objs.size<=h'.objs.size:=ZW hge<|Zcf hlt
  obtain⟨H',hH⟩:∃H',H'=upd (upd H a<|.tbl ps') c' (.frz oc<|.own 0):=⟨_,rfl⟩
  have Ha:H' a=Za (.tbl ps'):=by rw[hH,Jx<|Zab nca,JH]
  have Hc:H' c'=Za (.frz oc<|.own 0):=by rw[hH,JH]
  have Ho:∀b,b≠a->b≠c'->H' b=H b:=λb h1 h2=>by rw[hH,Jx h2,Jx h1]
  have kp:∀b o,b≠a->s.heap.get? b=Za o->(h'.push fo).get? b=Za o:=λb o hb e=>Zj _<|hx b o hb e
  have ga:(h'.push fo).get? a=Za (W.tabObj ps'):=Zj _ htb
  have frz:∀b o u,H b=Za (.frz o u)->H' b=Za (.frz o u):=λb o u e=>by rw[Ho b (λz=>by rw[z,hP]at e;cases e) λz=>by rw[z,fc]at e;cases e];exact e
  have tup:∀b xs,H b=Za (.tup xs)->H' b=Za (.tup xs):=λb xs e=>by rw[Ho b (λz=>by rw[z,hP]at e;cases e) λz=>by rw[z,fc]at e;cases e];exact e
  have own:∀b x,H b=Za (.own x)->H' b=Za (.own x):=λb x e=>by rw[Ho b (λz=>by rw[z,hP]at e;cases e) λz=>by rw[z,fc]at e;cases e];exact e
  have I1:Inv X pj σ H' {s with heap:=h'.push fo,toks:=tk}:=by
   refine I.step (g':=s.gens) (d':=s.drawn) (ch:=[]) (λb hb=>absurd hb 03) (λb o _ _ _ e n=>kp b o (λz=>by rw[z,hP]at n;cases n) e) (λb o _ _ _ e n=>⟨o.slots,kp b o (λz=>by rw[z,hP]at n;cases n) e⟩) (λb o _ e n=>?_) (λb o _ e=>?_) tup frz (λb qs e=>?_) (λm hm=>?_) (λb u e=>?_) I.bare
   ·rw[Ho b (λz=>by rw[z,hP]at n;cases n)<|Z7<|ZH (Z3 e) hge];exact n
   ·by_cases hb:b=a
    ·subst hb;exact⟨_,ga⟩
    ·exact⟨o,kp b o hb e⟩
   ·by_cases hb:b=a
    ·subst hb
     rw[hP]at e
     cases e
     exact⟨_,by rw[Ha,<-hps]⟩
    ·exact⟨#[],by rw[Ho b hb (λz=>by rw[z,fc]at e;cases e),e];simp⟩
   ·obtain⟨o,es,ep,ho,r⟩:=hm
    exact⟨o,es,ep,kp _ o (λz=>by have:=I.free;rw[z,hP]at this;cases this) ho,r⟩
   ·by_cases hb:b=a
    ·subst hb
     rw[Ha]at e
     cases e
     exact ga
    ·by_cases hb2:b=c'
     ·subst hb2
      rw[Hc]at e
      cases e
      exact⟨Zj _ hoc,_,Zj _ hoc⟩
     ·rw[Ho b hb hb2]at e
      refine(I.hok b u e).stay (λd v hd r=>kp d v (λz=>?_) r) (λd z=>own d _ z) tup
      subst z
      rcases hd with z|z
      ·exact hb z.symm
      ·rw[hP]at z;cases z
  have n:Nxt ι H ι H':=⟨⟨[],03⟩,⟨tup,frz⟩⟩
  have LC:QL H' q (.ref c'):=⟨c',oc,vs,t,rfl,Hc,hd,hv⟩
  have R:Rel ce X.K ι h H':=by
   refine⟨N.rel.len,N.rel.nd,λi o e=>?_⟩
   obtain⟨b,eb,ro⟩:=N.rel.at_ i o e
   refine⟨b,eb,?_⟩
   by_cases hb:b=a
   ·subst hb
    have hij:i=j:=N.rel.inj eb ha
    subst hij
    rw[hj]at e
    cases e
    refine⟨hc,ps',Ha,?_,λpos' cv ea'=>?_⟩
    ·rw[<-hps,Array.toList_append]
     exact TriplesOk_snoc _ _ _ _ ht
    ·rw[<-hps,Array.toList_append]at ea'
     rcases Ji1 ps.toList ht ea' with z|z
     ·exact(hcodes pos' cv z).mono frz
     ·rw[z];exact LC
   ·refine ro.mono n λu hu=>?_
    rw[Ho b hb λz=>by rw[z,fc]at hu;cases hu]
    exact hu
  have N1:Now ce X pj ι σi h σ H' _:=⟨I1,R,N.st.mono n⟩
  subst hob
  exact K h'.objs.size c' _ ctv _ H' (N1.pinO (Z2 _ rfl) (I.fpOk lts<|by rw[Ho _ (Zby<|ZH (Z3 gP) lts)<|Zby hlt];exact I.hok.fresh lts) λv z=>by
   have z':Data.func _=ZeP v:=z
   cases z') n LC
end
abbrev envL(q:Str)(scope:Zbg)(L f:Zq)(cd:Ze)(cl:Wn):Env:=newEnv scope L Z5 cl (lamQ q++".<locals>.") (Za f) cd Zc Zcu
def cxL(X:Cx)(A:ZN)(N':Tg)(q:Str)(scope:Zbg)(f:Zq)(cd:Ze)(s:Zn)(H:Hp):Cx:=
 {X with A:=A.deeper<|envL q scope s.heap.objs.size f cd<|clOf X.env.cells scope.names [],N:=N',s₀:=s,H₀:=H,env:=envL q scope s.heap.objs.size f cd<|clOf X.env.cells scope.names [],outer:=X.stack,stack:=envL q scope s.heap.objs.size f cd (clOf X.env.cells scope.names [])::X.stack,ex:=[],calm:=Zh,fn:=λ_=>Zk,pn:=[],xe:=λ_ _=>False}
structure LamSc(N0:Tg)(sc₀:Wg)(x:Str)(caps:Tg)(js:Tl)(scope:Zbg):Prop where
 kind:scope.kind=.function
 co:scope.isCoroutine=Zk
 gen:scope.isGenerator=Zk
 nocell:∀y∈scope.names,y.2≠.cell
 par:scope.names.lookup x=Za .local
 free:∀y∈scope.names,y.2=.free->sc₀.lookup y.1=Za .cell
 fr:∀y,scope.names.lookup y=Za .free->(y,.free)∈scope.names
 cap:∀(k j:Nat)(y:Str),js[k]?=Za j->caps[k]?=Za y->N0[j]?=Za y/\scope.names.lookup y=Za .free
 len:js.length=caps.length
 nd:(x::caps).Nodup
theorem Jur:Zeq (W.kla_fn nm qu {posonlyargs:=[],args:=[p],vararg:=Zc,kwonlyargs:=[],kw_defaults:=[],kwarg:=Zc,defaults:=[]} body scope cl pm cd ctv) ⟨[u],[]⟩=pure [(p.arg,u)]:=by
 have e:(Zb8 p.arg [(p.arg,u)]).isNone=Zk:=03
 unfold Zeq
 simp[Zdr,e]
 rfl
section
variable{ce:CeT}{X:Cx}
theorem Jnn{k:Nat}{A:ZN}{q x:Str}{caps:Tg}{js:Tl}{params:ZbY}{body:Expr}{scope:Zbg}{pm ctv:Ze}{c f:Zq}{m:E1}{v:IV}{u:Ze}{pj:PnT}{s:Zn}{σ:L2.St}{H:Hp}{ι:Tp}{σi:ISt}{h:IH}{Q E:QvT}
  (hA:A.frames=Za X.stack)(hr:Room (k+1) A)(N:Now ce X pj ι σi h σ H s)(hf:s.heap.get? f=Za (lamO q params body scope (clOf X.env.cells scope.names []) pm ctv c))(LC:QL H q<|.ref c)(hx:QT params=Za x)(S:LamSc X.N X.env.scope.names x caps js scope)
  (hb:∀s' H',PEi ce (cxL X A (x::caps) q scope f (.ref c) s' H') body m)(ru:RU X.K ι H v u)(K:Kont ce X RU pj ι σi σ H ((m (Za v::js.map λj=>(σi[j]?).join) h).nx) Q E):
  Z0 (Z9 X.prog X.w) A (call (.ref f) [u]) Q E s:=by
 have I:=N.inv
 have e0:=I.env0
 have lim:s.heap.NoLimit:=e0.mod.nolimit.keeps λb o e=>(e0.bs b o e).1
 refine ZeE<|W.kla_callFunE hr.depth hf rfl S.co S.gen rfl (LC.rec I.hok) ?_
 have hbind:Zeq (W.kla_fn "<lambda>" (lamQ q) params body scope (clOf X.env.cells scope.names []) pm (.ref c) ctv) ⟨[u],[]⟩=pure [(x,u)]:=by
  unfold QT at hx
  split at hx
  ·cases hx
   exact Jur
  ·cases hx
 rw[hbind]
 refine Zv (wpAny_newFunctionEnv S.nocell (λy hy=>by rw[Zx.mp hy];exact S.par) (λh3 hns hsb=>⟨lim.fresh _ hsb,?_⟩) S.kind)
 obtain⟨w,rw',qw⟩:=ru
 have keep:∀b o,s.heap.get? b=Za o->h3.get? b=Za o:=λb o z=>(hsb.2 b<|Z7<|Z3 z).trans<|Zj _ z
 have cells':∀y d,(clOf X.env.cells scope.names []).lookup y=Za d->X.env.cells.lookup y=Za d:=Jjs _ _ (λy d z=>by simp at z)
 have okX:(cxL X A (x::caps) q scope f (.ref c) s H).Ok:=by
  have noA:∀b:Zq,b∉(cxL X A (x::caps) q scope f (.ref c) s H).ex:=λb z=>absurd (show b∈([]:Tp)from z) 03
  refine⟨I.ok.mod,S.kind,rfl,rfl,Zm _,λy y' d a b=>I.ok.inj y y' d (cells' y d a)<|cells' y' d b,λy hy=>?_,λy d z=>absurd (show Zk=Zh from z) Zu,λ_=>hr.hd,Around.frames_deeper hA,.inr ⟨rfl,rfl⟩,λb z=>absurd z<|noA b,e0.bs,e0.bsz,λb _ _=>noA b,λb z=>absurd z<|noA b,e0.funs,e0.frf⟩
  have hy':scope.names.lookup y=Za .cell∨scope.names.lookup y=Za .free:=hy
  rcases hy' with z|z
  ·exact absurd rfl (S.nocell _<|Zah z)
  ·have hm:=Zah z
   obtain⟨d,hd⟩:=I.ok.has y<|.inl<|S.free (y,.free) hm rfl
   exact Zbh.mp<|Yt _ _ y d hm hd
 have I3:Inv (cxL X A (x::caps) q scope f (.ref c) s H) [] (Za w::js.map λj=>(σ[j]?).join) H {s with heap:=h3,toks:=s.toks+[(x,u)].length}:=by
  refine⟨okX,rfl,I.bare,Un.kept keep,⟨_,hns,λi y z a b cc=>?_⟩,λy d z=>?_,I.hok.fresh<|Zm _,λy d z=>I.freeC y d<|cells' y d z,λp hp=>absurd (show p∈([]:PnT)from hp) 03,I.hok.kept keep,by show _=(x::caps).length;simp[S.len]⟩
  ·cases i with
   |zero=>
    have a':Za x=Za y:=a
    cases a'
    have b':Za (Za w)=Za (Za z):=b
    cases b'
    exact⟨u,rw',.inl ⟨S.par,03⟩⟩
   |succ i=>
    have a':caps[i]?=Za y:=a
    have b':(js.map λj=>(σ[j]?).join)[i]?=Za (Za z):=b
    rw[Z4]at b'
    cases ej:js[i]? with
    |none=>rw[ej]at b';cases b'
    |some j=>
     rw[ej]at b'
     have b2:(σ[j]?).join=Za z:=Zaq b'
     have hσ:σ[j]?=Za (Za z):=by
      cases es:σ[j]? with
      |none=>rw[es]at b2;cases b2
      |some o=>rw[es]at b2;rw[show o=Za z from b2]
     obtain⟨hx1,hx2⟩:=S.cap i j y ej a'
     have hm:=Zah hx2
     have hk:=S.free (y,.free) hm rfl
     obtain⟨m0,hn,hl⟩:=I.loc
     obtain⟨u',ru',lk⟩:=hl j y z hx1 hσ<|.inr<|.inl hk
     rcases lk with⟨e,_⟩|⟨e,d,hd,hcell⟩
     ·have hk':X.env.scope.names.lookup y=Za .cell:=hk
      have e':X.env.scope.names.lookup y=Za .local:=e
      rw[hk']at e'
      cases e'
     ·obtain⟨d',hd2⟩:=Zbh.mp<|Yt (cells:=X.env.cells) scope.names [] y d hm hd
      have:=cells' y d' hd2
      rw[hd]at this
      cases this
      obtain⟨oc,hoc,hdd⟩:=hcell
      exact⟨u',ru',.inr ⟨.inr hx2,d,hd2,oc,keep _ _ hoc,hdd⟩⟩
  ·obtain⟨z',o,ho,hd⟩:=I.cell y d<|cells' y d z
   exact⟨z',o,keep _ _ ho,hd⟩
 have N3:Now ce (cxL X A (x::caps) q scope f (.ref c) s H) [] ι (Za v::js.map λj=>(σi[j]?).join) h (Za w::js.map λj=>(σ[j]?).join) H {s with heap:=h3,toks:=s.toks+[(x,u)].length}:=by
  refine⟨I3,N.rel,03,λi z a=>?_⟩
  cases i with
  |zero=>
   have a':Za (Za v)=Za (Za z):=a
   cases a'
   exact⟨w,rfl,qw⟩
  |succ i=>
   have a':(js.map λj=>(σi[j]?).join)[i]?=Za (Za z):=a
   rw[Z4]at a'
   cases ej:js[i]? with
   |none=>rw[ej]at a';cases a'
   |some j=>
    rw[ej]at a'
    have a2:(σi[j]?).join=Za z:=Zaq a'
    have hσ:σi[j]?=Za (Za z):=by
     cases es:σi[j]? with
     |none=>rw[es]at a2;cases a2
     |some o=>rw[es]at a2;rw[show o=Za z from a2]
    obtain⟨z',ez,qz⟩:=N.st.2 j z hσ
    refine⟨z',?_,qz⟩
    show(js.map λj=>(σ[j]?).join)[i]?=Za (Za z')
    rw[Z4,ej]
    show Za ((σ[j]?).join)=_
    rw[ez]
    rfl
 refine W.kla_codeExpr<|Zal (hb s H [] _ _ H ι _ h (λu' s'=>Q u' s') (λ_ _=>False) N3 ?_) (λ_ _ z=>z) λ_ _ z=>z.elim
 cases er:m (Za v::js.map λj=>(σi[j]?).join) h with
 |ok v' h'=>
  rw[er]at K
  intro u' s' H' ι' N' n' ⟨z,rz,qz⟩
  have J:=N'.inv
  obtain⟨_,_,I',rz',e1,e2⟩:=I.after (Q:=λz2 H2=>z2=z/\H2=H') ⟨z,H',J.os,J.bare,J.base,J.hok,rz,rfl,rfl⟩
  subst e1
  subst e2
  exact K u' s' _ ι' ⟨I',N'.rel,N.st.mono n'⟩ n' ⟨_,rz',qz⟩
 |exc n h'=>rw[er]at K;exact Zf K
 |stuck=>rw[er]at K;exact Zf K
end
noncomputable def gtZ:IV->IV->Wt
 |.int a,.int b=>Za<|decide (a>b)
 |_,_=>Zc
def Q5(gt:IV->IV->Wt)(mk:IV->IH->Res IV)(i n:Nat):Nat->IV->IV->IH->Res IV
 |0,b,_,h=>(match h[i]? with
  |some (.lst ys)=>if ys.length=n then .ok b h else .stuck
  |_=>.stuck)
 |r+1,b,kb,h=>(match h[i]? with
  |some (.lst ys)=>if ys.length=n then(match ys[n-(r+1)]? with
    |some y=>(mk y h).nx.bind λk h'=>(match gt k kb with
     |some Zh=>Q5 gt mk i n r y k h'
     |some Zk=>Q5 gt mk i n r b kb h'
     |none=>.stuck)
    |none=>.stuck)else .stuck
  |_=>.stuck)
def QR(gt:IV->IV->Wt)(mk:IV->IH->Res IV)(i:Nat)(d:Tb)(h:IH):Res IV:=match h[i]? with
 |some (.lst ys)=>(match ys[0]? with
  |some y=>(mk y h).nx.bind λk h'=>Q5 gt mk i ys.length (ys.length-1) y k h'
  |none=>(match d with
   |some d=>.ok d h
   |none=>.stuck))
 |_=>.stuck
theorem FpOk.more{X:Cx}{pj:PnT}{H:Hp}{b:Zq}{p:Zq×Obj}(F:FpOk X pj H b)(ne:p.1≠b):FpOk X (pj++[p]) H b:=by
 refine⟨F.1,F.2.1,F.2.2.1,F.2.2.2.1,F.2.2.2.2.1,λq hq=>?_⟩
 rcases ZK.mp hq with z|z
 ·exact F.2.2.2.2.2 q<|ZQ _ z
 ·rcases ZK.mp z with z|z
  ·exact F.2.2.2.2.2 q<|Zl _ z
  ·rw[Zx.mp z]
   exact ne
theorem FpOk.at{X:Cx}{pj:PnT}{H H':Hp}{b:Zq}(F:FpOk X pj H b)(n:H' b=Zc):FpOk X pj H' b:=⟨n,F.2⟩
theorem Joa{xs:Tu}{us:To}{i:Nat}{u:Ze}(r:Vals xs us)(e:us[i]?=Za u):∃x,xs[i]?=Za x/\RelV x u:=by
 have hi:=(Zr.mp e).1
 have hl:=r.length
 have hi2:i<xs.length:=00
 have hx:xs[i]?=Za xs[i]:=Zb hi2
 obtain⟨u',e',q⟩:=r.get hx
 rw[e]at e'
 cases e'
 exact⟨_,hx,q⟩
section
variable{ce:CeT}{X:Cx}
theorem Now.turned{pj:PnT}{ι:Tp}{σi:ISt}{h:IH}{σ:L2.St}{H:Hp}{s:Zn}{it:Zq}{h':Zax}{t':Nat}(N:Now ce X pj ι σi h σ H s)(F:FpOk X pj H it)(k:∀b o,b≠it->s.heap.get? b=Za o->h'.get? b=Za o):
  Now ce X pj ι σi h σ H {s with heap:=h',toks:=t'}:=⟨N.inv.turned k F.1 F.2.1 F.2.2.2.1 F.2.2.2.2.1 F.2.2.2.2.2,N.rel,N.st⟩
theorem Now.keptH{pj:PnT}{ι:Tp}{σi:ISt}{h:IH}{σ:L2.St}{H:Hp}{s:Zn}{h':Zax}{t':Nat}(N:Now ce X pj ι σi h σ H s)(k:∀b o,s.heap.get? b=Za o->h'.get? b=Za o):
  Now ce X pj ι σi h σ H {s with heap:=h',toks:=t'}:=⟨N.inv.kept k,N.rel,N.st⟩
def CmpK(ce:CeT)(X:Cx)(A:ZN)(op:CmpOp)(gt:IV->IV->Wt):Prop:=
 ∀(pj:PnT)(ι:Tp)(σi:ISt)(h:IH)(σ:L2.St)(H:Hp)(s:Zn)(k kb:IV)(u ub:Ze)(b:Bool)(Q:QvT)(E:QvT),Now ce X pj ι σi h σ H s->RU X.K ι H k u->RU X.K ι H kb ub->gt k kb=Za b ->
  (∀h' t',(∀a o,s.heap.get? a=Za o->h'.get? a=Za o)->Q (.bool b) {s with heap:=h',toks:=t'})->Z0 (Z9 X.prog X.w) A (ZcZ op u ub) Q E s
theorem J13{A:ZN}:CmpK ce X A .Gt gtZ:=λpj ι σi h σ H s k kb u ub b Q E N r rb e q=>by
 cases k with
 |int a=>
  cases kb with
  |int c=>
   obtain⟨x,rx,ex⟩:=r
   obtain⟨y,ry,ey⟩:=rb
   have ex':x=.int a:=ex
   have ey':y=.int c:=ey
   subst ex'
   subst ey'
   obtain⟨t,rfl⟩:=rx
   obtain⟨t',rfl⟩:=ry
   have e':Za (decide (a>c))=Za b:=e
   cases e'
   have cmp:=Ze9 (prog:=X.prog) (w:=X.w) (A:=A) (P:=λi v=>∃t,v=.int (if i=0 then a else c) t) (λi=>if i=0 then a else c) λ_ _ q=>q
   have:=cmp 0 1 (.int a t) (.int c t') s Q E ⟨t,03⟩ ⟨t',03⟩
   simp only[if_true,show ¬(1:Nat)=0 by decide,if_false]at this
   exact this<|q s.heap s.toks λ_ _ e=>e
  |_=>cases e
 |_=>cases e
def X1(ce:CeT)(X:Cx)(A:ZN)(σi:ISt)(σ:L2.St)(pj:PnT)(G:Hp->Prop)(fv:Ze)(mk:IV->IH->Res IV):Prop:=
 ∀(pl:PnT)(s:Zn)(H:Hp)(ι:Tp)(h:IH)(v:IV)(u:Ze)(Q:QvT),Now ce X (pj++pl) ι σi h σ H s->G H->RU X.K ι H v u->Kont ce X RU (pj++pl) ι σi σ H (mk v h).nx Q (λ_ _=>False) ->
  Z0 (Z9 X.prog X.w) A (call fv [u]) Q (λ_ _=>False) s
theorem Js5{α γ:Type}{pj:PnT}{ι:Tp}{σi:ISt}{σ:L2.St}{H:Hp}{R:REL α Ze}{R':REL γ Ze}{r:Res α}{g:α->IH->Res γ}{Q E:QvT}{pl:PnT}{Q1:QvT}
  (K:Kont ce X R' pj ι σi σ H (r.nx.bind g) Q E)
  (step:∀x h1 u s1 H1 ι1,Now ce X (pj++pl) ι1 σi h1 σ H1 s1->Nxt ι H ι1 H1->R X.K ι1 H1 x u->Kont ce X R' pj ι1 σi σ H1 (g x h1) Q E->Q1 u s1):Kont ce X R (pj++pl) ι σi σ H r.nx Q1 (λ_ _=>False):=by
 cases r with
 |ok v h'=>exact λu s' H' ι' N' n' q=>step v h' u s' H' ι' N' n' q<|Kont.mono (r:=g v h') K n'
 |exc n h'=>exact Zf K
 |stuck=>exact Zf K
section
variable{A:ZN}{R:Zep->Zn->Prop}{Q E:QvT}{pj:PnT}{σi:ISt}{σ:L2.St}{G:Hp->Prop}{fq:Zq}{mk:IV->IH->Res IV}{gt:IV->IV->Wt}{i n:Nat}{l I C:Zq}{kw:Wj}
theorem Jzp(M:Mm nm L op)(hh:A.handled=Zc)(cm:CmpK ce X A.in1 op gt)(ko:X1 ce X A.in1 σi σ pj G (.ref fq) mk)(hG:∀H H',Ext H H'->G H->G H')(hR:∀v s',Q v s'->R (.ok<|.ret v) s')(hIC:I≠C):
  ∀(r j:Nat)(z:Zn)(H:Hp)(ι:Tp)(h:IH)(b kb:IV)(vb uk:Ze)(c:Nat),n-j=r->0<j->j<=n->Now ce X pj ι σi h σ H z->G H->ι[i]?=Za l->FpOk X pj H I->FpOk X pj H C->z.heap.IsListIter I l j ->
   z.heap.get? C=Za (Zav "list" #[vb,uk] c)->RU X.K ι H b vb->RU X.K ι H kb uk->Kont ce X RU pj ι σi σ H (Q5 gt mk i n r b kb h) Q E ->
   Zc4 (Z9 X.prog X.w) A (.builtin L ⟨[.ref I,.ref fq,.ref C],kw⟩) R z:=by
 intro r
 induction r with
 |zero=>
  intro j z H ι h b kb vb uk c hr h0 hj N g hi fI fC st gC rb rk K
  obtain rfl:j=n:=00
  unfold Q5 at K
  cases eh:h[i]? with
  |none=>rw[eh]at K;exact Zf K
  |some ob=>
   rw[eh]at K
   cases ob with
   |lst ys=>
    dsimp only at K
    split at K
    ·rename_i hlen
     obtain⟨ws,e1,r3⟩:=N.at eh hi
     obtain⟨its,rv2,pl,_⟩:=N.inv.list<|SqL.of e1
     have ne:l≠I:=λq=>by have:=fI.1;rw[<-q,e1]at this;cases this
     have sz:its.toArray.size=j:=by
      rw[Zt,<-rv2.length,r3.length,hlen]
     have W:=ZcR (prog:=X.prog) (w:=X.w) (A:=A.in1) hh I l ne its.toArray
     refine ZaE M.en ?_
     rw[Zau M.pl _]
     show Z0 _ A.in1 (Zdr (.ref C)>>=_) _ _ z
     refine Zd<|Zcb gC rfl ?_
     show Z0 _ A.in1 (tryCatch (Zc3<|.ref I) _>>=_) _ _ z
     refine Zd (ZaB<|W.done z _ _ ⟨by rw[sz];exact st,pl.isList⟩ λh2 tk keep=>?_)
     have gC2:=keep C _ (λq=>hIC (Zx.mp q).symm) gC
     have N1:=N.turned (h':=h2) (t':=tk) fI λb o hb e=>keep b o (λq=>hb<|Zx.mp q) e
     show Z0 _ A.in1 (ZeR C (λ_=>#[])>>=_) _ _ _
     refine Zd ?_
     refine ZbV gC2 rfl (Zd<|ZbP<|Zv ?_)
     have N2:=N1.turned (h':=h2.update C<|Zao λ_=>#[]) (t':=tk) fC λb o hb e=>(ZI _ _<|Zab hb).trans e
     exact hR _ _<|K _ _ _ _ N2 .refl rb
    ·exact Zf K
   |_=>exact Zf K
 |succ r ih=>
  intro j z H ι h b kb vb uk c hr h0 hj N g hi fI fC st gC rb rk K
  unfold Q5 at K
  cases eh:h[i]? with
  |none=>rw[eh]at K;exact Zf K
  |some ob=>
   rw[eh]at K
   cases ob with
   |lst ys=>
    dsimp only at K
    split at K
    ·rename_i hlen
     obtain⟨ws,e1,r3⟩:=N.at eh hi
     obtain⟨its,rv2,pl,_⟩:=N.inv.list<|SqL.of e1
     have ne:l≠I:=λq=>by have:=fI.1;rw[<-q,e1]at this;cases this
     have sz:its.toArray.size=n:=by
      rw[Zt,<-rv2.length,r3.length,hlen]
     have ej:n-(r+1)=j:=00
     rw[ej]at K
     have W:=ZcR (prog:=X.prog) (w:=X.w) (A:=A.in1) hh I l ne its.toArray
     refine ZaE M.en ?_
     rw[Zau M.pl _]
     show Z0 _ A.in1 (Zdr (.ref C)>>=_) _ _ z
     refine Zd<|Zcb gC rfl ?_
     show Z0 _ A.in1 (tryCatch (Zc3<|.ref I) _>>=_) _ _ z
     refine Zd (ZaB<|W.item j z _ _ (by rw[sz];omega) ⟨st,pl.isList⟩ λy h2 tk hP st2 keep=>?_)
     have ey:its[j]?=Za y:=by simpa using hP
     obtain⟨x,ex,rx⟩:=Joa rv2 ey
     obtain⟨yv,eyv,qy⟩:=r3.get' ex
     rw[eyv]at K
     dsimp only at K
     have gC2:=keep C _ (λq=>hIC (Zx.mp q).symm) gC
     have N1:=N.turned (h':=h2) (t':=tk) fI λb o hb e=>keep b o (λq=>hb<|Zx.mp q) e
     obtain⟨oI,hoI,hoc,hod⟩:=id st2.1
     have N2:=(N1.pinO gC2 fC λv z=>by cases z).pinO hoI (FpOk.more (p:=(C,Zav "list" #[vb,uk] c)) fI<|Zab hIC) λv z=>by rw[hod]at z;cases z
     rw[Zac]at N2
     show Z0 _ A.in1 (tryCatch (Zcg [y]<|call (.ref fq) [y]) _>>=_) _ _ _
     refine Zd<|ZaB<|Zaj<|nof<|ko _ _ _ _ _ yv y _ N2 g ⟨x,rx,qy⟩<|Js5 K λk h3 u s3 H3 ι3 N3 n3 ru K3=>?_
     have pC:=N3.inv.pin (C,Zav "list" #[vb,uk] c)<|Zl _<|Zl _ 03
     have pI:=N3.inv.pin (I,oI)<|Zl _<|Zl _ 03
     have N4:=N3.pins
     have hi3:=n3.at hi
     have g3:=hG _ _ n3.ext g
     have fI3:=FpOk.at (H':=H3) fI pI.2.1
     have fC3:=FpOk.at (H':=H3) fC pC.2.1
     have it3:s3.heap.IsListIter I l (j+1):=⟨oI,pI.1,hoc,hod⟩
     have ry3:RU X.K ι3 H3 yv y:=RU.mono n3 ⟨x,rx,qy⟩
     cases eg:gt k kb with
     |none=>rw[eg]at K3;exact Zf K3
     |some bb=>
      show Z0 _ A.in1 (tryCatch (Zcg [y,u]<|ZcZ op u uk>>=_) _>>=_) _ _ _
      refine Zd<|ZaB<|Zaj<|Zd<|cm _ _ _ _ _ _ _ k kb u uk bb _ _ N4 ru (rk.mono n3) eg λh5 t5 k5=>?_
      refine Zd<|Zaj<|Zbp ?_
      refine Zd<|ZbP<|Zv ?_
      have N5:=N4.keptH (h':=h5) (t':=t5) k5
      have gC5:=k5 _ _ pC.1
      obtain⟨oI5,hoI5,hoc5,hod5⟩:=id it3
      have it5:h5.IsListIter I l (j+1):=⟨oI5,k5 _ _ hoI5,hoc5,hod5⟩
      rw[eg]at K3
      cases bb with
      |true=>
       simp only[if_true]
       refine Zd ?_
       refine ZbV gC5 rfl (Zd<|ZbP ?_)
       rw[M.nm]
       have N6:=N5.turned (h':=h5.update C<|Zao λ_=>#[y,u]) (t':=t5) fC3 λb o hb e=>(ZI _ _<|Zab hb).trans e
       obtain⟨c2,hc2⟩:∃c2,(h5.update C<|Zao λ_=>#[y,u]).get? C=Za (Zav "list" #[y,u] c2):=⟨_,Zcs gC5 λ_=>#[y,u]⟩
       refine Zv ⟨ZaX M.pl _,ih (j+1) _ H3 ι3 h3 yv k y u c2 00 00 00 N6 g3 hi3 fI3 fC3 ?_ hc2 ry3 ru K3⟩
       exact⟨oI5,(ZI _ _<|Zab hIC).trans<|k5 _ _ hoI5,hoc5,hod5⟩
      |false=>
       simp only[Zae,if_false]
       refine Zd<|ZbP ?_
       rw[M.nm]
       exact Zv ⟨ZaX M.pl _,ih (j+1) _ H3 ι3 h3 b kb vb uk c 00 00 00 N5 g3 hi3 fI3 fC3 it5 gC5 (rb.mono n3) (rk.mono n3) K3⟩
    ·exact Zf K
   |_=>exact Zf K
theorem Jsq{F:Fin->Zn->Prop}(M:Mm nm L op)(hh:A.handled=Zc)(cm:CmpK ce X A.in1 op gt)(ko:X1 ce X A.in1 σi σ pj G (.ref fq) mk)(hG:∀H H',Ext H H'->G H->G H')(N:Now ce X pj ι σi h σ H z)(g:G H)(hi:ι[i]?=Za l)(rd:∀y,d=Za y->∃u,dv=Za u/\RU X.K ι H y u)
  (hR:∀v s',Q v s'->R (.ok<|.ret v) s')(hF:∀c s',c.quiet=Zh->Zc4 (Z9 X.prog X.w) A c R s'->F (.again c) s')(K:Kont ce X RU pj ι σi σ H (QR gt mk i d h) Q E):
  Z0 (Z9 X.prog X.w) A.in1 (ZdV (.ref l)>>=λit=>newList []>>=λc=>again<|.builtin (toString nm++toString ".loop") ⟨[it,.ref fq,c],dv.toList.map λu=>(ZS "default",u)⟩) F E z:=by
 unfold QR at K
 cases eh:h[i]? with
 |none=>rw[eh]at K;exact Zf K
 |some ob=>
  rw[eh]at K
  cases ob with
  |lst ys=>
   dsimp only at K
   obtain⟨ws,e1,r3⟩:=N.at eh hi
   obtain⟨its,rv2,pl,_⟩:=N.inv.list<|SqL.of e1
   have hl:=pl.isList
   obtain⟨ol,hol,_⟩:=id hl
   have lt:l<z.heap.objs.size:=Z3 hol
   have sz:its.toArray.size=ys.length:=by rw[Zt,<-rv2.length,r3.length]
   refine Zd<|Zba hl ?_
   refine Zd<|ZcU ?_<|ZR _
   rw[M.nm]
   have ne:l≠z.heap.objs.size:=Z7 lt
   have W:=ZcR (prog:=X.prog) (w:=X.w) (A:=A.in1) hh z.heap.objs.size l ne its.toArray
   have hS:(z.heap.push<|liOb l).objs.size=z.heap.objs.size+1:=Zdz ..
   obtain⟨C,hC⟩:∃C,C=(z.heap.push<|liOb l).objs.size:=⟨_,rfl⟩
   have hIC:z.heap.objs.size≠C:=by rw[hC,hS];exact Z7<|Zaz _
   have old:∀b o,z.heap.get? b=Za o->((z.heap.push<|liOb l).push<|Zav "list" #[] 0).get? b=Za o:=λb o e=>Zj _<|Zj _ e
   have gI:((z.heap.push<|liOb l).push<|Zav "list" #[] 0).get? z.heap.objs.size=Za (liOb l):=Zj _<|Z2 _ rfl
   have gC:((z.heap.push<|liOb l).push<|Zav "list" #[] 0).get? C=Za (Zav "list" #[] 0):=by rw[hC];exact Z2 _ rfl
   rw[<-hC]
   have fI:FpOk X pj H z.heap.objs.size:=N.inv.fpOk (Zm _)<|N.inv.hok.fresh<|Zm _
   have fC:FpOk X pj H C:=N.inv.fpOk (by rw[hC,hS];exact ZaU _) (N.inv.hok.fresh<|by rw[hC,hS];exact ZaU _)
   have N0:=N.keptH (t':=z.toks) old
   refine Zv<|hF _ _ (ZaX M.pl _)<|ZaE M.en ?_
   rw[Zau M.pl _]
   show Z0 _ A.in1 (Zdr (.ref _)>>=_) _ _ _
   refine Zd<|Zcb gC rfl ?_
   show Z0 _ A.in1 (tryCatch (Zc3<|.ref z.heap.objs.size) _>>=_) _ _ _
   cases e0:ys[0]? with
   |none=>
    have h0:ys.length=0:=by
     have:=List.getElem?_eq_none_iff.mp e0
     omega
    rw[e0]at K
    cases d with
    |none=>exact Zf K
    |some dy=>
     obtain⟨u,rfl,ru⟩:=rd dy rfl
     refine Zd (ZaB<|W.done _ _ _ (by rw[sz,h0];exact⟨⟨_,gI,rfl,rfl⟩,(hl.push _).push _⟩) λh2 tk keep=>?_)
     have N1:=N0.turned (h':=h2) (t':=tk) fI λb o hb e=>keep b o (λq=>hb<|Zx.mp q) e
     show Z0 _ A.in1 (rule _>>=_) _ _ _
     exact Zd<|Zdy<|Zv<|hR _ _<|K _ _ _ _ N1 .refl ru
   |some yv=>
    have h0:0<ys.length:=(Zr.mp e0).1
    rw[e0]at K
    dsimp only at K
    refine Zd (ZaB<|W.item 0 _ _ _ (by rw[sz];exact h0) ⟨⟨_,gI,rfl,rfl⟩,(hl.push _).push _⟩ λy h2 tk hP st2 keep=>?_)
    have ey:its[0]?=Za y:=by simpa using hP
    obtain⟨x,ex,rx⟩:=Joa rv2 ey
    obtain⟨yv',eyv,qy⟩:=r3.get' ex
    rw[e0]at eyv
    cases eyv
    have gC2:=keep C _ (λq=>hIC (Zx.mp q).symm) gC
    have N1:=N0.turned (h':=h2) (t':=tk) fI λb o hb e=>keep b o (λq=>hb<|Zx.mp q) e
    obtain⟨oI,hoI,hoc,hod⟩:=id st2.1
    have N2:=(N1.pinO gC2 fC λv z=>by cases z).pinO hoI (FpOk.more (p:=(C,Zav "list" #[] 0)) fI<|Zab hIC) λv z=>by rw[hod]at z;cases z
    rw[Zac]at N2
    show Z0 _ A.in1 (tryCatch (Zcg [y]<|call (.ref fq) [y]) _>>=_) _ _ _
    refine Zd<|ZaB<|Zaj<|nof<|ko _ _ _ _ _ yv y _ N2 g ⟨x,rx,qy⟩<|Js5 K λk h3 u s3 H3 ι3 N3 n3 ru K3=>?_
    have pC:=N3.inv.pin (C,Zav "list" #[] 0)<|Zl _<|Zl _ 03
    have pI:=N3.inv.pin (z.heap.objs.size,oI)<|Zl _<|Zl _ 03
    have N4:=N3.pins
    have fI3:=FpOk.at (H':=H3) fI pI.2.1
    have fC3:=FpOk.at (H':=H3) fC pC.2.1
    have ry3:RU X.K ι3 H3 yv y:=RU.mono n3 ⟨x,rx,qy⟩
    show Z0 _ A.in1 (ZeR C (λ_=>#[y,u])>>=_) _ _ _
    refine Zd ?_
    refine ZbV pC.1 rfl ?_
    rw[M.nm]
    have N6:=N4.turned (h':=s3.heap.update C<|Zao λ_=>#[y,u]) (t':=s3.toks) fC3 λb o hb e=>(ZI _ _<|Zab hb).trans e
    obtain⟨c2,hc2⟩:∃c2,(s3.heap.update C<|Zao λ_=>#[y,u]).get? C=Za (Zav "list" #[y,u] c2):=⟨_,Zcs pC.1 λ_=>#[y,u]⟩
    refine Zv ⟨ZaX M.pl _,Jzp M hh cm ko hG hR hIC (ys.length-1) 1 _ H3 ι3 h3 yv k y u c2 rfl 00 00 N6 (hG _ _ n3.ext g) (n3.at hi) fI3 fC3 ?_ hc2 ry3 ru K3⟩
    exact⟨oI,(ZI _ _<|Zab hIC).trans pI.1,hoc,hod⟩
  |_=>exact Zf K
theorem Jre(a v d:Ze):Zeb "max" ⟨[a],[(ZS "key",v),(ZS "default",d)]⟩:=by unfold Zeb;kernel_rfl
theorem Jv3{z:Zn}{H:Hp}{ι:Tp}{h:IH}{dv:IV}{d:Ze}(hh:A.handled=Zc)(cm:CmpK ce X A.in1 .Gt gt)(ko:X1 ce X A.in1 σi σ pj G (.ref fq) mk)(hG:∀H H',Ext H H'->G H->G H')(N:Now ce X pj ι σi h σ H z)(g:G H)(hi:ι[i]?=Za l)(rd:RU X.K ι H dv d)
  (K:Kont ce X RU pj ι σi σ H (QR gt mk i (Za dv) h) Q E):Z0 (Z9 X.prog X.w) A (call (.builtin "max") [.ref l] [(ZS "key",.ref fq),(ZS "default",d)]) Q E z:=by
 refine kmk_tree ZdM Zd8 Zd9 (Jre _ _ _) ?_
 show Z0 _ A.in1 (Zap "max" ["key","default"] 0 ⟨[],[(ZS "key",.ref fq),(ZS "default",d)]⟩>>=_) _ _ z
 refine Zd<|Zeu (show Zap "max" ["key","default"] 0 ⟨[],[(ZS "key",.ref fq),(ZS "default",d)]⟩=pure [Za<|.ref fq,Za d]from rfl) ?_
 refine Zd<|Zv ?_
 exact Jsq (dv:=Za d) mmX hh cm ko hG N g hi (λy e=>⟨d,rfl,by cases e;exact rd⟩) (λv s' q=>q) (λc s' q r=>⟨q,r⟩) K
end
theorem Kont.more{α β:Type}{R:REL α β}{pj pl:PnT}{ι:Tp}{σi:ISt}{σ:L2.St}{H:Hp}{r:Res α}{Q:β->Zn->Prop}{E:QvT}(K:Kont ce X R pj ι σi σ H r Q E):Kont ce X R (pj++pl) ι σi σ H r Q E:=by
 cases r with
 |ok v h'=>exact λu s' H' ι' N n q=>K u s' H' ι' N.pins n q
 |exc m h'=>exact λpl' a s' H' ι' N n q=>K (pl++pl') a s' H' ι' (by rw[<-Zac];exact N) n q
 |stuck=>exact K
def Y0(gt:IV->IV->Wt)(q:Str)(j:Nat)(js:Tl)(aa:A1)(m md:E1):E1:=λσ h=>(aa σ h).bind λxs h1=>match h1[j]? with
 |some (.tab q')=>if q'=q then(md σ h1).bind λd h2=>(match xs with
  |[.ref i]=>QR gt (λv h'=>m (Za v::js.map λj=>(σ[j]?).join) h') i (Za d) h2
  |_=>.stuck)else .stuck
 |_=>.stuck
theorem Jj9{params:ZbY}{x:Str}{env:Env}(hx:QT params=Za x):defaultsOf params env=([],[]):=by
 unfold QT at hx
 split at hx
 ·rfl
 ·cases hx
theorem J2n{k:Nat}{q x:Str}{caps:Tg}{js:Tl}{j:Nat}{a body de:Expr}{aa:A1}{m md:E1}{params:ZbY}{scope:Zbg}{p lp pos kp kp2:Pos}(hg:Gl X "max")(hm:X.mg "max"=Zc)(ha:PAi ce X [a] aa)(hd:PEi ce X de md)(hs:ZC [a] X.env=[(Zk,ZaY a X.env)])
  (hr:Room (k+2) X.A)(hcd:W.codeIn X.K X.env.code q=Zh)(hq:X.env.qual=q++".<locals>.")(B:QB X.mg X.base)(hx:QT params=Za x)(S:LamSc X.N X.env.scope.names x caps js scope)
  (hb:∀f cd s' H',PEi ce (cxL X X.A.in1 (x::caps) q scope f cd s' H') body m):
  PEi ce X (.Call (.Name "max" p) [a] [⟨Za "key",.Lambda params body scope lp,kp⟩,⟨Za "default",de,kp2⟩] pos) (Y0 gtZ q j js aa m md):=λpj s σ H ι σi h Q E N K=>by
 have hcl:ZcQ scope X.env=pure (clOf X.env.cells scope.names []):=Jat λy hm hk=>N.inv.ok.has y.1<|.inl<|S.free y hm hk
 refine Zag<|Q8 N.inv hg hm rfl ?_
 refine Zev ?_ (by rw[hs];rfl) (by rw[hs];rfl) rfl rfl
 refine(ha pos).run N K λxs h1 us s1 H1 ι1 N1 n1 r1 K1=>?_
 cases ej:h1[j]? with
 |none=>rw[ej]at K1;exact Zf K1
 |some ob=>
  rw[ej]at K1
  cases ob with
  |tab q'=>
   dsimp only at K1
   split at K1
   ·rename_i eq
    subst eq
    refine ZaJ<|Zd<|Jka N1 ej hcd hq (Jj9 hx) hcl B λf c pm ctv s2 H2 N2 n2 LC=>Zd<|Zbj<|Zv ?_
    refine ZaJ<|Zd<|PX.run hd N2 (Kont.more<|Kont.mono K1 n2) λd h3 du s3 H3 ι3 N3 n3 r3 K3=>Zd<|Zbj<|Zv<|ZbH ?_
    obtain⟨vs,rv,qs⟩:=r1.mono<|n2.trans n3
    cases xs with
    |nil=>exact Zf K3
    |cons x t=>
     cases t with
     |cons _ _=>cases x<;>exact Zf K3
     |nil=>
      cases x with
      |ref i=>
       obtain⟨w,rfl,ad,rfl,hav⟩:=qs.one_of
       obtain⟨u,rfl,ru⟩:=Qn rv
       cases ru
       refine Jv3 (G:=λH=>QL H q'<|.ref c) (mk:=λv h'=>m (Za v::js.map λj=>(σi[j]?).join) h') hr.hd J13 ?_ (λH H' e g=>g.mono e.frzs) N3 (LC.mono n3.ext.frzs) hav r3 ?_
       ·intro pl s4 H4 ι4 h4 v u Q4 N4 g4 ru4 K4
        have pf:=N4.inv.pin (f,lamO q' params body scope (clOf X.env.cells scope.names []) pm ctv c)<|Zl _<|ZQ _<|Zl _<|Zx.mpr rfl
        exact Jnn (A:=X.A.in1) N.inv.ok.frames hr.in1 N4 pf.1 g4 hx S (hb f<|.ref c) ru4 K4
       ·exact K3
      |_=>exact Zf K3
   ·exact Zf K1
  |_=>exact Zf K1
end
section
variable{ce:CeT}{X:Cx}{C:Zq}{x c:Str}{np cpos pos:Pos}{e:Expr}{es:Ta}{ma:A1}
end
section
variable{ce:CeT}{X:Cx}{a C:Zq}{pj:PnT}{σ:L2.St}{H:Hp}{s:Zn}{ι:Tp}{σi:ISt}{h:IH}{n:Nat}{c:Str}{fs:Wl}{tv:Ze}
end
section
variable{ce:CeT}{X:Cx}
def slT:IV->Wv->Wv->IH->Res IV
 |.str x,lo,hi,h=>if x.length<=sizeLine then .ok (.str<|Ze4 x lo hi) h else .stuck
 |x,lo,hi,h=>slI x lo hi h
theorem J6u:SlI ce X slT:=by
 intro pj s σ H ι σi h x v vl vu lo hi sl Q E N rx hs pl pu K
 cases x with
 |str x=>
  obtain⟨xv,rx,qx⟩:=rx
  cases (show xv=.str x from qx)
  obtain⟨t,rfl⟩:=rx
  dsimp only[slT]at K
  split at K
  ·rename_i hz
   refine⟨"str",_,F.slot_str_getitem.lookup,typeIs_str _ _ _,?_⟩
   cases pl with
   |none=>
    cases pu with
    |none=>exact ZbL (l:=Zc) (u:=Zc) (st:=Zc) hs rfl (Zdi ⟨ZW (Zed x _ _) hz,λt' k=>fin0 N K rfl _ _ (N.inv.tok _) ⟨_,rfl⟩⟩)
    |int j tj=>exact ZbL (l:=Zc) (u:=Za (j,tj)) (st:=Zc) hs rfl (Zdi ⟨ZW (Zed x _ _) hz,λt' k=>fin0 N K rfl _ _ (N.inv.tok _) ⟨_,rfl⟩⟩)
   |int i ti=>
    cases pu with
    |none=>exact ZbL (l:=Za (i,ti)) (u:=Zc) (st:=Zc) hs rfl (Zdi ⟨ZW (Zed x _ _) hz,λt' k=>fin0 N K rfl _ _ (N.inv.tok _) ⟨_,rfl⟩⟩)
    |int j tj=>exact ZbL (l:=Za (i,ti)) (u:=Za (j,tj)) (st:=Zc) hs rfl (Zdi ⟨ZW (Zed x _ _) hz,λt' k=>fin0 N K rfl _ _ (N.inv.tok _) ⟨_,rfl⟩⟩)
  ·exact Zf K
 |_=>exact x_sl pj s σ H ι σi h _ v vl vu lo hi sl Q E N rx hs pl pu K
end
theorem Jrc(a b c d:Ze):Zeb "max" ⟨[a,b,c,d],[]⟩:=by unfold Zeb;kernel_rfl
theorem Jpc(f:Nat->Int):∀k,JJ f (k+1)=f (Ze3 (λi j=>decide (f i>f j)) k)
 |0=>rfl
 |k+1=>by
  rw[Jdo f<|Nat.succ_pos k,Jpc f k]
  show _=f (if decide (f (k+1)>f (Ze3 _ k))=Zh then k+1 else Ze3 _ k)
  simp only[decide_eq_true_eq]
  split<;>rfl
section
variable{pr:ZB}{wd:ZV}{B:ZN}{E:QvT}{z:Zn}{t:Zq}{us:To}{ns:Tk}{Q:QvT}
theorem Jxu(hh:B.handled=Zc)(hl:z.heap.IsTuple t us.toArray)(hi:Zb4 us ns)(hn:ns≠[])
  (hQ:∀u h2 tk,(∀b o,z.heap.get? b=Za o->h2.get? b=Za o)->Q (.int (JJ (λi=>ns.getD i 0) ns.length) u) {z with heap:=h2,toks:=tk}):
  Z0 (Z9 pr wd) B.in1 (ZdV<|.ref t) (λit s₂=>∃I fp wr n P St bt,it=.ref I/\Walks pr wd B.in1 I fp wr n P St/\St 0 s₂.heap/\(∀b∈fp,b<s₂.heap.objs.size)/\0<n/\CmpOf pr wd B.in1 .Gt P bt /\
   ∀v h' tk,P (Ze3 bt<|n-1) v->(∀b o,b∉wr->s₂.heap.get? b=Za o->h'.get? b=Za o)->Q v {s₂ with heap:=h',toks:=tk}) E z:=by
 obtain⟨ol,hol,_⟩:=id hl
 have lt:t<z.heap.objs.size:=Z3 hol
 have ll:=Xk hi
 have pos:0<ns.length:=List.length_pos_iff.mpr hn
 have sz:us.toArray.size=us.length:=Zt ..
 have hf:∀(i:Nat)(v:Ze),us.toArray[i]?=Za v->∃t,v=.int ((λi=>ns.getD i 0) i) t:=λi v q=>Zd0 hi i v<|by simpa using q
 refine wpAny_pyIter_tuple hl ⟨_,[_,t],[_],_,_,_,_,rfl,Walks.tuple (A:=B.in1) hh _ t (Z7 lt) us.toArray,⟨⟨_,Z2 _ rfl,rfl,rfl⟩,hl.push _⟩,λb hb=>?_,by rw[sz];omega,Ze9 (λi=>ns.getD i 0) hf,λv h' tk hP hk=>?_⟩
 ·show b<(z.heap.push _).objs.size
  rw[Zdz]
  rcases Z6.mp hb with rfl|hb
  ·exact Zaz _
  ·cases Zx.mp hb
   exact ZbA lt
 ·obtain⟨u,rfl⟩:=hf _ _ hP
  have e:us.toArray.size-1+1=ns.length:=by rw[sz];omega
  have hQ':=hQ u h' tk λb o e=>hk b o (λq=>Z7 (Z3 e)<|Zx.mp q)<|Zj _ e
  rw[<-e,Jpc]at hQ'
  exact hQ'
theorem Jz2(hh:B.handled=Zc)(hi:Zb4 [a,b,c,d] ns)(hn:ns≠[])
  (hQ:∀u h2 tk,(∀b o,z.heap.get? b=Za o->h2.get? b=Za o)->Q (.int (JJ (λi=>ns.getD i 0) ns.length) u) {z with heap:=h2,toks:=tk}):
  Z0 (Z9 pr wd) B (call (.builtin "max") [a,b,c,d]) Q E z:=by
 refine kmk_tree ZdM Zd8 Zd9 (Jrc _ _ _ _) ?_
 show Z0 _ B.in1 (Zap "max" ["key","default"] 0 ⟨[],[]⟩>>=_) _ _ z
 refine Zd<|Zeu (show Zap "max" ["key","default"] 0 ⟨[],[]⟩=pure [Zc,Zc]from rfl) ?_
 show Z0 _ B.in1 (newTuple [a,b,c,d]>>=_) _ _ z
 refine Zd<|Zbq ?_
 refine Zd<|Zal (Jxu (E:=E) (Q:=Q) (us:=[a,b,c,d]) hh ⟨_,Z2 _ rfl,rfl,0,rfl⟩ hi hn λu h2 tk hk=>hQ u h2 tk λb o e=>hk b o<|Zj _ e) (λit s₂ h₂=>?_) λ_ _ e=>e
 obtain⟨I,fp,wr,n,P,St,bt,rfl,W,hst,hfp,hn,hcmp,hQ⟩:=h₂
 refine Zd<|Zbq ?_
 have hSf:s₂.heap.objs.size∉fp:=λhm=>ZbX _<|hfp _ hm
 rw[YB]
 refine Zv ⟨ZaX F.plain_max_loop _,codeAny_max_loop_first W bt hcmp s₂.heap.objs.size hSf hn (W.frame _ _ _ hst λb _ o e=>Zj _ e) (Z2 _ rfl) λv h' tk hP hk=>?_⟩
 exact hQ v h' tk hP λb o hbw e=>hk b o hbw (Z7<|Z3 e)<|Zj _ e
end
theorem Jrb(a:Ze):Zeb "max" ⟨[a],[]⟩:=by unfold Zeb;kernel_rfl
section
variable{ce:CeT}{X:Cx}
def Vg:IV->IH->Res IV
 |.ref i,h=>match h[i]? with
  |some (.lst xs)=>(match JI xs with
   |some ns=>if ns=[]then .stuck else .ok (.int<|JJ (λi=>ns.getD i 0) ns.length) h
   |none=>.stuck)
  |_=>.stuck
 |.tup xs,h=>(match JI xs with
   |some ns=>if ns=[]then .stuck else .ok (.int<|JJ (λi=>ns.getD i 0) ns.length) h
   |none=>.stuck)
 |_,_=>.stuck
theorem J10(hh:X.A.handled=Zc):Qh ce X (.builtin "max") (on1 Vg):=Vw λpj s σ H ι σi h x xv u Q E N ru qx K=>by
 cases x with
 |ref i=>
  obtain⟨a,e1,ha⟩:=qx
  subst e1
  cases ru
  dsimp only[Vg]at K
  cases hi:h[i]? with
  |none=>rw[hi]at K;exact Zf K
  |some ob=>
   rw[hi]at K
   cases ob with
   |lst xs=>
    dsimp only at K
    cases hb:JI xs with
    |none=>rw[hb]at K;exact Zf K
    |some ns=>
     rw[hb]at K
     dsimp only at K
     split at K
     ·exact Zf K
     ·rename_i hne
      obtain⟨vs,e1,r1⟩:=N.at hi ha
      obtain⟨its,rv,pl,hz⟩:=N.inv.list<|SqL.of e1
      refine Js4 (d:=Zc) rfl (Jrb _) (λq=>absurd q hne) hh pl.isList (Vd hb r1 rv) λv h2 tk mi kk=>?_
      rcases mi with⟨e,_⟩|⟨_,t,ev⟩
      ·exact absurd e hne
      ·subst ev
       exact fin0 N K rfl _ _ (N.inv.kept (t':=tk) kk) ⟨t,rfl⟩
   |_=>exact Zf K
 |tup xs=>
  obtain⟨a,vs,e1,sa,ra⟩:=qx
  subst e1
  cases ru
  dsimp only[Vg]at K
  cases hb:JI xs with
  |none=>rw[hb]at K;exact Zf K
  |some ns=>
   rw[hb]at K
   dsimp only at K
   split at K
   ·exact Zf K
   ·rename_i hne
    obtain⟨its,rv,pl,hz⟩:=N.inv.tuple sa
    have pt:s.heap.IsTuple a its.toArray:=pl
    exact call_max_walk<|Jxu hh pt (Vd hb ra rv) hne λu h2 tk kk=>fin0 N K rfl _ _ (N.inv.kept (t':=tk) kk) ⟨u,rfl⟩
 |_=>exact Zf K
def Y7(xs:Tq)(h:IH):Res IV:=if xs.length=4 then(match JI xs with
 |some ns=>.ok (.int<|JJ (λi=>ns.getD i 0) ns.length) h
 |none=>.stuck)else .stuck
theorem J1z(hh:X.A.handled=Zc):Qh ce X (.builtin "max") Y7:=by
 intro pj s σ H ι σi h xs us Q E N r K
 obtain⟨vs,rv,q⟩:=r
 unfold Y7 at K
 split at K
 ·rename_i h4
  cases hb:JI xs with
  |none=>rw[hb]at K;exact Zf K
  |some ns=>
   rw[hb]at K
   have hi:=Vd hb q rv
   have l1:=q.length
   have l2:=rv.length
   have ll:=Xk hi
   have l4:us.length=4:=00
   clear l2 rv
   match us,hi,l4 with
   |[a,b,c,d],hi,_=>exact Jz2 hh hi (λe=>by rw[e]at ll;simp at ll) λu h2 tk kk=>fin0 N K rfl _ _ (N.inv.kept (t':=tk) kk) ⟨u,rfl⟩
   |[],hi,l4=>simp at l4
   |[_],hi,l4=>simp at l4
   |[_,_],hi,l4=>simp at l4
   |[_,_,_],hi,l4=>simp at l4
   |_::_::_::_::_::_,hi,l4=>simp at l4
 ·exact Zf K
structure BasK(K:W.Frag)(C:Zq):Prop where
 sp:W.specialIn K (.ref C) "__getattribute__"=Za (Za<|.builtin "type.__getattribute__")
 rd:W.readsIn K C (.type "type")=Zh
 fc:∃fa,W.findIn K (.ref C) "__init__"=Za (Za<|.ref fa)/\W.findCls K (.ref C) (.type "type") "__init__"=Za (.val<|.ref fa)/\W.keepIn K (.ref fa)=Zh
variable{k:Nat}{fa C:Zq}{fd:ZaH}{ps:Tg}{f:Tq->IH->Res IV}{dvs:Tq}{ds:To}{x:Str}{p pos apos:Pos}{e:Expr}{es:Ta}{ma:A1}{pl:Sem Bool}
theorem J2g(F:FnOk X.prog X.w X.K X.mg X.base (CXI X.prog X.w) k fa fd ps<|spI ce X.K ps f)(hr:Room k X.A)(hg:Gl X x)(hm:X.mg x=Za (.ref C))(B:BasK X.K C)(M:Mk X.K C fa)(hb:Qp X.K fd ps ds)(hd:∃vs,Vals vs ds/\∀ι H,RVs X.K ι H dvs vs)
  (ha:PAi ce X (e::es) ma)(hlen:∀σ h xs h',ma σ h=.ok xs h'->xs.length+ds.length=ps.length)(hdb:(x==("__debug__":Str))=Zk:=by decide)(he:ZC (e::es) X.env=(Zk,ZaY e X.env)::ZC es X.env:=by rfl)(hpl:(Zbm pos<|ZC es X.env).any (·.1)=Zk:=by rfl)
  (ht:ZaY (.Call (.Attribute (.Name x p) "__init__" apos) (e::es) [] pos) X.env=(do
   let ov<-ZaY (.Name x p) X.env
   ZeL apos.atName
   let (f,first)<-Zcg [ov] (ZdH ov "__init__" pl)
   callWith pos f first (Zbm pos<|ZC (e::es) X.env) (ZdL pos<|Zcz [] X.env)):=by rfl):
  PEi ce X (.Call (.Attribute (.Name x p) "__init__" apos) (e::es) [] pos) (Jn f dvs ma):=by
 intro pj s σ H ι σi h Q E N K
 obtain⟨fa',f1,f2,hk⟩:=B.fc
 have ef:fa'=fa:=by
  have:=f1.symm.trans M.init
  cases this
  rfl
 subst ef
 refine W.methodCall_KW (pl:=pl) (Xl N.inv hg hm ?_ hdb) ht
 refine W.method_cls N.inv.kIn B.sp<|W.cls_value N.inv.kIn B.rd f2 rfl ?_
 have N':Now ce X pj ι σi h σ H {s with toks:=s.toks+1}:=⟨N.inv.tok _,N.rel,N.st⟩
 refine W.callWith_K (h₀:=X.base) N.inv.ok.mod.kin hk ?_ he hpl
 have K':=K
 unfold Jn at K'
 refine ha pos pj _ σ H ι σi h _ E N' ?_
 cases e0:ma σi h with
 |exc n h'=>rw[e0]at K';exact K'
 |stuck=>rw[e0]at K';exact K'
 |ok xs h'=>
  rw[e0]at K'
  intro us s1 H1 ι1 N1 n1 r1
  have hl:xs.length=us.length:=by
   obtain⟨vs,rv,q⟩:=r1
   rw[<-rv.length,q.length]
  have hl2:=hlen σi h xs h' e0
  exact⟨N1.inv.kIn,YG (us:=us) F hr hb hd 00 N1 r1<|Kont.mono (r:=f (xs++dvs) h') K' n1⟩
end
section
variable{prog:ZB}{w:ZV}{A:ZN}{E:QvT}{s:Zn}{x y:Str}{t u:Tok}{Q:QvT}
open Builtin Builtin.Str in
end
section
variable{ce:CeT}{X:Cx}
def Y4:IV->IH->Res IV
 |.str x,h=>if x.length<=640 then(match Zew x with
  |some n=>.ok (.int n) h
  |none=>.stuck)else .stuck
 |v,h=>intI v h
theorem J1x:Qh ce X (.type "int") (on1 Y4):=by
 intro pj s σ H ι σi h xs us Q E N rs K
 match xs,K with
 |[.str x],K=>
  obtain⟨vs,rv,qs⟩:=rs
  obtain⟨w,rfl,e⟩:=qs.one_of
  cases (show w=.str x from e)
  obtain⟨u,rfl,ru⟩:=Qn rv
  obtain⟨t,rfl⟩:=ru
  have K:Kont ce X RU pj ι σi σ H (if x.length<=640 then(match Zew x with
   |some n=>.ok (.int n) h
   |none=>.stuck)else .stuck) Q E:=K
  split at K
  ·rename_i hz
   cases en:Zew x with
   |none=>rw[en]at K;exact Zf K
   |some n=>
    rw[en]at K
    exact W.KIN.call_text en hz<|fin0 N K rfl _ _ (N.inv.tok _) ⟨_,rfl⟩
  ·exact Zf K
 |[],K=>exact VQ pj s σ H ι σi h [] us Q E N rs K
 |[.non],K=>exact VQ pj s σ H ι σi h _ us Q E N rs K
 |[.bl _],K=>exact VQ pj s σ H ι σi h _ us Q E N rs K
 |[.int _],K=>exact VQ pj s σ H ι σi h _ us Q E N rs K
 |[.ref _],K=>exact VQ pj s σ H ι σi h _ us Q E N rs K
 |[.tup _],K=>exact VQ pj s σ H ι σi h _ us Q E N rs K
 |[.rol _],K=>exact VQ pj s σ H ι σi h _ us Q E N rs K
 |y::z::r,K=>exact VQ pj s σ H ι σi h (y::z::r) us Q E N rs K
end
section
variable{prog:ZB}{w:ZV}{A:ZN}{E:QvT}{s:Zn}
end
section
variable{ce:CeT}{X:Cx}
end
section
variable{ce:CeT}{X:Cx}{pj:PnT}{σ:L2.St}{H:Hp}{s:Zn}{ι:Tp}{σi:ISt}{h:IH}{n:Nat}{c:Str}{fs:Wl}{a:Zq}
end
section
variable{P:ZB}{w:ZV}{K:W.Frag}{mg:Str->Wx}{base:Zax}{ce:CeT}
end
section
variable{ce:CeT}{X:Cx}
end
section
variable{prog:ZB}{w:ZV}{A:ZN}{E:QvT}{s:Zn}
end
noncomputable def neIn (K:W.Frag)(C:Zq):Bool:=match K.lookup C with
 |some ⟨.type "type",_,.cls cd,sl⟩=>(match cd.mro,sl.toList with
  |[.ref C',.type "object"],[_,_,_,_,Za (.builtin _),_]=>C'==C&&!cd.hasDel&&W.nsOkIn K cd.ns&&W.nsIn K cd.ns "__eq__"==Za Zc&&W.nsIn K cd.ns "__ne__"==Za Zc
  |_,_=>Zk)
 |_=>Zk
section
variable{ce:CeT}{X:Cx}{pj:PnT}{s:Zn}{σ:L2.St}{H:Hp}{ι:Tp}{σi:ISt}{h:IH}
end
section
variable{ce:CeT}{X:Cx}
end
section
variable{X:Cx}
end
section
variable{ce:CeT}{X:Cx}
end
noncomputable def VO:Ty->Wt
 |.lst=>Za Zh|.ins c=>if c=="Work" then Za Zk else Zc|.exc _=>Zc|_=>Za Zk
theorem Jqg{ce:CeT}{K:W.Frag}(h:∀C,ce "Work"=Za C->ClsI K C/\W.kitOne K (.ref C) (.type "list")=Za Zk):IsOk ce K (.type "list") VO:=by
 have O:IsOk ce K (.type "list") QN:=Jl8
 refine⟨O.non,O.bl,O.int,O.str,O.lst,O.tup,O.dct,λk C b e hk=>?_,(λk C b e=>by cases e)⟩
 unfold VO at e
 dsimp only at e
 split at e
 ·rename_i q
  cases beq_iff_eq.mp q
  cases e
  exact h C hk
 ·cases e
section
variable{ce:CeT}{X:Cx}{x:Expr}{m:E1}{pos:Pos}
end
section
variable{prog:ZB}{w:ZV}{A:ZN}{E:QvT}{hp:Zax}{ge:Wy}{dr:Drawn}{tk:Nat}{ox:OsState}
variable{nm qn:Str}{C Na:Zq}{bs bm bmB:To}{hdct:Bool}{sn:Tg}{sub:To}{ab:Bool}{col:Wt}{dd:Wz}{k0 k1 k2 k3 k5:Wx}{B Bn newId nid initId inN:String}{bmN:To}
end
section
variable{X:Cx}{pj:PnT}{σ:L2.St}{H:Hp}{s:Zn}{k:Nat}{f C:Zq}{fd:ZaH}{ps:Tg}{sp:Sp}{dvs:Tu}{ds:To}{E:XK}{Q:VK}{us:To}{vs:Tu}{W:QvT}
end
section
variable{ce:CeT}{X:Cx}{k:Nat}{fa C:Zq}{fd:ZaH}{ps:Tg}{f:Tq->IH->Res IV}{dvs:Tq}{ds:To}{x c:Str}{p pos:Pos}{e:Expr}{es:Ta}{ma:A1}
end
section
variable{X:Cx}{pj:PnT}{σ:L2.St}{H:Hp}{s:Zn}{f C e:Zq}{tv:Ze}{d:Wz}{us:To}
end
section
variable{ce:CeT}{X:Cx}{D:Zq}{x:Str}{p pos apos:Pos}{e:Expr}{es:Ta}{ma:A1}{pl:Sem Bool}
end
section
variable{prog:ZB}{w:ZV}{A:ZN}{K:W.Frag}{C x:Zq}{s:Zn}{R:Zep->Zn->Prop}{ox:Obj}{name:Str}{v:Ze}
end
section
variable{prog:ZB}{w:ZV}{A:ZN}{K:W.Frag}{C x:Zq}{s:Zn}{ox:Obj}{name:Str}{v:Ze}
end
section
variable{ce:CeT}{X:Cx}{o value:Expr}{mo mv:E1}{pos pos':Pos}{fl:Str}
end
end L3
namespace L3
open PySem PySem.Spec PySem.Calls PyProof.Rows L2
section
variable{prog:ZB}{w:ZV}{A:ZN}{E:QvT}{s:Zn}{K:W.Frag}{x D:Zq}{ox od:Obj}{f:Str}{v:Ze}
end
section
variable{ce:CeT}{X:Cx}{o:Expr}{mo:E1}{pos:Pos}{fl:Str}
end
section
variable{ce:CeT}{X:Cx}
end
end L3
namespace L3
open PySem PySem.Spec PyProof.Rows L2
section
variable{ce:CeT}{X:Cx}
end
section
variable{α β γ δ:Type}{ce:CeT}{X:Cx}{R:REL α β}{R':REL γ δ}{a:Zq}{n:Nat}
variable{b c:Expr}{pos:Pos}{rest:Ta}{ta tb:T1}{mb:E1}
end
section
variable{ce:CeT}{X:Cx}
section
variable{A:ZN}{R:Zep->Zn->Prop}{Q E:QvT}{pj:PnT}{σi:ISt}{σ:L2.St}{G:Hp->Prop}{fq:Zq}{mk:IV->IH->Res IV}{gt:IV->IV->Wt}{i n:Nat}{l I C:Zq}{kw:Wj}
theorem Jv1(hh:A.handled=Zc)(cm:CmpK ce X A.in1 .Lt gt)(ko:X1 ce X A.in1 σi σ pj G (.ref fq) mk)(hG:∀H H',Ext H H'->G H->G H')(N:Now ce X pj ι σi h σ H z)(g:G H)(hi:ι[i]?=Za l)
  (K:Kont ce X RU pj ι σi σ H (QR gt mk i Zc h) Q E):Z0 (Z9 X.prog X.w) A (call (.builtin "min") [.ref l] [(ZS "key",.ref fq)]) Q E z:=by
 refine kmk_tree PySem.F.kind_min PySem.F.plain_min PySem.F.entry_min (kmk_min_key _ _) ?_
 show Z0 _ A.in1 (Zap "min" ["key","default"] 0 ⟨[],[(ZS "key",.ref fq)]⟩>>=_) _ _ z
 refine Zd<|Zeu (show Zap "min" ["key","default"] 0 ⟨[],[(ZS "key",.ref fq)]⟩=pure [Za<|.ref fq,Zc]from rfl) ?_
 refine Zd<|Zv ?_
 exact Jsq (dv:=Zc) mmN hh cm ko hG N g hi (λy e=>by cases e) (λv s' q=>q) (λc s' q r=>⟨q,r⟩) K
end
def XA(gt:IV->IV->Wt)(q:Str)(j:Nat)(js:Tl)(aa:A1)(m:E1):E1:=λσ h=>(aa σ h).bind λxs h1=>match h1[j]? with
 |some (.tab q')=>if q'=q then(match xs with
  |[.ref i]=>QR gt (λv h'=>m (Za v::js.map λj=>(σ[j]?).join) h') i Zc h1
  |_=>.stuck)else .stuck
 |_=>.stuck
theorem J2p{k:Nat}{q x:Str}{caps:Tg}{js:Tl}{j:Nat}{a body:Expr}{aa:A1}{m:E1}{lt:IV->IV->Wt}{params:ZbY}{scope:Zbg}{p lp pos kp:Pos}(hg:Gl X "min")(hm:X.mg "min"=Zc)(ha:PAi ce X [a] aa)(cm:∀A:ZN,A.units+64<Ze7->CmpK ce X A .Lt lt)(hs:ZC [a] X.env=[(Zk,ZaY a X.env)])
  (hr:Room (k+2) X.A)(hcd:W.codeIn X.K X.env.code q=Zh)(hq:X.env.qual=q++".<locals>.")(B:QB X.mg X.base)(hx:QT params=Za x)(S:LamSc X.N X.env.scope.names x caps js scope)
  (hb:∀f cd s' H',PEi ce (cxL X X.A.in1 (x::caps) q scope f cd s' H') body m):
  PEi ce X (.Call (.Name "min" p) [a] [⟨Za "key",.Lambda params body scope lp,kp⟩] pos) (XA lt q j js aa m):=λpj s σ H ι σi h Q E N K=>by
 have hcl:ZcQ scope X.env=pure (clOf X.env.cells scope.names []):=Jat λy hm hk=>N.inv.ok.has y.1<|.inl<|S.free y hm hk
 refine Zag<|Q8 N.inv hg hm rfl ?_
 refine Zev ?_ (by rw[hs];rfl) (by rw[hs];rfl) rfl rfl
 refine(ha pos).run N K λxs h1 us s1 H1 ι1 N1 n1 r1 K1=>?_
 cases ej:h1[j]? with
 |none=>rw[ej]at K1;exact Zf K1
 |some ob=>
  rw[ej]at K1
  cases ob with
  |tab q'=>
   dsimp only at K1
   split at K1
   ·rename_i eq
    subst eq
    refine ZaJ<|Zd<|Jka N1 ej hcd hq (Jj9 hx) hcl B λf c pm ctv s2 H2 N2 n2 LC=>Zd<|Zbj<|Zv ?_
    refine ZbH ?_
    have K3:=Kont.more (pl:=[(f,lamO q' params body scope (clOf X.env.cells scope.names []) pm ctv c)])<|Kont.mono K1 n2
    obtain⟨vs,rv,qs⟩:=r1.mono n2
    cases xs with
    |nil=>exact Zf K3
    |cons x t=>
     cases t with
     |cons _ _=>cases x<;>exact Zf K3
     |nil=>
      cases x with
      |ref i=>
       obtain⟨w,rfl,ad,rfl,hav⟩:=qs.one_of
       obtain⟨u,rfl,ru⟩:=Qn rv
       cases ru
       refine Jv1 (G:=λH=>QL H q'<|.ref c) (mk:=λv h'=>m (Za v::js.map λj=>(σi[j]?).join) h') hr.hd (cm _ hr.in1.units) ?_ (λH H' e g=>g.mono e.frzs) N2 LC hav ?_
       ·intro pl s4 H4 ι4 h4 v u Q4 N4 g4 ru4 K4
        have pf:=N4.inv.pin (f,lamO q' params body scope (clOf X.env.cells scope.names []) pm ctv c)<|Zl _<|ZQ _<|Zl _<|Zx.mpr rfl
        exact Jnn (A:=X.A.in1) N.inv.ok.frames hr.in1 N4 pf.1 g4 hx S (hb f<|.ref c) ru4 K4
       ·exact K3
      |_=>exact Zf K3
   ·exact Zf K1
  |_=>exact Zf K1
end
def ltL:Tk->Tk->Bool
 |a::as,b::bs=>if a=b then ltL as bs else decide (a<b)
 |_,_=>Zk
abbrev ivl(l:Wh):To:=l.map λp=>.int p.1 p.2
section
open PySem.AutoSeq1 (wpAny_loadPart')
open PySem.MeetsSeq PySem.MeetsSeq2 PySem.MeetsSeq3 PySem.SeqRoads2
theorem Jq2(l b:Zq)(as bs:Wh)(hl:as.length=bs.length)(n n2:Nat)(dd dd2:Wz)(sl sl2:Wb):
  Meets (ZcT.«tuple.__lt__» ⟨[.ref l,.ref b],[]⟩)
   (λA R s=>s.heap.get? l=Za {cls:=.type "tuple",dict:=dd,data:=.seq (ivl as).toArray n,slots:=sl}/\s.heap.get? b=Za {cls:=.type "tuple",dict:=dd2,data:=.seq (ivl bs).toArray n2,slots:=sl2} /\
    R (.ok (.ret (.bool (ltL (as.map (·.1)) (bs.map (·.1)))))) s):=
 .of_wp λprog w A R s h=>by
  obtain⟨hp,g,d,tk,os⟩:=s;obtain⟨ho,hb,h⟩:=h
  have f2:=AutoSeq1.sub_tuple_tuple
  wp_walk using Zcr ho,Zcr hb,wpAny_forIn_list _ (λrest b s'=>b.1=Zc/\s'=⟨hp,g,d,tk,os⟩/\∃xs ys:Wh,xs.length=ys.length/\rest=(ivl xs).zip (ivl ys) /\
   R (.ok (.ret (.bool (ltL (xs.map (·.1)) (ys.map (·.1)))))) ⟨hp,g,d,tk,os⟩) _
  case turn=>
   rintro⟨y,x⟩ rest b s' ⟨hb',rfl,xs,ys,ll,hz,hR⟩
   match xs,ys,ll,hz,hR with
   |p::xs,q::ys,ll,hz,hR=>
    injection hz with hyx hrest
    have hy:Zcx p.1 p.2=y:=(congrArg Prod.fst hyx).symm
    have hx:Zcx q.1 q.2=x:=(congrArg Prod.snd hyx).symm
    subst hy hx
    refine Zd<|wpAny_eqBool_int ?_
    by_cases e:p.1=q.1
    ·rw[beq_iff_eq.mpr e]
     wp_walk
     exact⟨rfl,rfl,xs,ys,by simpa using ll,hrest,by simpa[ltL,e]using hR⟩
    ·rw[beq_eq_false_iff_ne.mpr e]
     have cmp:=CmpOf.ints_lt (prog:=prog) (w:=w) (A:=A.in1) (P:=λi v=>∃t,v=.int (if i=0 then p.1 else q.1) t) (λi=>if i=0 then p.1 else q.1) λ_ _ q=>q
     have hc:∀(Q:QvT)(E:QvT)(s:Zn),Q (.bool<|decide (p.1<q.1)) s->Z0 (Z9 prog w) A.in1 (ZcZ .Lt (.int p.1 p.2)<|.int q.1 q.2) Q E s:=λQ E s h=>by
      have:=cmp 0 1 (.int p.1 p.2) (.int q.1 q.2) s Q E ⟨p.2,03⟩ ⟨q.2,03⟩
      simp only[if_true,show ¬(1:Nat)=0 by decide,if_false]at this
      exact this h
     show Z0 _ A.in1 (rule _>>=λ_=>ZcZ .Lt (.int p.1 p.2) (.int q.1 q.2)>>=λv=>ret v>>=λf=>pure<|ForInStep.done (Za f,())) _ _ _
     refine Zd<|Zdy<|Zd<|hc _ _ _<|Zd<|Zv<|Zv<|Zv ⟨_,rfl,?_⟩
     simpa[ltL,e]using hR
   |[],ys,ll,hz,hR=>cases hz
   |_::_,[],ll,hz,hR=>cases hz
  case fin=>
   rintro⟨b1,b2⟩ s' ⟨hb',rfl,xs,ys,ll,hz,hR⟩
   simp only at hb'
   subst hb'
   match xs,ys,ll,hz,hR with
   |[],[],_,_,hR=>
    wp_walk
    exact⟨_,rfl,by simpa[Builtin.Tuple.tupleCompareSizes,hl,ltL]using hR⟩
   |_::_,_::_,_,hz,_=>cases hz
  case h=>
   exact⟨rfl,rfl,as,bs,hl,03,h⟩
end
theorem Jhw:∀{us:To}{ns:Tk},Zb4 us ns->∃l:Wh,us=ivl l/\l.map (·.1)=ns
 |[],[],_=>⟨[],rfl,rfl⟩
 |[],_::_,h=>by cases h
 |_::_,[],h=>by cases h
 |u::us,n::ns,h=>by
  cases h
  rename_i t r
  obtain⟨l,e1,e2⟩:=Jhw r
  exact⟨(n,t)::l,by rw[e1];rfl,by rw[<-e2];rfl⟩
def ltT:IV->IV->Wt
 |.tup xs,.tup ys=>(match JI xs,JI ys with
  |some as,Za bs=>if as.length=bs.length then Za (ltL as bs)else Zc
  |_,_=>Zc)
 |_,_=>Zc
section
variable{ce:CeT}{X:Cx}
theorem J24{A:ZN}(hu:A.units<Ze7)(N:Now ce X pj ι σi h σ H s)(r:RU X.K ι H k u)(rb:RU X.K ι H kb ub)(e:ltT k kb=Za b)(q:Q (.bool b) s):Z0 (Z9 X.prog X.w) A (ZcZ .Lt u ub) Q E s:=by
 cases k with
 |tup xs=>
  cases kb with
  |tup ys=>
   obtain⟨x,rx,a,vs,rfl,sa,ra⟩:=r
   obtain⟨y,ry,c,ws,rfl,sc,rc⟩:=rb
   have ru:u=.ref a:=rx
   have rub:ub=.ref c:=ry
   subst ru rub
   unfold ltT at e
   dsimp only at e
   cases e1:JI xs with
   |none=>rw[e1]at e;cases e
   |some as=>
    cases e2:JI ys with
    |none=>rw[e1,e2]at e;cases e
    |some bs=>
     rw[e1,e2]at e
     dsimp only at e
     split at e
     ·rename_i hl
      cases e
      obtain⟨its,v1,⟨⟨cls,dd,data,sl⟩,ho,hc,n,hd⟩,_⟩:=N.inv.tuple sa
      obtain⟨jts,v2,⟨⟨cls2,dd2,data2,sl2⟩,ho2,hc2,n2,hd2⟩,_⟩:=N.inv.tuple sc
      simp only at hc hd hc2 hd2
      subst hc hd hc2 hd2
      obtain⟨l,rfl,rfl⟩:=Jhw<|Vd e1 ra v1
      obtain⟨m,rfl,rfl⟩:=Jhw<|Vd e2 rc v2
      exact richCompare_meets_room (op:=.Lt) ⟨_,ho,rfl⟩ ⟨_,ho2,rfl⟩ PySem.F.slot_tuple_lt PySem.F.entry_tuple_lt (PySem.F.args_tuple_lt_2 _ _) (Jq2 a c l m (by simpa using hl) n n2 dd dd2 sl sl2)
       ⟨ho,ho2,show ZcL (ltL (l.map (·.1)) (m.map (·.1)))≠Value.notImplemented/\Q (.bool (ltL (l.map (·.1)) (m.map (·.1)))) s from⟨(λx=>nomatch x),q⟩⟩ hu
     ·cases e
  |_=>cases e
 |_=>cases e
theorem Jyx{A:ZN}(hu:A.units<Ze7):CmpK ce X A .Lt ltT:=λ_ _ _ _ _ _ s _ _ _ _ _ _ _ N r rb e q=>J24 hu N r rb e<|q s.heap s.toks λ_ _ e=>e
end
section
variable{pr:ZB}{wd:ZV}{B:ZN}{R:Zep->Zn->Prop}{it:Zq}{fps wrs:Tp}{n:Nat}{St:Nat->Zax->Prop}
end
section
variable{pr:ZB}{wd:ZV}{B:ZN}{E:QvT}{z:Zn}{l:Zq}{us:To}{k:Nat}{f:Nat->Tk}{Q:QvT}
end
section
variable{ce:CeT}{X:Cx}
end
end L3
namespace L3
open PySem PySem.Spec PyProof.Rows L2 PySem.W
noncomputable def Jy {α:Type}(lt:Nat->Nat->Bool):KasT α->α
 |.ret a=>a
 |.ask i j k=>Jy lt<|k<|lt i j
def Asks{α:Type}(n:Nat)(P:α->Prop):KasT α->Prop
 |.ret a=>P a
 |.ask i j k=>i<n/\j<n/\∀b,Asks n P<|k b
theorem Asks.mono{α:Type}{n:Nat}{P P':α->Prop}(f:∀a,P a->P' a):∀{t:KasT α},Asks n P t->Asks n P' t
 |.ret _,h=>f _ h
 |.ask _ _ _,⟨h1,h2,h3⟩=>⟨h1,h2,λb=>Asks.mono f<|h3 b⟩
theorem Asks.bind{α β:Type}{n:Nat}{P:α->Prop}{P':β->Prop}{f:α->KasT β}(hf:∀a,P a->Asks n P' (f a)):∀{t:KasT α},Asks n P t->Asks n P' (t.bind f)
 |.ret _,h=>hf _ h
 |.ask _ _ _,⟨h1,h2,h3⟩=>⟨h1,h2,λb=>Asks.bind hf<|h3 b⟩
theorem Asks.run:∀{t:KasT α},Asks n P t->P (Jy lt t)
 |.ret _,h=>h
 |.ask i j k,⟨_,_,h⟩=>Asks.run (t:=k<|lt i j)<|h<|lt i j
theorem Asks.wp{α:Type}{P:α->Prop}{Q:α->Zn->Prop}(hc:∀i j,i<n->j<n->∀C:Bool->Zn->Prop,C (lt i j) s->cmp i j C s):
  ∀{t:KasT α},Asks n P t->Q (Jy lt t) s->t.kasWp cmp Q s
 |.ret _,_,q=>q
 |.ask i j k,⟨h1,h2,h3⟩,q=>hc i j h1 h2 _<|Asks.wp (t:=k<|lt i j) hc (h3<|lt i j) q
def Bd(n:Nat)(p:Tc):Prop:=0<n/\p.toList.Perm (ZM n)
theorem Bd.at(h:Bd n p)(i:Nat):p.getD i 0<n:=by
 by_cases hi:i<p.size
 ·rw[ZaW,Zd6 hi]
  have:p[i]∈p.toList:=03
  exact Zay.mp<|h.2.mem_iff.mp this
 ·rw[ZaW,Array.getElem?_eq_none 00]
  exact h.1
theorem Jje{n:Nat}{p:Tc}(h:Bd n p):∀f m,Asks n (λ_=>True) (ZbR p f m)
 |0,_=>trivial
 |f+1,m=>⟨h.at _,h.at _,λb=>by
   dsimp only
   split
   ·trivial
   ·exact Jje h f _⟩
theorem Jfw{n:Nat}{p:Tc}(h:Bd n p)(k:Nat):∀f l r,Asks n (λ_=>True) (Zds p k f l r)
 |0,_,_=>trivial
 |f+1,l,r=>by
  unfold Zds
  split
  ·trivial
  ·exact⟨h.at _,h.at _,λb=>by
    dsimp only
    split
    ·exact Jfw h k f _ _
    ·exact Jfw h k f _ _⟩
theorem Bd.perm{p q:Tc}(h:Bd n p)(r:q.Perm p):Bd n q:=⟨h.1,(Array.perm_iff_toList_perm.mp r).trans h.2⟩
theorem Bd.rev(h:Bd n p)(i j:Nat):Bd n (ZbI p i j):=h.perm<|mirror_perm _ _ _ _
theorem Jej:∀f (p:Tc) m q,Bd n p->Asks n (λr=>Bd n r.1) (Zdb f p m q)
 |0,_,_,_,h=>h
 |f+1,p,m,q,h=>⟨h.at _,h.at _,λb=>by
   dsimp only
   split
   ·split
    ·exact Jej f _ _ _<|h.rev _ _
    ·exact Jej f _ _ _ h
   ·exact⟨h.at _,h.at _,λd=>by
     dsimp only
     split
     ·exact h
     ·exact Jej f _ _ _ h⟩⟩
theorem Ji2{n:Nat}{p:Tc}(h:Bd n p)(m r:Nat):Asks n (λr=>Bd n r.2) (Ze5 m r p):=by
 unfold Ze5
 refine Asks.bind (P:=λ_=>True) (λx _=>?_)<|Jje (h.rev _ _) _ _
 exact h.rev _ _
theorem Jek{n:Nat}{p:Tc}(h:Bd n p)(m r:Nat):Asks n (λr=>Bd n r.2) (ZcD m r p):=
 Asks.bind (λx hx=>by
  split
  ·exact Ji2 (hx.rev _ _) _ _
  ·exact Ji2 hx _ _) (Jej _ _ _ _ h)
theorem Jp1{n:Nat}{p:Tc}(h:Bd n p)(r:Nat):Asks n (λr=>Bd n r.2) (ZdN r p):=
 Asks.bind (λm _=>by
  split
  ·exact h
  ·split
   ·exact⟨h.at _,h.at _,λb=>by
     dsimp only
     split
     ·exact h
     ·exact Jek (h.rev _ _) _ _⟩
   ·exact Jek h _ _) (Jje h _ _)
theorem Joi{n:Nat}:∀f (p:Tc) k,Bd n p->Asks n (Bd n) (kas_bin f p k)
 |0,_,_,h=>h
 |f+1,p,k,h=>Asks.bind (λl _=>Joi f _ _<|h.perm<|bubble_perm _ _ _)<|Jfw h k _ _ _
theorem Jg5{n:Nat}(hn:0<n):Asks n (Bd n) (ZbW n):=
 Asks.bind (λr hr=>by
  split
  ·exact Joi _ _ _ hr
  ·exact hr) (Jp1 ⟨hn,List.Perm.refl _⟩ n)
section
variable{prog:ZB}{w:ZV}{A:ZN}{E:QvT}{s:Zn}{b:Bool}{Q:Bool->Zn->Prop}
end
theorem Jwr(vs:To)(h:vs.length<2):(Jy lt<|ZbW vs.length).toList.map (λi=>vs.getD i ZaA)=vs:=by
 match vs,h with
 |[],_=>simp[ZbW,ZdN,ZbR,KasT.bind,ZcD,Zdb,Ze5,Jy,ZbI,mirror,Array.swapIfInBounds]
 |[v],_=>
  have:=(Jg5 (n:=1) 01).run (lt:=lt)
  have e:(Jy lt<|ZbW 1).toList=[0]:=List.perm_singleton.mp this.2
  show(Jy lt<|ZbW 1).toList.map _=_
  rw[e]
  rfl
 |_::_::_,h=>simp at h;omega
section
variable{prog:ZB}{w:ZV}{A:ZN}{E:QvT}{s:Zn}
end
theorem Jm6(r:Vals vs us):∀p:Tl,(∀i∈p,i<vs.length)->Vals (p.map λi=>vs.getD i .non) (p.map λi=>us.getD i ZaA)
 |[],_=>.nil
 |i::p,h=>by
  have hi:=h i<|Zy ..
  obtain⟨u,eu,ru⟩:=r.get<|Zb hi
  refine .cons ?_<|Jm6 r p λj hj=>h j<|Zp _ hj
  show L2.RelV (vs.getD i .non)<|us.getD i ZaA
  rw[Zi,Zi,Zb hi,eu]
  exact ru
theorem Jo5{K:W.Frag}{ι:Tp}{H:Hp}{xs:Tq}{vs:Tu}(r:RVs K ι H xs vs):∀p:Tl,(∀i∈p,i<xs.length)->RVs K ι H (p.map λi=>xs.getD i .non) (p.map λi=>vs.getD i .non)
 |[],_=>rfl
 |i::p,h=>by
  have hi:=h i<|Zy ..
  obtain⟨v,ev,rv⟩:=r.get<|Zb hi
  refine⟨_,_,rfl,?_,Jo5 r p λj hj=>h j<|Zp _ hj⟩
  show RV K ι H (xs.getD i .non)<|vs.getD i .non
  rw[Zi,Zi,Zb hi,ev]
  exact rv
section
variable{ce:CeT}{X:Cx}
end
theorem XI{α β:Type}{lt:Nat->Nat->Bool}{f:α->KasT β}:∀(t:KasT α),Jy lt (t.bind f)=Jy lt (f<|Jy lt t)
 |.ret _=>rfl
 |.ask i j k=>XI<|k<|lt i j
section
variable{kf:Nat->Int}{p:Tc}{n i j:Nat}
abbrev ltF(kf:Nat->Int)(i j:Nat):Bool:=decide (kf i<kf j)
def kAt(kf:Nat->Int)(p:Tc)(i:Nat):Int:=kf<|p.getD i 0
def Ris(kf:Nat->Int)(p:Tc)(n:Nat):Prop:=∀i j,i<=j->j<n->kAt kf p i<=kAt kf p j
def Fal(kf:Nat->Int)(p:Tc)(n:Nat):Prop:=∀i j,i<=j->j<n->kAt kf p j<=kAt kf p i
theorem Y5(h:p[i]?=q[j]?):kAt kf p i=kAt kf q j:=by
 unfold kAt
 rw[ZaW,ZaW,h]
theorem Jnm(hj:j<=p.size)(m:Nat):kAt kf (ZbI p i j) m=if i<=m/\m<j then kAt kf p (i+j-1-m)else kAt kf p m:=by
 have e:=getElem?_mirror_all (i:=i) hj m
 split at e
 ·rename_i c;rw[if_pos c];exact Y5 e
 ·rename_i c;rw[if_neg c];exact Y5 e
theorem Jsm(hs:k<p.size)(hd:d<=k)(m:Nat):kAt kf (bubble p k d) m=if m=k-d then kAt kf p k else if k-d<m/\m<=k then kAt kf p (m-1)else kAt kf p m:=by
 have e:=getElem?_bubble hs d hd m
 split at e
 ·rename_i c;rw[if_pos c];exact Y5 e
 ·rename_i c
  rw[if_neg c]
  split at e
  ·rename_i c;rw[if_pos c];exact Y5 e
  ·rename_i c;rw[if_neg c];exact Y5 e
theorem Jf4(hj:j<=p.size)(h:∀m,i<=m->m<j->kAt kf p m=kAt kf p (j-1))(m:Nat):kAt kf (ZbI p i j) m=kAt kf p m:=by
 rw[Jnm hj]
 split
 ·rw[h _ 00 00,h m 00 00]
 ·rfl
theorem Ris.succ(h:Ris kf p n)(h1:1<=n)(q:kAt kf p (n-1)<=kAt kf p n):Ris kf p (n+1):=λi j hij hj=>by
 by_cases e:j<n
 ·exact h i j hij e
 ·obtain rfl:j=n:=00
  by_cases e2:i=j
  ·subst e2;exact ZJ _
  ·exact Zee (h i (j-1) 00 00) q
theorem Fal.succ(h:Fal kf p n)(h1:1<=n)(q:kAt kf p n<=kAt kf p (n-1)):Fal kf p (n+1):=λi j hij hj=>by
 by_cases e:j<n
 ·exact h i j hij e
 ·obtain rfl:j=n:=00
  by_cases e2:i=j
  ·subst e2;exact ZJ _
  ·exact Zee q<|h i (j-1) 00 00
theorem Jnv:∀(f n:Nat),1<=n->Ris kf p n->n<=Jy (ltF kf) (ZbR p f n)/\Jy (ltF kf) (ZbR p f n)<=n+f/\Ris kf p (Jy (ltF kf)<|ZbR p f n)/\(Jy (ltF kf) (ZbR p f n)=n+f∨kAt kf p (Jy (ltF kf)<|ZbR p f n)<kAt kf p (Jy (ltF kf) (ZbR p f n)-1))
 |0,n,_,h=>⟨Zm _,Zm _,h,.inl rfl⟩
 |f+1,n,h1,h=>by
  show n<=Jy (ltF kf) (if decide (kAt kf p n<kAt kf p (n-1))=Zh then .ret n else ZbR p f (n+1))/\_
  have e:Jy (ltF kf) (ZbR p (f+1) n)=Jy (ltF kf) (if decide (kAt kf p n<kAt kf p (n-1))=Zh then .ret n else ZbR p f (n+1)):=rfl
  rw[e]
  split
  ·rename_i c
   exact⟨Zm _,by show n<=_;omega,h,.inr<|of_decide_eq_true c⟩
  ·rename_i c
   have c:¬kAt kf p n<kAt kf p (n-1):=by simpa using c
   obtain⟨a,b,d,g⟩:=Jnv f (n+1) 00<|h.succ h1 00
   exact⟨00,00,d,g.imp (λz=>00) id⟩
structure Dn(kf:Nat->Int)(p:Tc)(n q:Nat):Prop where
 f:Fal kf p n
 q1:q+1<=n
 e:∀m,n-(q+1)<=m->m<n->kAt kf p m=kAt kf p (n-1)
theorem Jgz:∀(f:Nat)(p:Tc)(n q:Nat),p.size=z->n+f<=z->Dn kf p n q->∀r,Jy (ltF kf) (Zdb f p n q)=r->r.1.size=z/\n<=r.2.1/\r.2.1<=n+f/\Dn kf r.1 r.2.1 r.2.2
 |0,p,n,q,hz,hf,d,r,e=>by subst e;exact⟨hz,Zm _,Zm _,d⟩
 |f+1,p,n,q,hz,hf,d,r,e=>by
  have dq:=d.q1
  have e':Jy (ltF kf) (if decide (kAt kf p n<kAt kf p (n-1))=Zh then(if q>0 then Zdb f (ZbI p (n-(q+1)) n) (n+1) 0 else Zdb f p (n+1) 0)
   else .ask (p.getD (n-1) 0) (p.getD n 0) λd=>if d=Zh then .ret (p,n,q)else Zdb f p (n+1) (q+1))=r:=e
  split at e'
  ·rename_i c
   have c:kAt kf p n<kAt kf p (n-1):=by simpa using c
   split at e'
   ·have same:=λm=>Jf4 (kf:=kf) (i:=n-(q+1)) (j:=n) (p:=p) 00 d.e m
    have d2:Dn kf (ZbI p (n-(q+1)) n) (n+1) 0:=by
     refine⟨λi j hij hj=>?_,00,λm h1 h2=>by rw[show m=n+1-1 by omega]⟩
     rw[same,same]
     exact d.f.succ 00 00 i j hij hj
    obtain⟨a1,a2,a3,a4⟩:=Jgz f _ (n+1) 0 ((Zdc _ _ _ _).trans hz) 00 d2 r e'
    exact⟨a1,00,00,a4⟩
   ·have d2:Dn kf p (n+1) 0:=⟨d.f.succ 00 00,00,λm h1 h2=>by rw[show m=n+1-1 by omega]⟩
    obtain⟨a1,a2,a3,a4⟩:=Jgz f _ (n+1) 0 hz 00 d2 r e'
    exact⟨a1,00,00,a4⟩
  ·rename_i c
   have c:¬kAt kf p n<kAt kf p (n-1):=by simpa using c
   have e'':Jy (ltF kf) (if decide (kAt kf p (n-1)<kAt kf p n)=Zh then .ret (p,n,q)else Zdb f p (n+1) (q+1))=r:=e'
   split at e''
   ·subst e''
    exact⟨hz,Zm _,by show n<=_;omega,d⟩
   ·rename_i c2
    have c2:¬kAt kf p (n-1)<kAt kf p n:=by simpa using c2
    have d2:Dn kf p (n+1) (q+1):=by
     refine⟨d.f.succ 00 00,00,λm h1 h2=>?_⟩
     by_cases em:m=n
     ·subst em;rfl
     ·rw[d.e m 00 00]
      show _=kAt kf p n
      omega
    obtain⟨a1,a2,a3,a4⟩:=Jgz f _ (n+1) (q+1) hz 00 d2 r e''
    exact⟨a1,00,00,a4⟩
theorem Jmj{m r:Nat}(h1:1<=m)(hm:m<=r)(hr:r<=p.size)(h:Fal kf p m):∀x,Jy (ltF kf) (Ze5 m r p)=x->x.2.size=p.size/\1<=x.1/\x.1<=r/\Ris kf x.2 x.1:=by
 intro x e
 have e:Jy (ltF kf) ((ZbR (ZbI p 0 m) (r-m) m).bind λk=>.ret (k,ZbI p 0 m))=x:=e
 rw[XI]at e
 have rs:Ris kf (ZbI p 0 m) m:=λi j hij hj=>by
  rw[Jnm 00,Jnm 00,if_pos 00,if_pos 00]
  exact h _ _ 00 00
 obtain⟨a,b,c,_⟩:=Jnv (r-m) m h1 rs
 subst e
 exact⟨Zdc _ _ _ _,by show 1<=Jy (ltF kf) (ZbR (ZbI p 0 m) (r-m) m);omega,by show Jy (ltF kf) (ZbR (ZbI p 0 m) (r-m) m)<=r;omega,c⟩
theorem Jgi{m r:Nat}(hm:m+1<=r)(hr:r<=p.size)(h:Fal kf p<|m+1):∀x,Jy (ltF kf) (ZcD m r p)=x->x.2.size=p.size/\1<=x.1/\x.1<=r/\Ris kf x.2 x.1:=by
 intro x e
 unfold ZcD at e
 rw[XI]at e
 obtain⟨a1,a2,a3,a4⟩:=Jgz (z:=p.size) (r-(m+1)) p (m+1) 0 rfl 00 ⟨h,00,λk h1 h2=>by rw[show k=m+1-1 by omega]⟩ _ rfl
 generalize Jy (ltF kf) (Zdb (r-(m+1)) p (m+1) 0)=y at a1 a2 a3 a4 e
 have q1:=a4.q1
 split at e
 ·have same:=λk=>Jf4 (kf:=kf) (i:=y.2.1-(y.2.2+1)) (j:=y.2.1) (p:=y.1) 00 a4.e k
  have:=Jmj (m:=y.2.1) (r:=r) (p:=ZbI y.1 (y.2.1-(y.2.2+1)) y.2.1) 00 00 (by show r<=(mirror _ _ _ _).size;rw[Zdc];omega) (λi j hij hj=>by rw[same,same];exact a4.f i j hij hj) x e
  rw[show(ZbI y.1 (y.2.1-(y.2.2+1)) y.2.1).size=y.1.size from Zdc _ _ _ _,a1]at this
  exact this
 ·have:=Jmj (m:=y.2.1) (r:=r) (p:=y.1) 00 00 00 a4.f x e
  rw[a1]at this
  exact this
theorem Jtd{r:Nat}(h1:1<=r)(hr:r<=p.size):∀x,Jy (ltF kf) (ZdN r p)=x->x.2.size=p.size/\1<=x.1/\x.1<=r/\Ris kf x.2 x.1:=by
 intro x e
 unfold ZdN at e
 rw[XI]at e
 obtain⟨a,b,c,d⟩:=Jnv (kf:=kf) (p:=p) (r-1) 1 (Zm _) (λi j hij hj=>by
  obtain rfl:j=0:=00
  obtain rfl:i=0:=00
  exact ZJ _)
 generalize Jy (ltF kf) (ZbR p (r-1) 1)=n at a b c d e
 split at e
 ·subst e;exact⟨rfl,a,by show n<=r;omega,c⟩
 ·rename_i hn
  have hn:n≠r:=by simpa using hn
  have dn:kAt kf p n<kAt kf p (n-1):=d.resolve_left 00
  split at e
  ·have e':Jy (ltF kf) (if decide (kAt kf p 0<kAt kf p (n-1))=Zh then .ret (n,p)else ZcD n r (ZbI p 0 n))=x:=e
   split at e'
   ·subst e';exact⟨rfl,a,by show n<=r;omega,c⟩
   ·rename_i cc
    have cc:¬kAt kf p 0<kAt kf p (n-1):=by simpa using cc
    have al:∀m,0<=m->m<n->kAt kf p m=kAt kf p (n-1):=λm _ hm=>by
     have:=c 0 m 00 hm
     have:=c m (n-1) 00 00
     omega
    have same:=λk=>Jf4 (kf:=kf) (i:=0) (j:=n) (p:=p) 00 al k
    have:=Jgi (m:=n) (r:=r) (p:=ZbI p 0 n) 00 (by show r<=(mirror _ _ _ _).size;rw[Zdc];omega) (λi j hij hj=>by
     rw[same,same]
     by_cases ej:j<n
     ·rw[al i 00 00,al j 00 ej];exact ZJ _
     ·obtain rfl:j=n:=00
      by_cases ei:i=j
      ·subst ei;exact ZJ _
      ·rw[al i 00 00];omega) x e'
    rw[show(ZbI p 0 n).size=p.size from Zdc _ _ _ _]at this
    exact this
  ·obtain rfl:n=1:=00
   refine Jgi (m:=1) (r:=r) (p:=p) 00 hr (λi j hij hj=>?_) x e
   have dn:kAt kf p 1<kAt kf p 0:=dn
   match i,j with
   |0,0=>exact ZJ _
   |0,1=>omega
   |1,1=>exact ZJ _
   |_,j+2=>omega
   |i+2,_=>omega
   |1,0=>omega
theorem Jh4(h:Ris kf p k):∀(f l r:Nat),r<=k->l<=r->r-l<=f->(∀i,i<l->kAt kf p i<=kAt kf p k)->(∀i,r<=i->i<k->kAt kf p k<kAt kf p i)->∀x,Jy (ltF kf) (Zds p k f l r)=x->x<=k/\(∀i,i<x->kAt kf p i<=kAt kf p k)/\∀i,x<=i->i<k->kAt kf p k<kAt kf p i
 |0,l,r,hr,hl,hf,h1,h2,x,e=>by
  obtain rfl:l=r:=00
  subst e
  exact⟨hr,h1,h2⟩
 |f+1,l,r,hr,hl,hf,h1,h2,x,e=>by
  unfold Zds at e
  split at e
  ·obtain rfl:l=r:=00
   subst e
   exact⟨hr,h1,h2⟩
  ·have e':Jy (ltF kf) (if decide (kAt kf p k<kAt kf p ((l+r)/2))=Zh then Zds p k f l ((l+r)/2)else Zds p k f ((l+r)/2+1) r)=x:=e
   split at e'
   ·rename_i c
    have c:kAt kf p k<kAt kf p ((l+r)/2):=by simpa using c
    exact Jh4 h f _ _ 00 00 00 h1 (λi a b=>Int.lt_of_lt_of_le c<|h _ _ a b) x e'
   ·rename_i c
    have c:¬kAt kf p k<kAt kf p ((l+r)/2):=by simpa using c
    exact Jh4 h f _ _ hr 00 00 (λi a=>Zee (h i _ (show i<=(l+r)/2 by omega) 00) 00) h2 x e'
theorem Jtc:∀(f:Nat)(p:Tc)(k:Nat),k+f<=p.size->Ris kf p k->∀x,Jy (ltF kf) (kas_bin f p k)=x->Ris kf x (k+f)
 |0,p,k,_,h,x,e=>by subst e;exact h
 |f+1,p,k,hk,h,x,e=>by
  unfold kas_bin at e
  rw[XI]at e
  obtain⟨a,b,c⟩:=Jh4 h k 0 k (Zm _) (ZR _) (Zm _) (λi q=>00) (λi q r=>00) _ rfl
  generalize Jy (ltF kf) (Zds p k k 0 k)=l at a b c e
  have:=Jtc f (bubble p k<|k-l) (k+1) (by rw[bubble_size];omega) (λi j hij hj=>by
   have ed:k-(k-l)=l:=00
   rw[Jsm 00 00,Jsm 00 00,ed]
   split
   ·rename_i ei
    split
    ·exact ZJ _
    ·split
     ·exact Zef<|c _ 00 00
     ·omega
   ·split
    ·rename_i n1 y
     split
     ·omega
     ·split
      ·exact h _ _ 00 00
      ·omega
    ·split
     ·exact b i 00
     ·split
      ·exact h _ _ 00 00
      ·exact h _ _ hij 00) x e
  rwa [show k+(f+1)=k+1+f by omega]
theorem Jwa{n:Nat}(hn:0<n):Ris kf (Jy (ltF kf)<|ZbW n) n:=by
 unfold ZbW
 rw[XI]
 have hz:(ZaG<|ZM n).size=n:=03
 obtain⟨a,b,c,d⟩:=Jtd (kf:=kf) (p:=ZaG<|ZM n) (r:=n) 00 (by rw[hz];exact Zm _) _ rfl
 generalize Jy (ltF kf) (ZdN n<|ZaG<|ZM n)=y at a b c d
 rw[hz]at a
 split
 ·have em:max y.1 1=y.1:=00
  rw[em]
  have:=Jtc (kf:=kf) (n-y.1) y.2 y.1 00 d _ rfl
  rwa [show y.1+(n-y.1)=n by omega]at this
 ·obtain e:y.1=n:=00
  rw[<-e]
  exact d
end
def ordK(ks:Tk)(n:Nat):Tl:=(Jy (ltF λi=>ks.getD i 0)<|ZbW n).toList
theorem Jh2(ks:Tk)(hn:0<n):(ordK ks n).Perm (ZM n):=((Jg5 hn).run (lt:=ltF λi=>ks.getD i 0)).2
theorem Jgx(ks:Tk):ordK ks 0=[]:=by simp[ordK,ZbW,ZdN,ZbR,KasT.bind,ZcD,Zdb,Ze5,Jy,ZbI,mirror,Array.swapIfInBounds]
theorem YE(ks:Tk):∀i∈ordK ks n,i<n:=by
 intro i hi
 rcases Zd1 n with e|e
 ·subst e
  rw[Jgx]at hi
  cases hi
 ·exact Zay.mp<|(Jh2 ks e).mem_iff.mp hi
theorem Joz(ks:Tk)(n:Nat):(ordK ks n).length=n:=by
 rcases Zd1 n with e|e
 ·subst e
  rw[Jgx]
  rfl
 ·rw[(Jh2 ks e).length_eq,ZbB]
theorem Jv5(ks:Tk)(n:Nat):(ordK ks n).Pairwise λi j=>ks.getD i 0<=ks.getD j 0:=by
 rcases Zd1 n with e|e
 ·subst e
  rw[Jgx]
  exact .nil
 ·have r:=Jwa (kf:=λi=>ks.getD i 0) e
  have l:=Joz ks n
  rw[Zd7]
  intro i j hi hj hij
  have:=r i j 00 00
  have g:∀(m:Nat)(hm:m<(ordK ks n).length),(Jy (ltF λi=>ks.getD i 0)<|ZbW n).getD m 0=(ordK ks n)[m]:=λm hm=>by
   have hm':m<(Jy (ltF λi=>ks.getD i 0)<|ZbW n).size:=by rw[<-ZaK];exact hm
   rw[ZaW,Zd6 hm']
   rfl
  unfold kAt at this
  rw[g i hi,g j hj]at this
  exact this
theorem Jsf{X:Cx}{pj:PnT}{σ:L2.St}{H:Hp}{s:Zn}{h':Zax}{t':Nat}{it:Zq}{o:HO}(I:Inv X pj σ H s)(k:∀b u,b≠it->s.heap.get? b=Za u->h'.get? b=Za u)(F:FpOk X pj H it)(new:JQ X.prog X.w (upd H it o) h' it o):
  Inv X pj σ (upd H it o) {s with heap:=h',toks:=t'}:=by
 obtain⟨hn,hL,_,h1,h2,h3⟩:=F
 have nit:∀b u,H b=Za u->b≠it:=λb u e z=>by rw[z,hn]at e;cases e
 refine I.step (g':=s.gens) (d':=s.drawn) (ch:=[it]) (λb hb=>?_) (λb o _ _ hc e _=>k b o (λz=>hc<|by simp[z]) e) (λb o _ _ hc e _=>⟨o.slots,k b o (λz=>hc<|by simp[z]) e⟩) (λb o hc _ n=>by rw[Jx λz=>hc<|by simp[z]];exact n)
  (λb o hc e=>⟨o,k b o (λz=>hc<|by simp[z]) e⟩) (λb _ e=>by rw[Jx<|nit b _ e];exact e) (λb _ _ e=>by rw[Jx<|nit b _ e];exact e) (λb ps e=>⟨#[],by rw[Jx<|nit b _ e,e];simp⟩) (λm hm=>?_) (λb u e=>?_) I.bare
 ·have e:b=it:=by simpa using hb
  subst e
  exact⟨h1,hL,h2,h3⟩
 ·obtain⟨o,es,ep,ho,r⟩:=hm
  exact⟨o,es,ep,k _ o (Zab hL) ho,r⟩
 ·by_cases hb:b=it
  ·subst hb
   rw[JH]at e
   cases e
   exact new
  ·rw[Jx hb]at e
   refine(I.hok b u e).stay (λc v hc q=>k c v ?_ q) (λc q=>by rw[Jx<|nit c _ q];exact q) λc _ q=>by rw[Jx<|nit c _ q];exact q
   rcases hc with z|z
   ·rw[z];exact hb
   ·exact nit c _ z
def QS(mk:IV->IH->Res IV):Tq->Tk->IH->Res (Tk)
 |[],ks,h=>.ok ks h
 |y::r,ks,h=>(mk y h).nx.bind λk h'=>match k with
  |.int n=>QS mk r (ks++[n]) h'
  |_=>.stuck
def rvB{α:Type}(b:Bool)(l:List α):List α:=if b then l.reverse else l
theorem Vl{α:Type}{b:Bool}{l:List α}:(rvB b l).length=l.length:=by cases b;rfl;exact Zdl
def YJ(b:Bool)(ys:Tq)(ks:Tk)(h:IH):Res IV:=.ok (.ref h.length)<|h++[.lst<|rvB b<|(ordK ks ys.length).map λi=>ys.getD i .non]
def Ya(b:Bool)(ys:Tq)(ks:Tk)(h:IH):Res IV:=YJ b (rvB b ys) (rvB b ks) h
theorem RVs.rvB{K:W.Frag}{ι:Tp}{H:Hp}{b:Bool}{xs:Tq}{vs:Tu}(h:RVs K ι H xs vs):RVs K ι H (L3.rvB b xs) (L3.rvB b vs):=by cases b;exact h;exact h.rev
theorem Jpj{b:Bool}{ws:Tu}{its:To}(h:Vals ws its):Vals (rvB b ws) (rvB b its):=by
 cases b
 ·exact h
 ·exact h.reverse
section
variable{ce:CeT}{X:Cx}
section
variable{A:ZN}{Q E:QvT}{P:PySem.Fin->Zn->Prop}{pj:PnT}{σi:ISt}{σ:L2.St}{G:Hp->Prop}{fq D kS:Zq}{mk:IV->IH->Res IV}{ys:Tq}{ws:Tu}{its:To}{ks:Tk}{e e1:Nat}{H:Hp}{ι:Tp}{h:IH}{s:Zn}
theorem Jpa{b:Bool}{kA:Tf}{st:SortSt}(N:Now ce X pj ι σi h σ H s)(fD:FpOk X pj H D)(fK:FpOk X pj H kS)(hDK:D≠kS)(gD:s.heap.get? D=Za (Zav "list" #[] e1))(gK:s.heap.get? kS=Za (Zav "list" kA e))(hz:kA.size<64)
  (rv:Vals ws its)(r3:RVs X.K ι H ys ws)(h64:ys.length<64)(hout:(arrOf st).map (·.2)=ZaG ((ordK ks ys.length).map λi=>its.getD i ZaA))(hf:failedOf st=Zc)(hP:∀s',Q (.ref D) s'->P (.done<|.ret .none) s')(K:Kont ce X RU pj ι σi σ H (YJ b ys ks h) Q E):
  Z0 (Z9 X.prog X.w) A (ksk_tail D b e1 (.ref kS) st) P E s:=by
 have lo:=Joz ks ys.length
 have lt:=YE ks (n:=ys.length)
 have l1:=r3.length
 have l2:=rv.length
 have s1:∀b u,b≠kS->s.heap.get? b=Za u->(s.heap.update kS<|Zao λ_=>(#[]:Tf)).get? b=Za u:=λb u nb q=>(ZI _ _<|Zab nb).trans q
 have gD1:=s1 D _ hDK gD
 have N1:=N.turned (h':=s.heap.update kS<|Zao λ_=>(#[]:Tf)) (t':=s.toks) fK s1
 have hsz:(ZaG<|rvB b<|(ordK ks ys.length).map λi=>its.getD i ZaA).size=ys.length:=by rw[Zt,Vl,Zg,lo]
 have hrv:(if b=Zh then(ZaG<|(ordK ks ys.length).map λi=>its.getD i ZaA).reverse else ZaG ((ordK ks ys.length).map λi=>its.getD i ZaA))=ZaG (rvB b<|(ordK ks ys.length).map λi=>its.getD i ZaA):=by cases b<;>simp[rvB]
 unfold ksk_tail
 try dsimp only
 rw[hout,hrv]
 refine Zd (ZdE gK rfl ?_ (by rw[Zbl];omega) (ZR _))
 refine Zd<|ZbP ?_
 refine Zd<|seqEpoch_at gD1 rfl ?_
 refine Zd (ZdE gD1 rfl ?_ (ZR _) (by rw[hsz,Zbl];omega))
 rw[hf]
 simp only[bne_self_eq_false,Zae,if_false]
 refine Zv<|hP _ ?_
 obtain⟨c2,hc2⟩:∃c2,((s.heap.update kS<|Zao λ_=>(#[]:Tf)).update D<|Zao λ_=>ZaG<|rvB b<|(ordK ks ys.length).map λi=>its.getD i ZaA).get? D=Za (Zav "list" (ZaG<|rvB b<|(ordK ks ys.length).map λi=>its.getD i ZaA) c2):=⟨_,Zcs gD1 λ_=>ZaG<|rvB b<|(ordK ks ys.length).map λi=>its.getD i ZaA⟩
 have hl:(rvB b<|(ordK ks ys.length).map λi=>ws.getD i V.non).length<=sizeLine:=by rw[Vl,Zg,lo,Zbl];omega
 have I':=Jsf N1.inv (o:=.lst<|rvB b<|(ordK ks ys.length).map λi=>ws.getD i V.non) (h':=(s.heap.update kS<|Zao λ_=>(#[]:Tf)).update D<|Zao λ_=>ZaG<|rvB b<|(ordK ks ys.length).map λi=>its.getD i ZaA) (t':=s.toks) (λb u nb q=>(ZI _ _<|Zab nb).trans q) fD
  ⟨hl,rvB b<|(ordK ks ys.length).map λi=>its.getD i ZaA,c2,Jpj (Jm6 rv _ λi hi=>by have:=lt i hi;omega),hc2⟩
 exact finA N1 K D fD.1 ⟨_,JH,RVs.new fD.1 (Jo5 r3 _ lt).rvB⟩ _ _ I' rfl
theorem Jwc{b:Bool}{us:To}{ns:Tk}(h:Zb4 us ns):Zb4 (rvB b us) (rvB b ns):=by
 cases b
 ·exact h
 ·exact h.reverse
theorem J1u{b:Bool}{kA:Tf}{its:To}(h:kA.size=its.length):(if b=Zh then(kA.zip its.toArray).reverse else kA.zip its.toArray)=(rvB b kA.toList).toArray.zip (rvB b its).toArray:=by
 cases b with
 |false=>simp[rvB]
 |true=>
  apply Array.toList_inj.mp
  simp only[rvB,if_true,Array.toList_reverse,Array.toList_zip]
  exact List.reverse_zipWith<|by simpa using h
theorem J0v{b:Bool}{kA:Tf}(N:Now ce X pj ι σi h σ H s)(fD:FpOk X pj H D)(fK:FpOk X pj H kS)(hDK:D≠kS)(gD:s.heap.get? D=Za (Zav "list" #[] e1))(gK:s.heap.get? kS=Za (Zav "list" kA e))(hk:Zb4 kA.toList ks)(lk:ks.length=ys.length)
  (rv:Vals ws its)(r3:RVs X.K ι H ys ws)(h64:ys.length<64)(hP:∀s',Q (.ref D) s'->P (.done<|.ret .none) s')(K:Kont ce X RU pj ι σi σ H (Ya b ys ks h) Q E):
  Z0 (Z9 X.prog X.w) A (ksk_end D b its.toArray e1 (.ref kS) kA) P E s:=by
 have l1:=r3.length
 have l2:=rv.length
 have l3:=hk.length
 have hz:kA.size=its.length:=by rw[<-ZaK];omega
 have step:∀t:Sem PySem.Fin,Z0 (Z9 X.prog X.w) A t P E s->Z0 (Z9 X.prog X.w) A (if b=Zh then(do let _<-rule "list.sort.reverse";t)else t) P E s:=by
  intro t ht
  split
  ·exact Zd<|Zdy ht
  ·exact ht
 unfold ksk_end
 try dsimp only
 refine step _ ?_
 rw[J1u hz]
 have rv':=Jpj (b:=b) rv
 have r3':=r3.rvB (b:=b)
 have hk':=Jwc (b:=b) hk
 have h64':(rvB b ys).length<64:=by rw[Vl];exact h64
 have K:Kont ce X RU pj ι σi σ H (YJ b (rvB b ys) (rvB b ks) h) Q E:=K
 have ly:(rvB b ys).length=(rvB b its).length:=by rw[Vl,Vl];omega
 have lk':(rvB b ks).length=(rvB b its).length:=by rw[Vl,Vl];omega
 have l4:(rvB b kA.toList).length=(rvB b its).length:=by rw[Vl,Vl,ZaK,hz]
 have z2:its.toArray.size=(rvB b its).length:=by rw[Vl,Zt]
 by_cases h2:its.toArray.size<2
 ·rw[if_pos h2,if_pos h2]
  refine Zd<|Zv ?_
  rw[StateT.run_pure]
  refine Zd<|Zv ?_
  try dsimp only
  refine Jpa N fD fK hDK gD gK 00 rv' r3' h64' ?_ rfl hP K
  generalize rvB b its=its at *
  generalize rvB b kA.toList=kl at *
  have e1:(arrOf<|SortSt.mk' general' (kl.toArray.zip its.toArray) #[] 7 Zc).map (·.2)=its.toArray:=by
   apply Array.toList_inj.mp
   show((kl.toArray.zip its.toArray).map (·.2)).toList=_
   rw[Array.toList_map,ksk_zip]
   exact List.map_snd_zip<|by rw[List.toList_toArray];omega
  rw[e1,ly]
  exact congrArg ZaG (Jwr (lt:=ltF λi=>(rvB b ks).getD i 0) its 00).symm
 ·rw[if_neg h2,if_neg h2]
  rw[Zt]at h2
  rw[ksk_kind hk 00]
  refine Zd<|Zv ?_
  have zk:kA.size<64:=00
  have n0:¬(rvB b its).length<2:=by rw[Vl];exact h2
  generalize rvB b its=its at *
  generalize rvB b kA.toList=kl at *
  generalize rvB b ks=ks at *
  generalize rvB b ys=ys at *
  generalize rvB b ws=ws at *
  have sp:=Jg5 (n:=its.length) 00
  refine Zd (Zal (kat_run (ks:=kl) (vs:=its) (Q:=λst' s'=>s'=s/\failedOf st'=Zc/\arrOf st'=(Jy (ltF λi=>ks.getD i 0)<|ZbW its.length).map (kas_item<|kl.toArray.zip its.toArray)) (G:=λp s'=>s'=s/\p=Jy (ltF λi=>ks.getD i 0) (ZbW its.length)) l4 00 00
   (λp st' s' a1 a2 a3 a4=>⟨a4.1,a3,a4.2▸a2⟩) (Asks.wp (n:=its.length) (lt:=ltF λi=>ks.getD i 0) (λi j hi hj C hC=>?_) sp ⟨rfl,rfl⟩)) ?_ λ_ _ e=>e)
  ·unfold kas_ask
   obtain⟨t1,e1⟩:=hk'.get i _ (Zb<|show i<ks.length by omega)
   obtain⟨t2,e2⟩:=hk'.get j _ (Zb<|show j<ks.length by omega)
   rw[Zi,Zi,e1,e2]
   refine kat_lt_int ?_
   have hC:C (decide (ks.getD i 0<ks.getD j 0)) s:=hC
   rw[Zi,Zi,Zb (show i<ks.length by omega),Zb<|show j<ks.length by omega]at hC
   exact hC
  ·rintro⟨⟨⟩,st'⟩ s' ⟨rfl,hfl,har⟩
   try dsimp only
   refine Jpa N fD fK hDK gD gK zk rv' r3' h64' ?_ hfl hP K
   rw[kat_snds (ks:=kl) (vs:=its) l4 har,ly]
   rfl
theorem Jwt{b:Bool}(ko:X1 ce X A σi σ pj G (.ref fq) mk)(hG:∀H H',Ext H H'->G H->G H')(N:Now ce X pj ι σi h σ H s)(g:G H)(fD:FpOk X pj H D)(fK:FpOk X pj H kS)(hDK:D≠kS)(gD:s.heap.get? D=Za (Zav "list" #[] e1))(gK:s.heap.get? kS=Za (Zav "list" #[] 0))
  (rv:Vals ws its)(r3:RVs X.K ι H ys ws)(h64:ys.length<64)(hP:∀s',Q (.ref D) s'->P (.done<|.ret .none) s')(K:Kont ce X RU pj ι σi σ H ((QS mk ys [] h).bind<|Ya b ys) Q E):
  Z0 (Z9 X.prog X.w) A (ksk_rest D (.ref fq) b its.toArray e1<|.ref kS) P E s:=by
 have l1:=r3.length
 have l2:=rv.length
 unfold ksk_rest
 refine Zd<|Zdy ?_
 rw[List.forIn_toArray]
 refine Zd (ksk_fold (λj s'=>∃H' ι' h' ks kA e,Now ce X pj ι' σi h' σ H' s'/\G H'/\Nxt ι H ι' H'/\s'.heap.get? D=Za (Zav "list" #[] e1)/\s'.heap.get? kS=Za (Zav "list" kA e)/\Zb4 kA.toList ks/\ks.length=j/\H' D=Zc/\H' kS=Zc/\Kont ce X RU pj ι' σi σ H' ((QS mk (ys.drop j) ks h').bind<|Ya b ys) Q E) its 0 s
  ⟨H,ι,h,[],#[],0,N,g,.refl,gD,gK,.nil,rfl,fD.1,fK.1,K⟩ ?step ?done)
 case step=>
  rintro j x s' hx ⟨H',ι',h',ks,kA,e,N',g',n',gD',gK',hk,hlj,hD',hK',K'⟩
  simp only[Nat.zero_add]at hlj K' ⊢
  have fD':=FpOk.at fD hD'
  have fK':=FpOk.at fK hK'
  obtain⟨xv,ex,rx⟩:=Joa rv hx
  obtain⟨yv,eyv,qy⟩:=(r3.mono n').get' ex
  have hj:j<ys.length:=(Zr.mp eyv).1
  have ed:ys.drop j=yv::ys.drop (j+1):=by
   rw[ZaI hj,(Zr.mp eyv).2]
  rw[ed]at K'
  have K':Kont ce X RU pj ι' σi σ H' (((mk yv h').nx.bind λk h''=>match k with|.int n=>QS mk (ys.drop<|j+1) (ks++[n]) h''|_=>.stuck).bind<|Ya b ys) Q E:=K'
  rw[Res.bind_bind]at K'
  have hz:kA.size=j:=by rw[<-ZaK,hk.length,hlj]
  have N2:=(N'.pinO gK' fK' λv z=>by cases z).pinO gD' (FpOk.more (p:=(kS,Zav "list" kA e)) fD'<|Zab hDK) λv z=>by cases z
  rw[Zac]at N2
  refine Zd<|wpAny_attempt<|nof<|ko _ _ _ _ _ yv x _ N2 g' ⟨xv,rx,qy⟩<|Js5 K' λk h3 u s3 H3 ι3 N3 n3 ru K3=>?_
  have pK:=N3.inv.pin (kS,Zav "list" kA e)<|Zl _<|Zl _ 03
  have pD:=N3.inv.pin (D,Zav "list" #[] e1)<|Zl _<|Zl _ 03
  have N4:=N3.pins
  cases k with
  |int n=>
   obtain⟨v,rv',ev⟩:=ru
   have ev:v=.int n:=ev
   subst ev
   obtain⟨t,rfl⟩:=rv'
   try dsimp only
   refine Zd (ZdE pK.1 rfl ?_ (by rw[Zbl];omega) (ZW (Zc6<|Array.size_push ..)<|by rw[Zbl];omega))
   obtain⟨c2,hc2⟩:∃c2,(s3.heap.update kS (Zao (·.push (.int n t)))).get? kS=Za (Zav "list" (kA.push<|.int n t) c2):=⟨_,Zcs pK.1 (·.push (.int n t))⟩
   have s1:∀b u,b≠kS->s3.heap.get? b=Za u->(s3.heap.update kS (Zao (·.push (.int n t)))).get? b=Za u:=λb u nb q=>(ZI _ _<|Zab nb).trans q
   have N5:=N4.turned (h':=s3.heap.update kS (Zao (·.push (.int n t)))) (t':=s3.toks) (FpOk.at fK pK.2.1) s1
   refine Zv ⟨rfl,H3,ι3,h3,ks++[n],kA.push<|.int n t,c2,N5,hG _ _ n3.ext g',n'.trans n3,s1 D _ hDK pD.1,hc2,by rw[Array.toList_push];exact ksk_snoc hk,by simp[hlj],pD.2.1,pK.2.1,K3⟩
  |_=>exact Zf K3
 case done=>
  rintro s' ⟨H',ι',h',ks,kA,e,N',g',n',gD',gK',hk,hlj,hD',hK',K'⟩
  rw[Nat.zero_add]at hlj K'
  rw[List.drop_of_length_le 00]at K'
  try dsimp only
  refine Zd<|listItems_at gK' rfl ?_
  exact J0v N' (FpOk.at fD hD') (FpOk.at fK hK') hDK gD' gK' hk 00 rv (r3.mono n') h64 hP K'
theorem J0w{b:Bool}{kw:Wj}{B:ZN}{h2:Zax}{tk:Nat}(hkw:∀a,ZcT.«list.sort» ⟨[.ref a],kw⟩=ksk_tree a (.ref fq) b)(hak:∀a,Zeb "list.sort" ⟨[a],kw⟩)(ko:X1 ce X B.in1 σi σ pj G (.ref fq) mk)(hG:∀H H',Ext H H'->G H->G H')(N:Now ce X pj ι σi h σ H s)(g:G H)
  (keep:∀b o,s.heap.get? b=Za o->h2.get? b=Za o)(le0:s.heap.objs.size<=h2.objs.size)(rv2:Vals ws its)(r3:RVs X.K ι H ys ws)(h64:ys.length<64)(hP:∀D s',Q (.ref D) s'->P (.done<|.ret<|.ref D) s')
  (K:Kont ce X RU pj ι σi σ H ((QS mk ys [] h).bind<|Ya b ys) Q E):Z0 (Z9 X.prog X.w) B (do let l<-newList its;let _<-Zcg [l] (call (.builtin "list.sort") [l] kw);ret l) P E {s with heap:=h2,toks:=tk}:=by
 have l1:=r3.length
 have l2:=rv2.length
 refine Zd (ZcU ?_<|by rw[Zbl];omega)
 have hoL:(h2.push<|Zav "list" its.toArray 0).get? h2.objs.size=Za (Zav "list" its.toArray 0):=Z2 _ rfl
 have keep3:∀b o,s.heap.get? b=Za o->(h2.push<|Zav "list" its.toArray 0).get? b=Za o:=λb o q=>Zj _<|keep b o q
 have sz3:(h2.push<|Zav "list" its.toArray 0).objs.size=h2.objs.size+1:=Zdz ..
 show Z0 _ _ _ _ _ {s with heap:=h2.push<|Zav "list" its.toArray 0,toks:=tk}
 generalize h2.push (Zav "list" its.toArray 0)=h3 at hoL keep3 sz3
 refine Zd<|Zaj<|wpAny_call_entry_kw slot_list_sort ⟨_,hoL,rfl⟩ entry_list_sort ?body<|hak _
 case body=>
  show Z0 (Z9 X.prog X.w) B.in1 (ZcT.«list.sort» ⟨[.ref h2.objs.size],kw⟩) _ _ _
  rw[hkw]
  unfold ksk_tree
  refine Zd<|listItems_at hoL rfl ?_
  refine Zd (ZdE hoL rfl ?_ (by rw[Zt,Zbl];omega) (ZR _))
  obtain⟨ep,ho1⟩:∃ep,(h3.update h2.objs.size<|Zao λ_=>(#[]:Tf)).get? h2.objs.size=Za (Zav "list" #[] ep):=⟨_,Zcs hoL λ_=>#[]⟩
  refine Zd<|seqEpoch_at ho1 rfl ?_
  refine Zd (wpAny_newTuple ?_ (by show its.length<=_;rw[Zbl];omega))
  refine Zd<|ZcU ?_<|ZR _
  refine Zaj ?_
  have sz5:((h3.update h2.objs.size<|Zao λ_=>(#[]:Tf)).push<|Zav "tuple" its.toArray 0).objs.size=h2.objs.size+2:=by rw[Zdz,Heap.size_update,sz3]
  obtain⟨kS,hkS⟩:∃kS,kS=((h3.update h2.objs.size<|Zao λ_=>(#[]:Tf)).push<|Zav "tuple" its.toArray 0).objs.size:=⟨_,rfl⟩
  have gK:(((h3.update h2.objs.size<|Zao λ_=>(#[]:Tf)).push<|Zav "tuple" its.toArray 0).push<|Zav "list" #[] 0).get? kS=Za (Zav "list" #[] 0):=by rw[hkS];exact Z2 _ rfl
  have gD:(((h3.update h2.objs.size<|Zao λ_=>(#[]:Tf)).push<|Zav "tuple" its.toArray 0).push<|Zav "list" #[] 0).get? h2.objs.size=Za (Zav "list" #[] ep):=Zj _<|Zj _ ho1
  have old:∀b o,s.heap.get? b=Za o->(((h3.update h2.objs.size<|Zao λ_=>(#[]:Tf)).push<|Zav "tuple" its.toArray 0).push<|Zav "list" #[] 0).get? b=Za o:=λb o q=>Zj _<|Zj _<|(ZI _ _<|Zby<|ZH (Z3 q) le0).trans<|keep3 b o q
  rw[<-hkS]
  rw[sz5]at hkS
  have fD:FpOk X pj H h2.objs.size:=N.inv.fpOk le0<|N.inv.hok.fresh le0
  have le:s.heap.objs.size<=kS:=by rw[hkS];exact ZW le0<|Nat.le_add_right _ _
  have fK:FpOk X pj H kS:=N.inv.fpOk le<|N.inv.hok.fresh le
  exact Jwt ko hG (N.keptH (t':=tk) old) g fD fK (by rw[hkS];exact Z7<|Nat.lt_add_of_pos_right 01) gD gK rv2 r3 h64 (λs' q=>⟨_,rfl,Zv<|hP _ _ q⟩) K
end
end
noncomputable def VW (x:IV)(h:IH):Option (Nat×Tq):=match x with
 |.ref i=>(match h[i]? with
  |some (.lst xs)=>Za (i,xs)
  |_=>Zc)
 |_=>Zc
theorem Ji9(e:VW x h=Za (i,xs)):x=.ref i/\h[i]?=Za (.lst xs):=by
 unfold VW at e
 split at e
 ·split at e
  ·rename_i q
   cases e
   exact⟨rfl,q⟩
  ·cases e
 ·cases e
def XQ(x:IV)(as:Tq)(h:IH):Res IV:=match VW x h,as with
 |some (i,xs),[]=>(match xs[xs.length-1]? with
  |some y=>.ok y<|h.set i<|.lst xs.dropLast
  |none=>.stuck)
 |_,_=>.stuck
def XR(x:IV)(as:Tq)(h:IH):Res IV:=match VW x h,as with
 |some (i,xs),[.int k]=>(match JI xs with
  |some ns=>(match ns.findIdx? (· ==k)with
   |some j=>.ok .non<|h.set i<|.lst<|xs.eraseIdx j
   |none=>.stuck)
  |none=>.stuck)
 |_,_=>.stuck
section
variable{ce:CeT}{X:Cx}
theorem J26:MtI ce X "list" "list.pop" XQ:=by
 intro pj s σ H ι σi h x xs v us Q E N rx rs K
 unfold XQ at K
 split at K
 ·rename_i i zs e
  obtain⟨rfl,hi⟩:=Ji9 e
  split at K
  ·rename_i y hy
   obtain⟨xv,rx,a,rfl,ha⟩:=rx
   obtain⟨vs,rv,qs⟩:=rs
   cases (show vs=[]from qs)
   obtain⟨ws,e1,r1⟩:=N.at hi ha
   obtain⟨z,hz,qz⟩:=r1.get hy
   exact Jpg (J3a (X:=X.wish E)) N.inv rx rv ⟨a,ws,z,rfl,rfl,e1,by rw[r1.length];exact hz,finW (ys:=zs.dropLast) N K ha e1 (by rw[Zen,Zen,r1.length];exact r1.take _) qz⟩
  ·exact Zf K
 ·exact Zf K
theorem Jvx:MtI ce X "list" "list.remove" XR:=by
 intro pj s σ H ι σi h x xs v us Q E N rx rs K
 unfold XR at K
 split at K
 ·rename_i i zs k e
  obtain⟨rfl,hi⟩:=Ji9 e
  split at K
  ·rename_i ns hb
   split at K
   ·rename_i j hj
    obtain⟨xv,rx,a,rfl,ha⟩:=rx
    obtain⟨vs,rv,qs⟩:=rs
    obtain⟨w,rfl,qw⟩:=qs.one_of
    cases (show w=.int k from qw)
    obtain⟨u,rfl,t,rfl⟩:=Qn rv
    cases rx
    obtain⟨ws,e1,r1⟩:=N.at hi ha
    obtain⟨z,its,n,r,hl,eo⟩:=N.inv.lstM e1
    have are:=Vd hb r1 r
    have ln:=Xk are
    obtain⟨hlt,hp,hno⟩:=Zb5.mp hj
    have at_:∀m (hm:m<its.toArray.size),∃t,its.toArray[m]=.int (ns.getD m 0) t:=λm hm=>Zd0 are m _<|by simp at hm;simp[hm]
    refine ZcO F.slot_list_remove ⟨_,eo,rfl⟩ F.entry_list_remove (F.args_list_remove_2 _ _)
     (MeetsSeq.list_remove a its.toArray n (.int k t) (isK k) (λy hy=>?_) j (by simp;omega) ?_ (λm hm hmj=>?_)<|by rw[Zt];omega) ⟨eo,?_⟩
    ·obtain⟨m,hm,rfl⟩:=Array.mem_iff_getElem.mp hy
     obtain⟨t',e⟩:=at_ m hm
     rw[e]
     exact MeetsSeq.EqGives.int _ _ _ _
    ·obtain⟨t',e⟩:=at_ j<|by simp;omega
     rw[e]
     simpa[isK,Zi,hlt]using hp
    ·obtain⟨t',e⟩:=at_ m hm
     rw[e]
     have:=hno m hmj
     have hm2:m<ns.length:=00
     simpa[isK,Zi,hm2]using this
    ·exact finW (ys:=zs.eraseIdx j) (ws:=ws.eraseIdx j) N K ha e1 (r1.erase _) rfl _ _ (N.inv.lset (its':=its.eraseIdx j) e1 eo (by rw[ZcH]) (r.eraseIdx j) (by have:=Jma ws j;omega)) rfl
   ·exact Zf K
  ·exact Zf K
 ·exact Zf K
end
section
variable{pr:ZB}{wd:ZV}{A:ZN}{E:QvT}{s:Zn}
theorem Jjt{Q:To->Zn->Prop}{n:Nat}(hh:A.handled=Zc)(hr:IsRange s.heap r a b c t u v)(hsmall:Builtin.Range.small a b c=Zh)
  (hn:ZdG a b c=n)(hlen:n<=2^24)(hQ:∀h' tk acc,(∀b o,s.heap.get? b=Za o->h'.get? b=Za o)->s.heap.objs.size<=h'.objs.size->ItemsOf (λi v=>∃t,v=.int (a+i*c) t) acc n->Q acc.toList {s with heap:=h',toks:=tk}):
  Z0 (Z9 pr wd) A (collect<|.ref r) Q E s:=by
 unfold collect
 refine Zd<|wpAny_runValue<|ZaE PySem.F.entry_proto_collect ?_
 rw[Zau PySem.F.plain_proto_collect _]
 show Z0 _ A.in1 (newList []>>=λl=>again<|.builtin "list.__iadd__" ⟨[l,.ref r],[]⟩) _ _ s
 refine Zd<|ZcU ?_<|ZR _
 refine Zv ⟨ZaX ZdO _,ZaE PySem.F.entry_list_iadd ?_⟩
 rw[Zau ZdO _]
 show Z0 _ A.in1 (Builtin.List.listExtendWith (.ref s.heap.objs.size) (.ref r)<|.ref s.heap.objs.size) _ _ _
 refine wpAny_extend_range (R:=λr s'=>match r with|.ok (.ret v)=>Z0 (Z9 pr wd) A (match v with|.ref a=>(do match (<-load a).data with|.seq xs _=>pure xs.toList|_=>unsupported "internal:collect")|_=>unsupported "internal:collect") Q E s'|.ok _=>False|.error e=>E e s') (s:={s with heap:=s.heap.push {cls:=.type "list",data:=.seq #[]} }) hh (Zj _ hr) hsmall hn hlen s.heap.objs.size _ 0 (Z2 _ rfl) λh' tk acc c' keep g its=>?_
 show Z0 _ A (load s.heap.objs.size>>=_) _ _ _
 refine Zd<|wpAny_load g ?_
 exact Zv<|hQ h' tk acc (λb o e=>keep b o (Z7<|Z3 e)<|Zj _ e) (Zcf<|Z3 g) its
end
section
variable{ce:CeT}{X:Cx}
def Y1(q:Str)(j:Nat)(js:Tl)(aa:A1)(m:E1):E1:=λσ h=>(aa σ h).bind λxs h1=>match xs,h1[j]? with
 |[.int n],Za (.tab q')=>if q'=q/\0<=n/\n<64 then(QS (λv h'=>m (Za v::js.map λj=>(σ[j]?).join) h') (rngI 0 n) [] h1).bind (Ya Zh<|rngI 0 n)else .stuck
 |_,_=>.stuck
theorem Jvg{k:Nat}{q x:Str}{caps:Tg}{js:Tl}{j:Nat}{a body:Expr}{aa:A1}{m:E1}{params:ZbY}{scope:Zbg}{p p2 lp pos pos2 kp kp2 cp:Pos}{ck:Nat}(hh:X.A.handled=Zc)(hg:Gl X "sorted")(hm:X.mg "sorted"=Zc)(g2:Gl X "range")(m2:X.mg "range"=Zc)(ha:PAi ce X [a] aa)(hs:ZC [a] X.env=[(Zk,ZaY a X.env)])
  (hr:Room (k+3) X.A)(hcd:W.codeIn X.K X.env.code q=Zh)(hq:X.env.qual=q++".<locals>.")(B:QB X.mg X.base)(hx:QT params=Za x)(S:LamSc X.N X.env.scope.names x caps js scope)
  (hb:∀f cd s' H',PEi ce (cxL X X.A.in1.in1 (x::caps) q scope f cd s' H') body m):
  PEi ce X (.Call (.Name "sorted" p) [.Call (.Name "range" p2) [a] [] pos2] [⟨Za "key",.Lambda params body scope lp,kp⟩,⟨Za "reverse",.Constant (.bool Zh) ck cp,kp2⟩] pos) (Y1 q j js aa m):=λpj s σ H ι σi h Q E N K=>by
 have hcl:ZcQ scope X.env=pure (clOf X.env.cells scope.names []):=Jat λy hm hk=>N.inv.ok.has y.1<|.inl<|S.free y hm hk
 refine Zag<|Q8 N.inv hg hm rfl ?_
 refine Zev ?_ rfl rfl rfl rfl
 refine Zd4 ?_
 refine Zag<|Q8 N.inv g2 m2 boot_range ?_
 refine Za7 ?_ hs rfl
 refine(ha pos2).run N K λxs h1 us s1 H1 ι1 N1 n1 r1 K1=>?_
 obtain⟨vs,rv,qs⟩:=r1
 split at K1
 ·rename_i n q' ej
  split at K1
  ·rename_i hc
   obtain⟨rfl,n0,n64⟩:=hc
   obtain⟨w,rfl,qw⟩:=qs.one_of
   cases (show w=.int n from qw)
   obtain⟨u,rfl,t,rfl⟩:=Qn rv
   refine call_range_1<|Zd5 ?_
   have gr:(s1.heap.push {cls:=.type "range",data:=.fields #[.int 0 s1.toks,.int n t,.int 1<|s1.toks+1]}).get? s1.heap.objs.size=Za {cls:=.type "range",data:=.fields #[.int 0 s1.toks,.int n t,.int 1<|s1.toks+1]}:=Z2 _ rfl
   have N1':=(N1.keptH (h':=s1.heap.push {cls:=.type "range",data:=.fields #[.int 0 s1.toks,.int n t,.int 1<|s1.toks+1]}) (t':=s1.toks+1+1) λb o e=>Zj _ e)
   have F1:FpOk X pj H1 s1.heap.objs.size:=N1.inv.fpOk (Zm _)<|N1.inv.hok.fresh<|Zm _
   have N2:=N1'.pinO gr F1 λv z=>by cases z
   have K2:=Kont.more (pl:=[(s1.heap.objs.size,({cls:=.type "range",data:=.fields #[.int 0 s1.toks,.int n t,.int 1<|s1.toks+1]}:Obj))]) K1
   refine ZaJ<|Zd<|Jka N2 ej hcd hq (Jj9 hx) hcl B λf c pm ctv s3 H3 N3 n3 LC=>Zd<|Zbj<|Zv ?_
   refine ZaJ<|Zd<|Zv<|Zd<|Zbj<|Zv<|ZbH ?_
   have K3:=Kont.more (pl:=[(f,lamO q' params body scope (clOf X.env.cells scope.names []) pm ctv c)])<|Kont.mono K2 n3
   have pr:=N3.inv.pin (s1.heap.objs.size,{cls:=.type "range",data:=.fields #[.int 0 s1.toks,.int n t,.int 1<|s1.toks+1]})<|Zl _<|ZQ _<|Zl _<|Zx.mpr rfl
   refine call_function_entry_kw kind_sorted plain_sorted entry_sorted (ksk_s2 _ _ _) ?_
   unfold ZcT.«sorted»
   refine Zd (m:=checkCount "sorted" 1 1 _)<|Zv ?_
   refine Zd<|Jjt (n:=n.toNat) hh pr.1 (small_one 01 01 00 00) ?_ 00 λh4 tk acc keep le its=>?_
   ·rw[rangeSize_one]
    split<;>omega
   have are:Zb4 acc.toList ((ZM n.toNat).map λk=>((k:Nat):Int)):=by
    refine Jse _ _ (by simp[its.1]) λi v hv=>?_
    obtain⟨t,rfl⟩:=its.2 i v<|by simpa using hv
    have hi:i<n.toNat:=by
     have:=(Zr.mp hv).1
     simp only[ZaK,its.1]at this
     exact this
    exact⟨t,by simp[Zi,hi]⟩
   refine J0w (G:=λH=>QL H q'<|.ref c) (mk:=λv h'=>m (Za v::js.map λj=>(σi[j]?).join) h') (ys:=rngI 0 n) (λa=>ksk_t2 f a Zh) (λa=>ksk_l2 a _ _) ?_ (λH H' e g=>g.mono e.frzs) N3 LC keep le (Yf are) (by rw[XS];exact Jke _) (by rw[XS];simp;omega) (λD s' q=>⟨_,rfl,q⟩) K3
   intro pl s4 H4 ι4 h4 v u Q4 N4 g4 ru4 K4
   have pf:=N4.inv.pin (f,lamO q' params body scope (clOf X.env.cells scope.names []) pm ctv c)<|Zl _<|ZQ _<|Zl _<|Zx.mpr rfl
   exact Jnn (A:=X.A.in1.in1) N.inv.ok.frames hr.in1.in1 N4 pf.1 g4 hx S (hb f<|.ref c) ru4 K4
  ·exact Zf K1
 ·exact Zf K1
end
end L3
namespace L3
open PySem PySem.Spec PyProof.Rows L2
section
variable{ce:CeT}{X:Cx}
end
end L3
namespace L4
open PySem PySem.Spec PyProof.Rows L2 L3
noncomputable def stE:E1:=λ_ _=>.stuck
noncomputable def stT:T1:=λ_ _=>.stuck
noncomputable def stO:O1:=λ_ _=>.stuck
noncomputable def stI:I1:=λ_ _=>.stuck
noncomputable def stG:G1:=λ_ _ _=>.stuck
noncomputable def stS:S1:=λ_ _=>.stuck
structure Fn where
 np:Nat
 dvs:Tq
 run:Tq->IH->Res IV
abbrev _root_.Td:=Option Fn
set_option genInjectivity false in
structure Pg where
 fn:Str->Td
 cls:Str->Td
 meth:Str->Str->Td
 con:Str->Tb
 isa:Str->Option (Str->Bool)
 fld:Str->Bool
 free:Str->Bool
 tabs:Str->Ww
 rz:Str->Bool
 bas:Str->Bool
 xi:Str->Option (Str->Wt)
 wr:Str->Option (Tq->IH->Res IV)
 ne:Str->Bool
 xo:Str->Td
 xf:Str->Str->Bool
 xb:Str->Bool
structure Sc where
 N:Tg
 names:Wg
 own:Bool
 q:Str
noncomputable def ixOf (x:Str):Tg->Ww
 |[]=>Zc
 |y::r=>if y==x then Za 0 else(ixOf x r).map (· + 1)
noncomputable def Sc.vis (S:Sc)(x:Str):Ww:=
 match S.names.lookup x with
 |some .local=>if x=="__debug__"||x=="__classdict__" then Zc else ixOf x S.N
 |some .cell=>if x=="__debug__"||x=="__classdict__" then Zc else ixOf x S.N
 |some .free=>if x=="__debug__"||x=="__classdict__" then Zc else ixOf x S.N
 |_=>Zc
noncomputable def Sc.gl (S:Sc)(x:Str):Bool:=S.names.lookup x==Za .globalImplicit&&!(x=="__debug__")&&!(x=="__name__")
noncomputable def Sc.sto (S:Sc)(x:Str):Ww:=
 match S.names.lookup x with
 |some .local=>ixOf x S.N
 |some .cell=>if S.own then ixOf x S.N else Zc
 |_=>Zc
def evC:Const->E1
 |.int i=>eC<|.int i
 |.bool b=>eC<|.bl b
 |.none=>eC .non
 |.str x=>eC<|.str x
 |_=>stE
def binI:ZcE->IV->IV->IH->Res IV
 |.Add=>Jl
 |.Sub=>JY
 |.Mult=>Qt
 |.FloorDiv=>JS
 |.Mod=>J8
 |.Pow=>JK
 |_=>λ_ _ _=>.stuck
def cmpI:CmpOp->IV->IV->IH->Res IV
 |.Lt=>cLt
 |.LtE=>cLe
 |.Gt=>cGt
 |.GtE=>cGe
 |.Eq=>cEq
 |.NotEq=>cNe
 |.Is=>cIs
 |.IsNot=>Ys
 |.In=>cIn
 |.NotIn=>Jro
def unI:UnaryOp->IV->IH->Res IV
 |.Not=>Xp tru
 |.USub=>YD
 |_=>λ_ _=>.stuck
def Jy2:List E1->E1
 |[]=>stE
 |[a]=>a
 |a::b::r=>eAnd a (Jy2<|b::r) tru
def eOrs:List E1->E1
 |[]=>stE
 |[a]=>a
 |a::b::r=>eOr a (eOrs<|b::r) tru
def J00:List T1->T1
 |[]=>stT
 |[a]=>a
 |a::b::r=>QH a<|J00<|b::r
def tOrs:List T1->T1
 |[]=>stT
 |[a]=>a
 |a::b::r=>tOrI a<|tOrs<|b::r
def aAll:List E1->A1
 |[]=>Jd
 |a::r=>Jb a<|aAll r
noncomputable def J1:Expr->Bool
 |.Starred .. =>Zk
 |_=>Zh
def XL:Expr->Bool
 |.Set .. =>Zk
 |_=>Zh
def Xo:Expr->Bool
 |.Slice .. =>Zk
 |_=>Zh
def VH:Expr->Bool
 |.ListComp .. =>Zk
 |.SetComp .. =>Zk
 |.DictComp .. =>Zk
 |_=>Zh
def VG:Expr->Bool
 |.Call (.Name ..) [] [] _=>Zk
 |_=>Zh
def isM1:Expr->Bool
 |.UnaryOp .USub (.Constant (.int 1) _ _) _=>Zh
 |_=>Zk
noncomputable def Fn.fill (f:Fn)(n:Nat):Option (Tq):=if n<=f.np/\f.np<=n+f.dvs.length then Za (f.dvs.drop<|f.dvs.length-(f.np-n))else Zc
def Xj(f:Fn)(n:Nat)(a:A1):E1:=match f.fill n with
 |some d=>Jn f.run d a
 |none=>stE
def Jos(c:Str)(f:Fn)(n:Nat)(a:A1):E1:=match f.fill (n+1)with
 |some d=>Vc c f.run d a
 |none=>stE
def bltF(x:Str):Tq->IH->Res IV:=
 if x=="len" then on1 lenI else if x=="all" then on1 allI else if x=="sum" then on1 sumI else if x=="sorted" then on1 Yb else if x=="min" then on1 Xn else if x=="max" then on1 Vg else λ_ _=>.stuck
def bltT(x:Str):Tq->IH->Res IV:=
 if x=="list" then on1 Vf else if x=="tuple" then on1 Xs else if x=="int" then on1 Y4 else if x=="str" then on1 strI else λ_ _=>.stuck
noncomputable def Jsh (x:Str):Bool:=x=="len"||x=="all"||x=="sum"||x=="sorted"||x=="min"||x=="max"
noncomputable def Jsi (x:Str):Bool:=x=="list"||x=="tuple"||x=="int"||x=="str"
def Juq(P:Pg)(x:Str):Option (Ty->Wt):=
 match P.isa x with
 |some g=>Za λt=>match t with|.ins c=>Za (g c)|.exc _=>Zc|_=>Za Zk
 |none=>if P.free x then(if x=="int" then Za VB else if x=="bool" then Za VA else if x=="str" then Za VP else if x=="list" then Za (if P.ne "Work" then VO else QN)else if x=="tuple" then Za QC else Zc)else Zc
def Jy4(o:Option<|Ty->Wt)(e:E1):E1:=match o with
 |some ans=>eIsi ans e
 |none=>stE
def bmOf(T:String)(m:Str)(n:Nat):Option (IV->Tq->IH->Res IV):=
 if T=="list"&&m=="append"&&n==1 then Za Xg else if T=="list"&&m=="clear"&&n==0 then Za X5 else if T=="list"&&m=="extend"&&n==1 then Za XC else if T=="list"&&m=="pop"&&n==0 then Za XQ else if T=="list"&&m=="remove"&&n==1 then Za XR else if T=="str"&&m=="join"&&n==1 then Za XH else if T=="dict"&&m=="setdefault"&&n==2 then Za VY else Zc
def Qf(P:Pg)(m:Str)(n:Nat):Str->Option ((Tq->IH->Res IV)×Tq):=λc=>match P.meth c m with
 |some f=>(match f.fill (n+1)with
  |some d=>Za (f.run,d)
  |none=>Zc)
 |none=>Zc
def VU(v:IV)(h:IH):Bool:=match v with
 |.ref i=>(match h[i]? with
  |some (.ins ..)=>Zh
  |_=>Zk)
 |_=>Zk
def tyS(v:IV)(h:IH):String:=match v with
 |.str _=>"str"
 |.rol _=>"list"
 |.ref i=>(match h[i]? with
  |some (.lst _)=>"list"
  |some (.dct _)=>"dict"
  |_=>"")
 |_=>""
def Jp(P:Pg)(m:Str)(n:Nat)(o:E1)(a:A1):E1:=λσ h=>match o σ h with
 |.ok v h1=>if VU v h1 then Ju1 m (Qf P m n) o a σ h else(match bmOf (tyS v h1) m n with
  |some g=>eBm (tyS v h1) g o a σ h
  |none=>.stuck)
 |_=>.stuck
def J2f(n:Nat)(a:A1):I1:=match n with
 |1=>iRg Qr a
 |2=>iRg VV a
 |_=>stI
def gAll:List G1->Tq->ISt->IH->SRes
 |[]=>gN
 |g::r=>gC g<|gAll r
noncomputable def VF (sc:Zbg):Tg:=sc.names.filterMap λx=>if x.2==.local&&!(x.1==(".0":Str))then Za x.1 else Zc
noncomputable def QF (sc:Zbg):Tg:=sc.names.filterMap λx=>if x.2==.free then Za x.1 else Zc
def jsOf(S:Sc)(sc:Zbg):Tl:=(QF sc).map λx=>(ixOf x S.N).getD 0
def Sc.comp(S:Sc)(sc:Zbg):Sc where
 N:=VF sc++QF sc
 names:=sc.names.map λx=>if x.2==.free&&S.names.lookup x.1==Za .cell then(x.1,.cell)else x
 own:=Zk
 q:=""
def Sc.lam(S:Sc)(x:Str)(sc:Zbg):Sc where
 N:=x::QF sc
 names:=sc.names
 own:=Zk
 q:=""
def Q6(S:Sc)(x:Str)(sc:Zbg):Bool:=
 sc.kind==.function&&!sc.isCoroutine&&!sc.isGenerator&&sc.names.all (λy=>!(y.2==.cell))&&sc.names.lookup x==Za .local&&sc.names.all (λy=>!(y.2==.free)||S.names.lookup y.1==Za .cell)
  && (QF sc).all (λy=>decide (S.N[(ixOf y S.N).getD 0]?=Za y)&&sc.names.lookup y==Za .free)&&decide (x::QF sc).Nodup
def Sc.fake(S:Sc):Zbg:={kind:=.function,names:=S.names,isGenerator:=Zk,isCoroutine:=Zk}
noncomputable def Jrx:Expr->Bool
 |.Name x _=>x=="last_come"||x=="tops"||x=="last"||x=="_law_last"||x=="_law_lows_here"
 |_=>Zk
def ixD(a:Expr):IV->IV->IH->Res IV:=if Jrx a then Vi else Jf
def txtB:Expr->Bool
 |.Name x _=>x=="_law_word_here"||x=="_law_name"
 |.Subscript .. =>Zh
 |_=>Zk
def slD(a:Expr):IV->Wv->Wv->IH->Res IV:=if txtB a then slT else slI
def cmpD(ne:Str->Bool)(o:CmpOp)(b:Expr):IV->IV->IH->Res IV:=match o with
 |.In=>if Jrx b then cInD else cIn
 |o=>cmpI o
def gSbF(a:Expr)(o i:E1):G1:=if Jrx a then gSbD o i else stG
def Jx2:Expr->Wr
 |.Call (.Name y _) [e] [] _=>if y=="set"&&J1 e then Za e else Zc
 |_=>Zc
def Jo3:Expr->Wr
 |.Call (.Name y _) [e] [] _=>if y=="range"&&J1 e then Za e else Zc
 |_=>Zc
def Jjq(P:Pg)(S:Sc)(x:Str)(f:Expr->E1):Ta->E1
 |[a,b]=>if x=="max" then eCB (on2 maxI) (Jb (f a)<|Jb (f b) Jd)else if x=="min" then eCB (on2 minI) (Jb (f a)<|Jb (f b) Jd)else(match b with
  |.Name y _=>if x=="isinstance"&&S.gl y then Jy4 (Juq P y) (f a)else stE
  |_=>stE)
 |[a,b,c,d]=>if x=="max" then eCB Y7 (Jb (f a)<|Jb (f b)<|Jb (f c)<|Jb (f d) Jd)else stE
 |[a]=>(match (if x=="len"&&S.gl "set"&&P.free "set" then Jx2 a else Zc)with
  |some e=>Yy<|Jb (f e) Jd
  |none=>match (if x=="list"&&S.gl "range"&&P.free "range" then Jo3 a else Zc)with
  |some _=>stE
  |none=>if Jsh x then eCB (bltF x) (Jb (f a) Jd)else if Jsi x then eCB (bltT x) (Jb (f a) Jd)else stE)
 |_=>stE
def J2r:Expr->Bool
 |.Constant (.bool Zh) _ _=>Zh
 |_=>Zk
def Jtn(P:Pg)(S:Sc)(f:Sc->Expr->E1)(x:Str)(a:Expr)(k:Str)(ps:ZbY)(body:Expr)(sc:Zbg)(k2:Str)(d:Expr):E1:=match Jo3 a,QT ps,P.tabs S.q with
 |some e,Za y,Za j=>if x=="sorted"&&k=="key"&&k2=="reverse"&&J2r d&&S.gl x&&P.free x&&S.gl "range"&&P.free "range"&&S.own&&Q6 S y sc then Y1 S.q j (jsOf S sc) (Jb (f S e) Jd) (f (S.lam y sc) body)else stE
 |_,_,_=>stE
def minK(P:Pg)(S:Sc)(f:Sc->Expr->E1)(x:Str)(a:Expr)(k:Str):Expr->E1
 |.Lambda ps body sc _=>(match QT ps,P.tabs S.q with
  |some y,Za j=>if x=="min"&&k=="key"&&S.gl x&&P.free x&&J1 a&&S.own&&Q6 S y sc then XA ltT S.q j (jsOf S sc) (Jb (f S a) Jd) (f (S.lam y sc) body)else stE
  |_,_=>stE)
 |_=>stE
def Jsr(P:Pg)(S:Sc)(f:Sc->Expr->E1)(x:Str)(args:Ta)(kws:Tj):E1:=match args,kws with
 |[a],[⟨Za k,d,_⟩]=>if x=="max"&&k=="default"&&S.gl x&&P.free x&&J1 a then Yz (Jb (f S a) Jd) (f S d)else minK P S f x a k d
 |[a],[⟨Za k,.Lambda ps body sc _,_⟩,⟨Za k2,d,_⟩]=>if x=="sorted" then Jtn P S f x a k ps body sc k2 d else(match QT ps,P.tabs S.q with
  |some y,Za j=>if x=="max"&&k=="key"&&k2=="default"&&S.gl x&&P.free x&&J1 a&&S.own&&Q6 S y sc then Y0 gtZ S.q j (jsOf S sc) (Jb (f S a) Jd) (f (S.lam y sc) body) (f S d)else stE
  |_,_=>stE)
 |_,_=>stE
def Joj(P:Pg)(S:Sc)(m:Str):Expr->Td
 |.Name x _=>if m=="__init__"&&S.gl x&&P.bas x then P.cls x else Zc
 |_=>Zc
def Jy3(P:Pg)(m:Str)(n:Nat)(b:Td)(o:E1)(a:A1):E1:=match b with
 |some f=>if n=0 then stE else Xj f n a
 |none=>Jp P m n o a
def Jrs(ifs:Ta)(f:Expr->T1)(m:T1->E1):E1:=match ifs with
 |[]=>m JD
 |[c]=>m<|f c
 |_=>stE
section
mutual
def ev(P:Pg):Nat->Sc->Expr->E1
 |0,_,_=>stE
 |n+1,S,e=>match e with
  |.Constant c _ _=>evC c
  |.Name x _=>(match S.vis x with
   |some i=>Ja i
   |none=>if S.gl x then(match P.con x with
    |some v=>eC v
    |none=>stE)else stE)
  |.BinOp a op b _=>Jc (binI op) (ev P n S a)<|ev P n S b
  |.UnaryOp op a _=>eUn (unI op)<|ev P n S a
  |.BoolOp .And vs _=>Jy2<|vs.map<|ev P n S
  |.BoolOp .Or vs _=>eOrs<|vs.map<|ev P n S
  |.IfExp t a b _=>eIf (evT P n S t) (ev P n S a)<|ev P n S b
  |.Compare a [o] [b] _=>if Zcm o b then stE else Jc (cmpD P.ne o b) (ev P n S a) (ev P n S b)
  |.Compare a [o,o'] [b,c] _=>if ZdK [o,o'] [b,c]then stE else JO (cmpI o) (cmpI o') (ev P n S a) (ev P n S b) (ev P n S c)
  |.Tuple es _ _=>if es.all J1 then JG (aAll<|es.map<|ev P n S)else stE
  |.Dict [] [] _=>X9
  |.List es _=>if es.all J1 then J6 (aAll<|es.map<|ev P n S)else stE
  |.Subscript a (.Slice lo hi Zc _) _=>eSl (slD a) (ev P n S a) (evO P n S lo)<|evO P n S hi
  |.Subscript a i _=>if Xo i then Jc (ixD a) (ev P n S a) (ev P n S i)else stE
  |.Attribute o f _=>if VG o&&P.fld f then Jq f (ev P n S o)else stE
  |.Call (.Name x _) args [] _=>if S.gl x&&args.all J1 then Jr5 P n S x args else stE
  |.Call (.Name x _) args (kw::kws) _=>Jsr P S (λS e=>ev P n S e) x args<|kw::kws
  |.Call (.Attribute o m ap) args [] p=>if args.all J1&&VG o&&(ap.endLine==p.line)&&decide (args.length<30)then Jy3 P m args.length (Joj P S m o) (ev P n S o) (aAll<|args.map<|ev P n S)else stE
  |.ListComp elt [⟨tg,iter,ifs,as⟩] sc _=>
   if as=0/\XL iter=Zh/\QP S.N (VF sc) (QF sc) (jsOf S sc) S.fake sc=Zh then
    Jrs ifs (evT P n<|S.comp sc) λmt=>Jz (evI P n S tg iter) (VF sc).length (jsOf S sc) (tgt P n (S.comp sc) tg) mt<|ev P n (S.comp sc) elt
   else stE
  |_=>stE
def evT(P:Pg):Nat->Sc->Expr->T1
 |0,_,_=>stT
 |n+1,S,e=>match e with
  |.UnaryOp .Not a _=>J7<|evT P n S a
  |.BoolOp .And vs _=>J00<|vs.map<|evT P n S
  |.BoolOp .Or vs _=>tOrs<|vs.map<|evT P n S
  |.IfExp .. =>stT
  |.Compare a [o] [b] _=>if Zcm o b then stT else Ji asB (Jc (cmpD P.ne o b) (ev P n S a)<|ev P n S b)
  |.Compare a [o,o'] [b,c] _=>if ZdK [o,o'] [b,c]then stT else Ji asB (JO (cmpI o) (cmpI o') (ev P n S a) (ev P n S b)<|ev P n S c)
  |.Compare .. =>stT
  |e=>Ji tru<|ev P n S e
def evO(P:Pg):Nat->Sc->Wr->O1
 |0,_,_=>stO
 |_+1,_,Zc=>Qs
 |n+1,S,Za e=>JX<|ev P n S e
def Jr5(P:Pg):Nat->Sc->Str->Ta->E1
 |0,_,_,_=>stE
 |n+1,S,x,args=>match P.fn x with
  |some f=>Xj f args.length<|aAll<|args.map<|ev P n S
  |none=>match P.cls x with
   |some f=>Jos x f args.length<|aAll<|args.map<|ev P n S
   |none=>if P.free x then Jjq P S x (ev P n S) args else stE
def evI(P:Pg):Nat->Sc->Expr->Expr->I1
 |0,_,_,_=>stI
 |n+1,S,tg,e=>match e with
  |.Call (.Name x _) args [] _=>
   if S.gl x&&P.free x&&args.all J1&&(x=="range")then J2f args.length (aAll<|args.map<|ev P n S)
   else if S.gl x&&P.free x&&args.all J1&&(x=="enumerate")then(match tg,args with
    |.Tuple ..,[a]=>iRg Ve<|Jb (ev P n S a) Jd
    |_,_=>stI)
   else Ju (ev P n S e)
  |e=>Ju<|ev P n S e
def tgt(P:Pg):Nat->Sc->Expr->G1
 |0,_,_=>stG
 |n+1,S,e=>match e with
  |.Name x _=>(match S.sto x with
   |some i=>gNm i
   |none=>stG)
  |.Tuple es _ _=>if es.all J1 then gTp es.length (gAll<|es.map<|tgt P n S)else stG
  |.Subscript o i _=>if Xo i then gSbF o (ev P n S o) (ev P n S i)else stG
  |_=>stG
end
end
noncomputable def V3 (t:T1)(b:S1):Nat->S1
 |0,_,_=>.stuck
 |n+1,σ,h=>match t σ h with
  |.ok c h1=>if c then(match b σ h1 with
   |.next σ2 h2=>V3 t b n σ2 h2
   |.cont σ2 h2=>V3 t b n σ2 h2
   |.brk σ2 h2=>.next σ2 h2
   |.ret v h2=>.ret v h2
   |_=>.stuck)else .next σ h1
  |_=>.stuck
@[irreducible] def Xb:Nat:=1000000
def Jnx(o:Bool)(t:T1)(b:S1):S1:=match o with
 |true=>V3 t b Xb
 |false=>stS
def XY(t:T1)(b:S1):S1:=Jnx Zh t b
theorem Jmk(t:T1)(b:S1):XY t b=V3 t b Xb:=rfl
noncomputable def ipI:ZcE->IV->IV->IH->Res IV
 |.Add,.int i,.int j,h=>.ok (.int<|i+j) h
 |_,_,_,_=>.stuck
def sAug(op:ZcE)(i:Nat)(e:E1):S1:=λσ h=>rS σ (Ja i σ h) λx h1=>rS σ (e σ h1) λy h2=>rS σ (ipI op x y h2) λz h3=>.next (σ.set i<|Za z) h3
def XW(op:ZcE)(f:Str)(o e:E1):S1:=λσ h=>rS σ (o σ h) λov h1=>match ov with
 |.ref i=>(match h1[i]? with
  |some (.ins _ fs)=>(match fs.lookup f with
   |some x=>rS σ (e σ h1) λy h2=>rS σ (ipI op x y h2) λz h3=>(match h3[i]? with
    |some (.ins c gs)=>if gs.length<1000 then .next σ (h3.set i<|.ins c<|putI f z gs)else .stuck
    |_=>.stuck)
   |none=>.stuck)
  |_=>.stuck)
 |_=>.stuck
def ixL:IV->IV->IH->Res IV
 |.ref i,.int k,h=>match h[i]? with
  |some (.lst xs)=>(match atI xs k with
   |some v=>if 0<=k then .ok v h else .stuck
   |none=>.stuck)
  |_=>.stuck
 |_,_,_=>.stuck
def XX(op:ZcE)(o k e:E1):S1:=λσ h=>rS σ (o σ h) λov h1=>rS σ (k σ h1) λkv h2=>rS σ (ixL ov kv h2) λx h3=>rS σ (e σ h3) λy h4=>rS σ (ipI op x y h4) λz h5=>setI ov kv z σ h5
def sAll:List S1->S1
 |[]=>Jr
 |[a]=>a
 |a::b::r=>Jg a<|sAll<|b::r
def Jz5:Expr->Bool
 |.Tuple .. =>Zk
 |_=>Zh
def Jvm:Expr->Bool
 |.Tuple .. =>Zh
 |_=>Zk
def isLC:Expr->Bool
 |.ListComp .. =>Zh
 |_=>Zk
def Jvl:Expr->Bool
 |.Subscript .. =>Zh
 |_=>Zk
abbrev Xi:=Str->Option (Str->Wt)
section
end
section
end
def J0j(P:Pg)(f:Str)(o e:E1):S1:=if P.fld f then JT f o e else stS
section
def ex(P:Pg):Nat->Sc->Zdt->S1
 |0,_,_=>stS
 |n+1,S,st=>match st with
  |.Pass _=>J0k
  |.Break _=>Jxz
  |.Continue _=>J3y
  |.Expr e _=>if VH e then JP (ev P n S e)else stS
  |.Return Zc _=>J0m
  |.Return (Za e) _=>Jk<|ev P n S e
  |.If c a b _=>sIf (evT P n S c) (sAll<|a.map<|ex P n S)<|sAll<|b.map<|ex P n S
  |.While c a [] _=>Jnx S.own (evT P n S c)<|sAll<|a.map<|ex P n S
  |.For tg it a [] _=>if XL it&&S.own then sFor (evI P n S tg it) (tgt P n S tg) (sAll<|a.map<|ex P n S)else stS
  |.Assign [.Name x _] e _=>if VH e||isLC e then(match S.sto x with
   |some i=>Jj i<|ev P n S e
   |none=>stS)else stS
  |.Assign [.Attribute o f _] e _=>if VH e||isLC e then J0j P f (ev P n S o) (ev P n S e)else stS
  |.Assign [tg] e _=>if VH e&&((Jvm tg&&Jz5 e)||Jvl tg)then sAsg (ev P n S e) (tgt P n S tg)else stS
  |.AugAssign (.Name x _) op e _=>(match S.sto x with
   |some i=>sAug op i<|ev P n S e
   |none=>stS)
  |.AugAssign (.Attribute o f _) op e _=>if P.fld f then XW op f (ev P n S o) (ev P n S e)else stS
  |.AugAssign (.Subscript o k _) op e _=>if Xo k then XX op (ev P n S o) (ev P n S k) (ev P n S e)else stS
  |_=>stS
end
structure FnD(ce:CeT)(prog:ZB)(w:ZV)(K:W.Frag)(mg:Str->Wx)(base:Zax)(k:Nat)(f:Fn)(fa:Zq)(fd:ZaH)(ps:Tg):Prop where
 len:ps.length=f.np
 ok:FnOk prog w K mg base (CXI prog w) k fa fd ps<|spI ce K ps f.run
 dv:∀j,j<=f.dvs.length->∃ds,Qp K fd ps ds/\ds.length=f.dvs.length-j/\∃vs,Vals vs ds/\∀ι H,RVs K ι H (f.dvs.drop j) vs
structure PgOk(ce:CeT)(k:Nat)(P:Pg)(prog:ZB)(w:ZV)(K:W.Frag)(mg:Str->Wx)(base:Zax):Prop where
 fn:∀x f,P.fn x=Za f->∃fa fd ps,mg x=Za (.ref fa)/\W.keepIn K (.ref fa)=Zh/\FnD ce prog w K mg base k f fa fd ps
 cls:∀x f,P.cls x=Za f->∃C fa fd ps,mg x=Za (.ref C)/\ce x=Za C/\Mk K C fa/\FnD ce prog w K mg base k f fa fd ps
 meth:∀c m f,P.meth c m=Za f->∃C fa fd ps,ce c=Za C/\Cls K C/\Meth K C m fa/\FnD ce prog w K mg base k f fa fd ps
 con:∀x v,P.con x=Za v->∃u y,mg x=Za u/\RelV y u/\∀ι H,RV K ι H v y
 isa:∀D g,P.isa D=Za g->∃c,mg D=Za c/\IsOk ce K c λt=>match t with|.ins c=>Za (g c)|.exc _=>Zc|_=>Za Zk
 fld:∀f,P.fld f=Zh->Ym ce K f
 free:∀x,P.free x=Zh->mg x=Zc
 blt:∀q j,P.tabs q=Za j->QB mg base
 bas:∀x,P.bas x=Zh->∃C,mg x=Za (.ref C)/\BasK K C
 ne:∀c,P.ne c=Zh->∃C,ce c=Za C/\neIn K C=Zh/\ClsI K C/\W.kitOne K (.ref C) (.type "list")=Za Zk
structure Good(ce:CeT)(k:Nat)(P:Pg)(S:Sc)(X:Cx):Prop where
 n:X.N=S.N
 sc:X.env.scope.names=S.names
 nd:S.N.Nodup
 fk:X.env.scope.kind=.function
 calm:X.calm=Zh
 room:Room (k+1) X.A
 st:S.own=Zh->∀x,X.fn x=Zh
 pg:PgOk ce k P X.prog X.w X.K X.mg X.base
 code:S.own=Zh->W.codeIn X.K X.env.code S.q=Zh/\X.env.qual=S.q++".<locals>."
 room3:S.own=Zh->Room (k+3) X.A
 top:S.own=Zh->X.stack=X.env::X.outer/\X.env.frame=Za X.env.locals
section
variable{ce:CeT}{k:Nat}{P:Pg}{S:Sc}{X:Cx}{α β:Type}{R:REL α β}
theorem Jo{t:Sem β}:PX ce X R t (λ_ _=>.stuck):=λ_ _ _ _ _ _ _ _ _ _ K=>(show False from K).elim
theorem J55(hh:∀σi h,∃m',m σi h=m' σi h/\PX ce X R t m'):PX ce X R t m:=by
 intro pj s σ H ι σi h Q E N K
 obtain⟨m',e,p⟩:=hh σi h
 rw[e]at K
 exact p pj s σ H ι σi h Q E N K
theorem Jgy:PIi ce X tg e stI:=λ_ _ _ _ _ _ _ _ _ _ K=>(show False from K).elim
theorem XN:PGi ce X e stG:=λ_ _ _ _ _ _ _ _ _ _ _ _ _ K=>(show False from K).elim
theorem JZ:PSi ce X t stS:=λ_ _ _ _ _ _ _ _ _ _ K=>(show False from K).elim
theorem Jgv:∀{l:Tg}{i:Nat},ixOf x l=Za i->l[i]?=Za x
 |[],_,h=>by cases h
 |y::r,i,h=>by
  unfold ixOf at h
  split at h
  ·rename_i e
   cases h
   simp[beq_iff_eq.mp e]
  ·obtain⟨j,hj,rfl⟩:=ZD.mp h
   simpa using Jgv hj
theorem Good.kind(G:Good ce k P S X)(x:Str):X.env.kindOf x=S.names.lookup x:=by
 show X.env.scope.names.lookup x=_
 rw[G.sc]
theorem Good.vis(G:Good ce k P S X)(h:S.vis x=Za i):X.N[i]?=Za x/\Vis X.env.scope x/\(x==("__debug__":Str))=Zk/\(x==("__classdict__":Str))=Zk:=by
 unfold Sc.vis at h
 have fin:∀{o:Zbd},(o=.local∨o=.cell∨o=.free)->S.names.lookup x=Za o->(if (x==("__debug__":Str)||x==("__classdict__":Str))=Zh then Zc else ixOf x S.N)=Za i ->
   X.N[i]?=Za x/\Vis X.env.scope x/\(x==("__debug__":Str))=Zk/\(x==("__classdict__":Str))=Zk:=λho e h=>by
  split at h
  ·cases h
  ·rename_i hd
   have hd':=ZbC.mpr hd
   rw[Zda]at hd'
   refine⟨by rw[G.n];exact Jgv h,?_,hd'.1,hd'.2⟩
   unfold Vis
   rw[G.sc,e]
   rcases ho with rfl|rfl|rfl
   ·exact .inl rfl
   ·exact .inr<|.inl rfl
   ·exact .inr<|.inr rfl
 cases e:S.names.lookup x with
 |none=>rw[e]at h;cases h
 |some o=>
  rw[e]at h
  cases o with
  | «local» =>exact fin (.inl rfl) e h
  |cell=>exact fin (.inr<|.inl rfl) e h
  |free=>exact fin (.inr<|.inr rfl) e h
  |_=>cases h
theorem Good.gl(G:Good ce k P S X)(h:S.gl x=Zh):Gl X x/\(x==("__debug__":Str))=Zk/\x≠"__name__":=by
 unfold Sc.gl at h
 simp only[Zo,beq_iff_eq,ZaN]at h
 refine⟨?_,h.1.2,λe=>?_⟩
 ·show X.env.kindOf x=_
  rw[G.kind]
  exact h.1.1
 ·have:=h.2
  rw[e]at this
  exact absurd this 01
theorem Good.sto(G:Good ce k P S X)(h:S.sto x=Za i):X.N[i]?=Za x/\Loc X.env.scope x/\(X.fn x=Zh∨X.env.scope.names.lookup x=Za .local):=by
 unfold Sc.sto at h
 unfold L2.Loc
 rw[G.sc]
 cases e:S.names.lookup x with
 |none=>rw[e]at h;cases h
 |some o=>
  rw[e]at h
  cases o with
  | «local» =>exact⟨by rw[G.n];exact Jgv h,.inl rfl,.inr rfl⟩
  |cell=>
   dsimp only at h
   split at h
   ·rename_i ho
    exact⟨by rw[G.n];exact Jgv h,.inr rfl,.inl<|G.st ho x⟩
   ·cases h
  |_=>cases h
theorem Good.nodup(G:Good ce k P S X):X.N.Nodup:=by rw[G.n];exact G.nd
theorem Jw(h:J1 a=Zh):ZC (a::es) env=(Zk,ZaY a env)::ZC es env:=by
 cases a<;>first|rfl|cases h
theorem VZ{pos:Pos}{env:Env}:∀{es:Ta},es.all J1=Zh->(Zbm pos<|ZC es env).any (·.1)=Zk
 |[],_=>rfl
 |a::es,h=>by
  simp only[Zak,Zo]at h
  rw[Jw h.1]
  show(Zk||(Zbm pos (ZC es env)).any (·.1))=Zk
  rw[VZ h.2]<;>rfl
theorem Jh8:∀{es:Ta},es.all J1=Zh->(Zbm pos<|ZC es env).all (λx=>!x.1)=Zh
 |[],_=>rfl
 |a::es,h=>by
  simp only[Zak,Zo]at h
  rw[Jw h.1]
  show(Zh&&(Zbm pos<|ZC es env).all (λx=>!x.1))=Zh
  rw[Jh8 h.2]<;>rfl
theorem Jzb{es:Ta}(ha:es.all J1=Zh)(hn:es.length<30):((Zbm pos<|ZC es env).all (λx=>!x.1)&&(ZdL pos<|Zcz [] env).all (λx=>x.1.isSome)
   && decide (es.length+([]:Tj).length+(if ([]:Tj).isEmpty then 0 else 1)<30))=Zh:=by
 show((Zbm pos<|ZC es env).all (λx=>!x.1)&&Zh&&decide (es.length+0+0<30))=Zh
 rw[Jh8 ha]
 simpa using hn
theorem Yn:∀(l:List E1),ALen l.length (aAll l)
 |[]=>Jup
 |_::r=>Jq8<|Yn r
theorem V9:∀{es:Ta},es.all J1=Zh->(∀e,PEi ce X e<|f e)->PAi ce X es (aAll<|es.map f)
 |[],_,_=>QZ
 |a::es,h,hf=>by
  simp only[Zak,Zo]at h
  exact Qq (hf a) (V9 h.2 hf)<|Jw h.1
theorem Jxi(hf:∀e,PEi ce X e<|f e):∀(vs:Ta),PEi ce X (.BoolOp .And vs pos) (Jy2<|vs.map f)
 |[]=>Jo
 |[a]=>J2q<|hf a
 |a::b::r=>J5a YL (hf a)<|Jxi hf<|b::r
theorem J16(hf:∀e,PEi ce X e<|f e):∀(vs:Ta),PEi ce X (.BoolOp .Or vs pos) (eOrs<|vs.map f)
 |[]=>Jo
 |[a]=>J2q<|hf a
 |a::b::r=>i_or YL (hf a)<|J16 hf<|b::r
theorem Jx4(hf:∀e,PTi ce X e<|f e):∀(vs:Ta),PWi ce X (.BoolOp .And vs pos) (J00<|vs.map f)
 |[]=>λ_=>Jo
 |[a]=>J05<|hf a
 |a::b::r=>J4i (hf a)<|Jx4 hf<|b::r
theorem J4c(hf:∀e,PTi ce X e<|f e):∀(vs:Ta),PWi ce X (.BoolOp .Or vs pos) (tOrs<|vs.map f)
 |[]=>λ_=>Jo
 |[a]=>J4j<|hf a
 |a::b::r=>J6l (hf a)<|J4c hf<|b::r
theorem Jxk:∀{es:Ta},es.all J1=Zh->(∀e,PGi ce X e<|f e)->PGsi ce X es (gAll<|es.map f)
 |[],_,_=>J2e
 |a::es,h,hf=>by
  simp only[Zak,Zo]at h
  refine Jza (hf a) (Jxk h.2 hf) ?_
  cases a<;>first|rfl|exact absurd h.1 Zu
theorem Jxb:∀{es:Ta},es.all J1=Zh->(ZaL es env).length=es.length
 |[],_=>rfl
 |a::es,h=>by
  simp only[Zak,Zo]at h
  have:ZaL (a::es) env=(Zk,ZdZ a env)::ZaL es env:=by cases a<;>first|rfl|exact absurd h.1 Zu
  rw[this,ZA,ZA,Jxb h.2]
theorem Jrf{env:Env}:∀{es:Ta},es.all J1=Zh->(ZaL es env).findIdx? (·.1)=Zc
 |[],_=>rfl
 |a::es,h=>by
  simp only[Zak,Zo]at h
  have:ZaL (a::es) env=(Zk,ZdZ a env)::ZaL es env:=by cases a<;>first|rfl|exact absurd h.1 Zu
  rw[this,Zd2,Jrf h.2]
  rfl
theorem J5r(op:ZcE):OpI ce X (ZaS op) (binI op):=by
 cases op with
 |Add=>exact J5q
 |Sub=>exact J5w
 |Mult=>exact J3d
 |FloorDiv=>exact J3c
 |Mod=>exact J5t
 |Pow=>exact J5v
 |_=>exact λ_ _ _ _ _ _ _ _ _ _ _ _ _ _ _ _ K=>(show False from K).elim
theorem YC(hu:X.A.units+64<Ze7)(op:CmpOp):OpI ce X (Zas op) (cmpI op):=by
 cases op with
 |Lt=>exact o_lt
 |LtE=>exact o_le
 |Gt=>exact o_gt
 |GtE=>exact o_ge
 |Eq=>exact o_eq hu
 |NotEq=>exact o_ne hu
 |Is=>exact o_is
 |IsNot=>exact Jz6
 |In=>exact o_in hu
 |NotIn=>exact Jz7 hu
theorem Jxv(hu:X.A.units+64<Ze7)(hn:∀c,ne c=Zh->∃C,ce c=Za C/\neIn X.K C=Zh)(op:CmpOp)(b:Expr):OpI ce X (Zas op) (cmpD ne op b):=by
 unfold cmpD
 split
 ·split
  ·exact J5s
  ·exact o_in hu
 ·exact YC hu op
theorem J6t(a:Expr):SlI ce X (slD a):=by
 unfold slD
 split
 ·exact J6u
 ·exact x_sl
theorem J6s(a:Expr):IxI ce X (ixD a):=by
 unfold ixD
 split
 ·exact J6r
 ·exact x_ix
theorem o_un(op:UnaryOp):UnI ce X (unaryOp op) (unI op):=by
 cases op with
 |Not=>exact J06 YL
 |USub=>exact J6m
 |_=>exact λ_ _ _ _ _ _ _ _ _ _ _ _ _ K=>(show False from K).elim
theorem Jdf(h:VG o=Zh):ZcS o m env w=w:=by
 cases o with
 |Call f as ks p=>
  cases f with
  |Name x q=>
   cases as with
   |nil=>
    cases ks with
    |nil=>cases h
    |cons _ _=>rfl
   |cons _ _=>rfl
  |_=>rfl
 |_=>rfl
theorem Y3(h:XL e=Zh)(x:Ze):ZbZ e env x=pure x:=by
 cases e<;>first|rfl|cases h
theorem Jdn(h:VH e=Zh):Zdq e t l env=pure Zk:=by
 cases e<;>first|rfl|cases h
theorem Jvp(h:Xo i=Zh):Jq6 i:=λ_ _=>by
 cases i<;>first|rfl|cases h
theorem Jh1{o:Expr}{m:Str}{ap pos:Pos}{es:Ta}{env:Env}(hb:VG o=Zh)(hs:es.all J1=Zh)(hl:(ap.endLine==pos.line)=Zh)(hn:es.length<30):
  ZaY (.Call (.Attribute o m ap) es [] pos) env=(do
   let ov<-ZaY o env
   ZeL ap.atName
   let (f,first)<-Zcg [ov] (ZdH ov m (do return(<-importBound o env).getD Zh))
   callWith pos f first (Zbm pos<|ZC es env) (ZdL pos<|Zcz [] env)):=by
 have hform:methodCallForm (es.length+([]:Tj).length) (Zbm pos<|ZC es env) (ZdL pos<|Zcz [] env)=Zh:=by
  show((Zbm pos<|ZC es env).all (λx=>!x.1)&&Zh&&decide (es.length+0+0<30))=Zh
  rw[Jh8 hs]
  simpa using hn
 have hpos:methodCallPos Zh o env ap pos=pure pos:=by unfold methodCallPos;simp[hl]
 rw[arm_eval_Call,Jdf hb]
 unfold methodCall
 rw[hform,hpos]
 rfl
end
section
variable{ce:CeT}{k:Nat}{P:Pg}{S:Sc}{X:Cx}
theorem Jlo(G:Good ce k P S X)(N0 l c:Tg)(js:Tl)(sc:Zbg):QP N0 l c js X.env.scope sc=QP N0 l c js S.fake sc:=by
 unfold QP
 rw[G.fk,G.sc]
 rfl
theorem Good.comp(G:Good ce k P S X){sc:Zbg}(h:QP S.N (VF sc) (QF sc) (jsOf S sc) S.fake sc=Zh)(C:Zq)(s:Zn)(H:Hp)(fp:Tp):Good ce k P (S.comp sc) (cxC X (VF sc++QF sc) sc C s H fp):=by
 simp only[QP,Zo,decide_eq_true_eq]at h
 obtain⟨⟨⟨⟨⟨⟨⟨⟨⟨kF,kF0⟩,kNC⟩,kL⟩,kFr⟩,kFx⟩,kJ⟩,kLen⟩,kNd⟩,kLo⟩:=h
 refine⟨rfl,?_,kNd,kF,G.calm,G.room,λz=>absurd z Zu,G.pg,λz=>absurd z Zu,λz=>absurd z Zu,λz=>absurd z Zu⟩
 show(relabel sc X.env).names=_
 unfold relabel Sc.comp
 dsimp only
 refine Zdm λx _=>?_
 obtain⟨n,kd⟩:=x
 dsimp only
 rw[G.fk,G.kind]
 simp
end
structure Snd(ce:CeT)(k:Nat)(P:Pg)(n:Nat):Prop where
 e:∀S X e,Good ce k P S X->PEi ce X e (ev P n S e)
 t:∀S X e,Good ce k P S X->PTi ce X e (evT P n S e)
 o:∀S X e,Good ce k P S X->PPi ce X e (evO P n S e)
 c:∀S X x args p pos,Good ce k P S X->S.gl x=Zh->args.all J1=Zh->PEi ce X (.Call (.Name x p) args [] pos) (Jr5 P n S x args)
 i:∀S X tg e,Good ce k P S X->PIi ce X tg e (evI P n S tg e)
 g:∀S X e,Good ce k P S X->PGi ce X e (tgt P n S e)
section
variable{ce:CeT}{k:Nat}{P:Pg}{n:Nat}{S:Sc}{X:Cx}
theorem Jwp:Snd ce k P 0:=⟨λ_ _ _ _=>Jo,λ_ _ _ _=>Jo,λ_ _ _ _=>Jo,λ_ _ _ _ _ _ _ _ _=>Jo,λ_ _ _ _ _=>Jgy,λ_ _ _ _=>XN⟩
theorem Jjy{prog:ZB}{w:ZV}{K:W.Frag}{mg:Str->Wx}{base:Zax}{f:Fn}{fa:Zq}{fd:ZaH}{ps:Tg}{m:Nat}{d:Tq}(D:FnD ce prog w K mg base k f fa fd ps)(h:f.fill m=Za d):
  ∃ds,Qp K fd ps ds/\m+ds.length=ps.length/\∃vs,Vals vs ds/\∀ι H,RVs K ι H d vs:=by
 unfold Fn.fill at h
 split at h
 ·rename_i hz
  cases h
  obtain⟨ds,hb,hl,q⟩:=D.dv (f.dvs.length-(f.np-m)) 00
  exact⟨ds,hb,by rw[hl,D.len];omega,q⟩
 ·cases h
theorem Jwk(G:Good ce k P S X)(hx:P.fn x=Za f)(hg:S.gl x=Zh){args:Ta}(ha:args.all J1=Zh)(hf:∀e,PEi ce X e<|g e){p pos:Pos}:
  PEi ce X (.Call (.Name x p) args [] pos) (Xj f args.length<|aAll<|args.map g):=by
 obtain⟨fa,fd,ps,hm,hk,D⟩:=G.pg.fn x f hx
 obtain⟨gl,hdb,_⟩:=G.gl hg
 unfold Xj
 cases hd:f.fill args.length with
 |none=>exact Jo
 |some d=>
  obtain⟨ds,hb,hl,q⟩:=Jjy D hd
  have hr:Room k X.A:=G.room.mono<|ZaU k
  cases args with
  |nil=>exact Jzf D.ok hr gl hm hk hb q (by simpa using hl) hdb
  |cons a es=>
   have ha':=ha
   simp only[Zak,Zo]at ha'
   refine J2h D.ok hr gl hm hk hb q (V9 ha hf) (λσ h xs h' e=>?_) hdb (Jw ha'.1)<|VZ ha'.2
   have:=Yn _ σ h xs h' e
   rw[Zg]at this
   rw[this]
   exact hl
theorem Jwl(G:Good ce k P S X)(hx:P.cls x=Za f)(hg:S.gl x=Zh){args:Ta}(ha:args.all J1=Zh)(hf:∀e,PEi ce X e<|g e){p pos:Pos}:
  PEi ce X (.Call (.Name x p) args [] pos) (Jos x f args.length<|aAll<|args.map g):=by
 obtain⟨C,fa,fd,ps,hm,hC,M,D⟩:=G.pg.cls x f hx
 obtain⟨gl,hdb,_⟩:=G.gl hg
 unfold Jos
 cases hd:f.fill (args.length+1)with
 |none=>exact Jo
 |some d=>
  obtain⟨ds,hb,hl,q⟩:=Jjy D hd
  cases args with
  |nil=>exact Jzi M D.ok hC G.room gl hm hb q (by simp at hl;omega) hdb
  |cons a es=>
   have ha':=ha
   simp only[Zak,Zo]at ha'
   refine J2l M D.ok hC G.room gl hm hb q (V9 ha hf) (λσ h xs h' e=>?_) hdb (Jw ha'.1)<|VZ ha'.2
   have:=Yn _ σ h xs h' e
   rw[Zg]at this
   omega
theorem Jry(G:Good ce k P S X)(m:Str)(n:Nat):Jq5 ce X m n (Qf P m n):=by
 intro c f dvs h
 unfold Qf at h
 cases hm:P.meth c m with
 |none=>rw[hm]at h;cases h
 |some fn=>
  rw[hm]at h
  dsimp only at h
  cases hd:fn.fill (n+1)with
  |none=>rw[hd]at h;cases h
  |some d=>
   rw[hd]at h
   cases h
   obtain⟨C,fa,fd,ps,hC,hcl,hM,D⟩:=G.pg.meth c m fn hm
   obtain⟨ds,hb,hl,q⟩:=Jjy D hd
   exact⟨C,fa,fd,k,ps,ds,hC,hcl,hM,D.ok,G.room.mono<|ZaU k,hb,q,00⟩
theorem J4v(h:bmOf T m n=Za g):∃id,PlainAttrs T/\Slot T m id/\typeOf (.builtin id)=pure (.type "method_descriptor")/\MtI ce X T id g:=by
 unfold bmOf at h
 split at h
 ·rename_i hm
  simp only[Zo,beq_iff_eq]at hm
  obtain⟨⟨rfl,rfl⟩,_⟩:=hm
  cases h
  exact⟨_,Zbr,PySem.F.slot_list_append,PySem.F.type_list_append,Jvv⟩
 ·split at h
  ·rename_i hm
   simp only[Zo,beq_iff_eq]at hm
   obtain⟨⟨rfl,rfl⟩,_⟩:=hm
   cases h
   exact⟨_,Zbr,PySem.F.slot_list_clear,PySem.F.type_list_clear,Jzy⟩
  ·split at h
   ·rename_i hm
    simp only[Zo,beq_iff_eq]at hm
    obtain⟨⟨rfl,rfl⟩,_⟩:=hm
    cases h
    exact⟨_,Zbr,PySem.F.slot_list_extend,PySem.F.type_list_extend,Jvw⟩
   ·split at h
    ·rename_i hm
     simp only[Zo,beq_iff_eq]at hm
     obtain⟨⟨rfl,rfl⟩,_⟩:=hm
     cases h
     exact⟨_,Zbr,PySem.F.slot_list_pop,PySem.F.type_list_pop,J26⟩
    ·split at h
     ·rename_i hm
      simp only[Zo,beq_iff_eq]at hm
      obtain⟨⟨rfl,rfl⟩,_⟩:=hm
      cases h
      exact⟨_,Zbr,PySem.F.slot_list_remove,PySem.F.type_list_remove,Jvx⟩
     ·split at h
      ·rename_i hm
       simp only[Zo,beq_iff_eq]at hm
       obtain⟨⟨rfl,rfl⟩,_⟩:=hm
       cases h
       exact⟨_,PySem.F.plainAttrs_str,PySem.F.slot_str_join,PySem.F.type_str_join,J25⟩
      ·split at h
       ·rename_i hm
        simp only[Zo,beq_iff_eq]at hm
        obtain⟨⟨rfl,rfl⟩,_⟩:=hm
        cases h
        exact⟨_,PySem.F.plainAttrs_dict,Zdh,PySem.F.type_dict_setdefault,Jvy⟩
       ·cases h
theorem J4a{o:Expr}{m:Str}{mo:E1}{args:Ta}{f:Expr->E1}{ap pos:Pos}{T:String}{g:IV->Tq->IH->Res IV}{n:Nat}(hg:bmOf T m n=Za g)(ho:PEi ce X o mo)(hf:∀e,PEi ce X e<|f e)(ha:args.all J1=Zh)(hb:VG o=Zh)(hl:(ap.endLine==pos.line)=Zh)(hn:args.length<30):
  PEi ce X (.Call (.Attribute o m ap) args [] pos) (eBm T g mo<|aAll<|args.map f):=by
 obtain⟨id,pa,sl,ty,mt⟩:=J4v (ce:=ce) (X:=X) hg
 cases args with
 |nil=>exact J5c pa sl ty mt ho (Jdf hb) hl
 |cons a es=>
  have ha':=ha
  simp only[Zak,Zo]at ha'
  exact i_bm pa sl ty mt ho (V9 ha hf) (Jdf hb) (Jzb ha hn) hl (Jw ha'.1)<|VZ ha'.2
theorem J0r(G:Good ce k P S X){o:Expr}{m:Str}{mo:E1}{args:Ta}{f:Expr->E1}{ap pos:Pos}(ho:PEi ce X o mo)(hf:∀e,PEi ce X e<|f e)(ha:args.all J1=Zh)(hb:VG o=Zh)(hl:(ap.endLine==pos.line)=Zh)(hn:args.length<30):
  PEi ce X (.Call (.Attribute o m ap) args [] pos) (Jp P m args.length mo<|aAll<|args.map f):=by
 refine J55 λσi h=>?_
 unfold Jp
 cases e:mo σi h with
 |exc n h1=>exact⟨λ_ _=>.stuck,rfl,Jo⟩
 |stuck=>exact⟨λ_ _=>.stuck,rfl,Jo⟩
 |ok v h1=>
  dsimp only
  split
  ·refine⟨_,rfl,?_⟩
   cases args with
   |nil=>exact Jzj ho (Jry G m 0)<|Jh1 hb ha hl hn
   |cons a es=>
    have ha':=ha
    simp only[Zak,Zo]at ha'
    refine J2o ho (Jry G m (a::es).length) (V9 ha hf) (λσ h xs h' e=>?_) (Jw ha'.1) (VZ ha'.2)<|Jh1 hb ha hl hn
    have:=Yn _ σ h xs h' e
    rwa [Zg]at this
  ·cases hg:bmOf (tyS v h1) m args.length with
   |none=>exact⟨λ_ _=>.stuck,rfl,Jo⟩
   |some g=>exact⟨_,rfl,J4a hg ho hf ha hb hl hn⟩
theorem Jwh(G:Good ce k P S X){o:Expr}{m:Str}{mo:E1}{args:Ta}{f:Expr->E1}{ap pos:Pos}(ho:PEi ce X o mo)(hf:∀e,PEi ce X e<|f e)(ha:args.all J1=Zh)(hb:VG o=Zh)(hl:(ap.endLine==pos.line)=Zh)(hn:args.length<30):
  PEi ce X (.Call (.Attribute o m ap) args [] pos) (Jy3 P m args.length (Joj P S m o) mo<|aAll<|args.map f):=by
 cases eb:Joj P S m o with
 |none=>exact J0r G ho hf ha hb hl hn
 |some g=>
  cases o with
  |Name x q=>
   have eb2:(if m=="__init__"&&S.gl x&&P.bas x then P.cls x else Zc)=Za g:=eb
   clear eb
   split at eb2
   ·rename_i hq
    simp only[Zo,beq_iff_eq]at hq
    obtain⟨⟨rfl,hg⟩,hx⟩:=hq
    obtain⟨C,fa,fd,ps,hm,hC,M,D⟩:=G.pg.cls x g eb2
    obtain⟨C',hm',B⟩:=G.pg.bas x hx
    rw[hm]at hm'
    cases hm'
    obtain⟨gl,hdb,_⟩:=G.gl hg
    show PEi ce X _ (if args.length=0 then stE else Xj g args.length (aAll<|args.map f))
    split
    ·exact Jo
    rename_i hz
    unfold Xj
    cases hd:g.fill args.length with
    |none=>exact Jo
    |some d=>
     obtain⟨ds,hb',hl',q⟩:=Jjy D hd
     have hr:Room k X.A:=G.room.mono<|ZaU k
     cases args with
     |nil=>exact absurd rfl hz
     |cons a es=>
      have ha':=ha
      simp only[Zak,Zo]at ha'
      refine J2g D.ok hr gl hm B M hb' q (V9 ha hf) (λσ h xs h' e=>?_) hdb (Jw ha'.1) (VZ ha'.2)<|Jh1 hb ha hl hn
      have:=Yn _ σ h xs h' e
      rw[Zg]at this
      rw[this]
      exact hl'
   ·cases eb2
  |_=>cases eb
theorem J0s(G:Good ce k P S X){a:Expr}{ma:E1}{y:Str}{p p2 pos:Pos}(ha:PEi ce X a ma)(hs:J1 a=Zh)(hg:S.gl "isinstance"=Zh)(hfr:P.free "isinstance"=Zh)(hy:S.gl y=Zh):
  PEi ce X (.Call (.Name "isinstance" p) [a,.Name y p2] [] pos) (Jy4 (Juq P y) ma):=by
 unfold Jy4
 cases e:Juq P y with
 |none=>exact Jo
 |some ans=>
  obtain⟨gy,ydb,yn⟩:=G.gl hy
  have fin:∀{c:Ze},ClsE X (.Name y p2) c->IsOk ce X.K c ans->PEi ce X (.Call (.Name "isinstance" p) [a,.Name y p2] [] pos) (eIsi ans ma):=λhc O=>
   J5g hc O ha (G.gl hg).1 (G.pg.free _ hfr) rfl (Jw hs) rfl rfl
  unfold Juq at e
  cases hi:P.isa y with
  |some g=>
   rw[hi]at e
   cases e
   obtain⟨c,hm,O⟩:=G.pg.isa y g hi
   exact fin (Jyw gy hm ydb) O
  |none=>
   rw[hi]at e
   dsimp only at e
   split at e
   ·rename_i hf
    have hm:=G.pg.free y hf
    split at e
    ·rename_i q;cases (beq_iff_eq.mp q);cases e;exact fin (Yu gy hm rfl yn ydb) Jvi
    ·split at e
     ·rename_i q;cases (beq_iff_eq.mp q);cases e;exact fin (Yu gy hm rfl yn ydb) Jsj
     ·split at e
      ·rename_i q;cases (beq_iff_eq.mp q);cases e;exact fin (Yu gy hm rfl yn ydb) Jvj
      ·split at e
       ·rename_i q
        cases (beq_iff_eq.mp q)
        cases e
        refine fin (Yu gy hm rfl yn ydb) ?_
        split
        ·rename_i q
         refine Jqg λC hC=>?_
         obtain⟨C',h1,_,h2⟩:=G.pg.ne _ q
         cases hC.symm.trans h1
         exact h2
        ·exact Jl8
       ·split at e
        ·rename_i q;cases (beq_iff_eq.mp q);cases e;exact fin (Yu gy hm rfl yn ydb) Jvk
        ·cases e
   ·cases e
theorem Jwi(G:Good ce k P S X){a:Expr}{ma:E1}{x:Str}{p pos:Pos}(ha:PEi ce X a ma)(hs:J1 a=Zh)(hg:S.gl x=Zh)(hfr:P.free x=Zh)(hx:Jsh x=Zh):
  PEi ce X (.Call (.Name x p) [a] [] pos) (eCB (bltF x)<|Jb ma Jd):=by
 obtain⟨gx,xdb,xn⟩:=G.gl hg
 have hm:=G.pg.free x hfr
 have hh:=G.room.hd
 have pa:PAi ce X [a] (Jb ma Jd):=Qq ha QZ<|Jw hs
 unfold Jsh at hx
 simp only[Za4,beq_iff_eq]at hx
 rcases hx with((((rfl|rfl)|rfl)|rfl)|rfl)|rfl
 ·exact VD J4x gx hm rfl pa xn xdb (Jw hs) rfl
 ·exact VD (J4w hh) gx hm rfl pa xn xdb (Jw hs) rfl
 ·exact VD (J41 hh) gx hm rfl pa xn xdb (Jw hs) rfl
 ·exact VD Jut gx hm rfl pa xn xdb (Jw hs) rfl
 ·exact VD (J11 hh) gx hm rfl pa xn xdb (Jw hs) rfl
 ·exact VD (J10 hh) gx hm rfl pa xn xdb (Jw hs) rfl
theorem Jwj(G:Good ce k P S X){a:Expr}{ma:E1}{x:Str}{p pos:Pos}(ha:PEi ce X a ma)(hs:J1 a=Zh)(hg:S.gl x=Zh)(hfr:P.free x=Zh)(hx:Jsi x=Zh):
  PEi ce X (.Call (.Name x p) [a] [] pos) (eCB (bltT x)<|Jb ma Jd):=by
 obtain⟨gx,xdb,xn⟩:=G.gl hg
 have hm:=G.pg.free x hfr
 have pa:PAi ce X [a] (Jb ma Jd):=Qq ha QZ<|Jw hs
 unfold Jsi at hx
 simp only[Za4,beq_iff_eq]at hx
 rcases hx with((rfl|rfl)|rfl)|rfl
 ·exact Jj7 J1y gx hm rfl pa xn xdb (Jw hs) rfl
 ·exact Jj7 Jyv gx hm rfl pa xn xdb (Jw hs) rfl
 ·exact Jj7 J1x gx hm rfl pa xn xdb (Jw hs) rfl
 ·exact Jj7 J40 gx hm rfl pa xn xdb (Jw hs) rfl
theorem Jtm(G:Good ce k P S X)(hf:∀e,PEi ce X e<|f e){args:Ta}{p pos:Pos}(hg:S.gl x=Zh)(ha:args.all J1=Zh)(hfr:P.free x=Zh):
  PEi ce X (.Call (.Name x p) args [] pos) (Jjq P S x f args):=by
 unfold Jjq
 split
 ·rename_i a b
  simp only[Zak,Zo]at ha
  obtain⟨gx,xdb,xn⟩:=G.gl hg
  have hm:=G.pg.free x hfr
  have pa:PAi ce X [a,b] (Jb (f a)<|Jb (f b) Jd):=Qq (hf a) (Qq (hf b) QZ<|Jw ha.2.1)<|Jw ha.1
  have h1:∀pos,(Zbm pos<|ZC [b] X.env).any (·.1)=Zk:=λpos=>VZ<|by simp[ha.2.1]
  split
  ·rename_i hs
   cases (beq_iff_eq.mp hs)
   exact VD (J4y G.calm) gx hm rfl pa xn xdb (Jw ha.1) (h1 _)
  ·split
   ·rename_i hs
    cases (beq_iff_eq.mp hs)
    exact VD (J4z G.calm) gx hm rfl pa xn xdb (Jw ha.1) (h1 _)
   ·split
    ·rename_i y p2 _
     split
     ·rename_i hs
      simp only[Zo,beq_iff_eq]at hs
      obtain⟨rfl,hy⟩:=hs
      exact J0s G (hf a) ha.1 hg hfr hy
     ·exact Jo
    ·exact Jo
 ·rename_i a b c d
  simp only[Zak,Zo]at ha
  split
  ·rename_i hs
   cases (beq_iff_eq.mp hs)
   obtain⟨gx,xdb,xn⟩:=G.gl hg
   exact VD (J1z G.room.hd) gx (G.pg.free _ hfr) rfl (Qq (hf a) (Qq (hf b) (Qq (hf c) (Qq (hf d) QZ<|Jw ha.2.2.2.1)<|Jw ha.2.2.1)<|Jw ha.2.1)<|Jw ha.1) xn xdb (Jw ha.1) (VZ<|by simp[ha.2.1,ha.2.2.1,ha.2.2.2.1])
  ·exact Jo
 ·rename_i a
  simp only[Zak,Zo]at ha
  split
  ·rename_i e he
   split at he
   ·rename_i hc
    simp only[Zo,beq_iff_eq]at hc
    obtain⟨⟨rfl,g2⟩,f2⟩:=hc
    unfold Jx2 at he
    split at he
    ·split at he
     ·rename_i hq
      simp only[Zo,beq_iff_eq]at hq
      obtain⟨rfl,ns⟩:=hq
      cases he
      exact Jvd G.room.hd (G.gl hg).1 (G.pg.free _ hfr) (G.gl g2).1 (G.pg.free _ f2) (Qq (hf e) QZ<|Jw ns) (Jw ns)
     ·cases he
    ·cases he
   ·cases he
  ·split
   ·rename_i e he
    split at he
    ·rename_i hc
     simp only[Zo,beq_iff_eq]at hc
     obtain⟨⟨rfl,g2⟩,f2⟩:=hc
     unfold Jo3 at he
     split at he
     ·split at he
      ·rename_i hq
       simp only[Zo,beq_iff_eq]at hq
       obtain⟨rfl,ns⟩:=hq
       cases he
       exact Jo
      ·cases he
     ·cases he
    ·cases he
   ·split
    ·rename_i hb
     exact Jwi G (hf a) ha.1 hg hfr hb
    ·split
     ·rename_i hb
      exact Jwj G (hf a) ha.1 hg hfr hb
     ·exact Jo
 ·exact Jo
theorem Q6.of(G:Good ce k P S X)(h:Q6 S y sc=Zh):LamSc X.N X.env.scope.names y (QF sc) (jsOf S sc) sc:=by
 rw[G.n,G.sc]
 simp only[Q6,Zo,beq_iff_eq,ZaN,decide_eq_true_eq,Zbe,Za4,beq_eq_false_iff_ne]at h
 obtain⟨⟨⟨⟨⟨⟨⟨h1,h2⟩,h3⟩,h4⟩,h5⟩,h6⟩,h7⟩,h8⟩:=h
 refine⟨h1,h2,h3,h4,h5,λz hz e=>(h6 z hz).resolve_left λq=>q e,λz e=>Zah e,λi j z ej ez=>?_,by simp[jsOf],h8⟩
 unfold jsOf at ej
 rw[Z4,ez]at ej
 cases ej
 exact h7 z<|ZaT ez
theorem Good.lam(G:Good ce k P S X)(ho:S.own=Zh){y:Str}{sc:Zbg}(h:Q6 S y sc=Zh)(f:Zq)(cd:Ze)(s:Zn)(H:Hp):Good ce k P (S.lam y sc) (cxL X X.A.in1 (y::QF sc) S.q sc f cd s H):=by
 have L:=Q6.of G h
 exact⟨rfl,rfl,L.nd,L.kind,rfl,(G.room3 ho).in1.deeper _,λz=>absurd z Zu,G.pg,λz=>absurd z Zu,λz=>absurd z Zu,λz=>absurd z Zu⟩
theorem Good.lam2(G:Good ce k P S X)(ho:S.own=Zh){y:Str}{sc:Zbg}(h:Q6 S y sc=Zh)(f:Zq)(cd:Ze)(s:Zn)(H:Hp):Good ce k P (S.lam y sc) (cxL X X.A.in1.in1 (y::QF sc) S.q sc f cd s H):=by
 have L:=Q6.of G h
 have R:=G.room3 ho
 refine⟨rfl,rfl,L.nd,L.kind,rfl,⟨R.hd,?_,?_⟩,λz=>absurd z Zu,G.pg,λz=>absurd z Zu,λz=>absurd z Zu,λz=>absurd z Zu⟩
 ·have:=R.dp
  show X.A.depth+1+3*(k+1)+5<_
  omega
 ·have:=R.un
  show X.A.units+1+1+3+16*(k+1)+200<_
  omega
theorem Jq0(G:Good ce k P S X)(hf:∀S X e,Good ce k P S X->PEi ce X e (f S e)):PEi ce X (.Call (.Name x p) [a] [⟨Za y,.Lambda ps body sc lp,kp⟩,⟨Za y2,d,kp2⟩] pos) (Jtn P S f x a y ps body sc y2 d):=by
 unfold Jtn
 split
 ·rename_i e z j he hy hj
  split
  ·rename_i hq
   simp only[Zo,beq_iff_eq]at hq
   obtain⟨⟨⟨⟨⟨⟨⟨⟨⟨rfl,rfl⟩,rfl⟩,ht⟩,g1⟩,f1⟩,g2⟩,f2⟩,ho⟩,ok⟩:=hq
   unfold Jo3 at he
   unfold J2r at ht
   split at he
   ·split at he
    ·rename_i hc
     simp only[Zo,beq_iff_eq]at hc
     obtain⟨rfl,ns⟩:=hc
     cases he
     split at ht
     ·exact Jvg (k:=k) G.room.hd (G.gl g1).1 (G.pg.free _ f1) (G.gl g2).1 (G.pg.free _ f2) (Qq (hf _ _ _ G) QZ<|Jw ns) (Jw ns) (G.room3 ho) (G.code ho).1 (G.code ho).2 (G.pg.blt _ _ hj) hy (Q6.of G ok) λf cd s' H'=>hf _ _ _<|G.lam2 ho ok f cd s' H'
     ·cases ht
    ·cases he
   ·cases he
  ·exact Jo
 ·exact Jo
theorem Jwm(G:Good ce k P S X)(hf:∀S X e,Good ce k P S X->PEi ce X e (f S e)):PEi ce X (.Call (.Name x p) [a] [⟨Za y,d,kp⟩] pos) (minK P S f x a y d):=by
 cases d with
 |Lambda ps body sc lp=>
  show PEi ce X _ (match QT ps,P.tabs S.q with|some z,Za j=>if x=="min"&&y=="key"&&S.gl x&&P.free x&&J1 a&&S.own&&Q6 S z sc then XA ltT S.q j (jsOf S sc) (Jb (f S a) Jd) (f (S.lam z sc) body)else stE|_,_=>stE)
  cases hy:QT ps with
  |none=>exact Jo
  |some z=>
   cases hj:P.tabs S.q with
   |none=>exact Jo
   |some j=>
    dsimp only
    split
    ·rename_i hq
     simp only[Zo,beq_iff_eq]at hq
     obtain⟨⟨⟨⟨⟨⟨rfl,rfl⟩,g1⟩,f1⟩,ns⟩,ho⟩,ok⟩:=hq
     exact J2p (k:=k+1) (G.gl g1).1 (G.pg.free _ f1) (Qq (hf _ _ _ G) QZ<|Jw ns) (λA h=>Jyx 00) (Jw ns) (G.room3 ho) (G.code ho).1 (G.code ho).2 (G.pg.blt _ _ hj) hy (Q6.of G ok) λf cd s' H'=>hf _ _ _<|G.lam ho ok f cd s' H'
    ·exact Jo
 |_=>exact Jo
theorem J4b(G:Good ce k P S X)(hf:∀S X e,Good ce k P S X->PEi ce X e (f S e)):PEi ce X (.Call (.Name x p) args kws pos) (Jsr P S f x args kws):=by
 unfold Jsr
 split
 ·split
  ·rename_i hq
   simp only[Zo,beq_iff_eq]at hq
   obtain⟨⟨⟨⟨rfl,rfl⟩,g1⟩,f1⟩,ns⟩:=hq
   exact J2m G.room.hd (G.gl g1).1 (G.pg.free _ f1) (Qq (hf _ _ _ G) QZ<|Jw ns) (hf _ _ _ G) (Jw ns)
  ·exact Jwm G hf
 ·split
  ·exact Jq0 G hf
  split
  ·rename_i y j hy hj
   split
   ·rename_i hq
    simp only[Zo,beq_iff_eq]at hq
    obtain⟨⟨⟨⟨⟨⟨⟨rfl,rfl⟩,rfl⟩,g1⟩,f1⟩,ns⟩,ho⟩,ok⟩:=hq
    exact J2n (k:=k+1) (G.gl g1).1 (G.pg.free _ f1) (Qq (hf _ _ _ G) QZ<|Jw ns) (hf _ _ _ G) (Jw ns) (G.room3 ho) (G.code ho).1 (G.code ho).2 (G.pg.blt _ _ hj) hy (Q6.of G ok) λf cd s' H'=>hf _ _ _<|G.lam ho ok f cd s' H'
   ·exact Jo
  ·exact Jo
 ·exact Jo
theorem Jwo(ih:Snd ce k P n):Snd ce k P (n+1):=by
 refine⟨λS X e G=>?_,λS X e G=>?_,λS X e G=>?_,λS X x args p pos G hg ha=>?_,λS X tg e G=>?_,λS X e G=>?_⟩
 ·have ihe:=λe=>ih.e S X e G
  have hu:=G.room.units
  cases e with
  |Constant c j p=>
   cases c with
   |int i=>exact J5f
   |bool b=>exact i_bl
   |none=>exact J5i
   |str x=>exact J5j
   |_=>exact Jo
  |Name x p=>
   show PEi ce X (.Name x p) (match S.vis x with|some i=>Ja i|none=>if S.gl x then(match P.con x with|some v=>eC v|none=>stE)else stE)
   cases hv:S.vis x with
   |some i=>
    obtain⟨h1,h2,h3,h4⟩:=G.vis hv
    exact J5l i h1 h2 h3 h4
   |none=>
    dsimp only
    split
    ·rename_i hg
     obtain⟨gx,xdb,_⟩:=G.gl hg
     cases hc:P.con x with
     |none=>exact Jo
     |some v=>
      obtain⟨u,y,hm,r,q⟩:=G.pg.con x v hc
      exact J2k gx hm r q xdb
    ·exact Jo
  |BinOp a op b p=>exact J5b (J5r op) (ihe a)<|ihe b
  |UnaryOp op a p=>exact i_un (o_un op)<|ihe a
  |BoolOp op vs p=>
   cases op with
   |And=>exact Jxi ihe vs
   |Or=>exact J16 ihe vs
  |IfExp t a b p=>exact Jzh (ih.t S X t G) (ihe a)<|ihe b
  |Compare a ops cs p=>
   match ops,cs with
   |[o],[b]=>
    show PEi ce X _ (if Zcm o b then stE else Jc (cmpD P.ne o b) (ev P n S a) (ev P n S b))
    split
    ·exact Jo
    ·rename_i hb
     exact J5d (Jxv hu (λc z=>let ⟨C,p,q,_⟩:=G.pg.ne c z;⟨C,p,q⟩) o b) (ihe a) (ihe b)<|ZbC.mpr hb
   |[o,o'],[b,c]=>
    show PEi ce X _ (if ZdK [o,o'] [b,c]then stE else JO (cmpI o) (cmpI o') (ev P n S a) (ev P n S b) (ev P n S c))
    split
    ·exact Jo
    ·rename_i hb
     exact Jzg (YC hu o) (YC hu o') (ihe a) (ihe b) (ihe c)<|ZbC.mpr hb
   |[],_=>exact Jo
   |[_],[]=>exact Jo
   |[_],_::_::_=>exact Jo
   |[_,_],[]=>exact Jo
   |[_,_],[_]=>exact Jo
   |[_,_],_::_::_::_=>exact Jo
   |_::_::_::_,_=>exact Jo
  |Tuple es j p=>
   show PEi ce X _ (if es.all J1 then JG (aAll<|es.map<|ev P n S)else stE)
   split
   ·rename_i hs
    exact J5k<|V9 hs ihe
   ·exact Jo
  |List es p=>
   show PEi ce X _ (if es.all J1 then J6 (aAll<|es.map<|ev P n S)else stE)
   split
   ·rename_i hs
    exact J5h<|V9 hs ihe
   ·exact Jo
  |Dict ks vs p=>
   match ks,vs with
   |[Za k],[v]=>exact Jo
   |[],[]=>exact J2i
   |[],_::_=>exact Jo
   |[Zc],_=>exact Jo
   |[Za _],[]=>exact Jo
   |[Za _],_::_::_=>exact Jo
   |some _::_::_,_=>exact Jo
   |none::_::_,_=>exact Jo
  |Subscript a i p=>
   cases i with
   |Slice lo hi st q=>
    cases st with
    |none=>exact Jzk (J6t a) (ihe a) (ih.o S X lo G)<|ih.o S X hi G
    |some st=>exact Jo
   |_=>exact i_ix (J6s a) (ihe a) (ihe _)<|Jvp rfl
  |Attribute o f p=>
   show PEi ce X _ (if VG o&&P.fld f then Jq f (ev P n S o)else stE)
   split
   ·rename_i hs
    simp only[Zo]at hs
    exact J5e (ihe o) (G.pg.fld f hs.2)<|Jdf hs.1
   ·exact Jo
  |Call f args kws p=>
   cases kws with
   |cons kw kws=>
    cases f with
    |Name x q=>exact J4b G λS X e G=>ih.e S X e G
    |_=>exact Jo
   |nil=>
    cases f with
    |Name x q=>
     show PEi ce X _ (if S.gl x&&args.all J1 then Jr5 P n S x args else stE)
     split
     ·rename_i hs
      simp only[Zo]at hs
      exact ih.c S X x args q p G hs.1 hs.2
     ·exact Jo
    |Attribute o m ap=>
     show PEi ce X _ (if args.all J1&&VG o&&(ap.endLine==p.line)&&decide (args.length<30)then Jy3 P m args.length (Joj P S m o) (ev P n S o) (aAll<|args.map<|ev P n S)else stE)
     split
     ·rename_i hs
      simp only[Zo,decide_eq_true_eq]at hs
      exact Jwh G (ihe o) ihe hs.1.1.1 hs.1.1.2 hs.1.2 hs.2
     ·exact Jo
    |_=>exact Jo
  |ListComp elt gens sc p=>
   match gens with
   |[⟨tg,iter,ifs,as⟩]=>
    show PEi ce X _ (if as=0/\XL iter=Zh/\QP S.N (VF sc) (QF sc) (jsOf S sc) S.fake sc=Zh then
     Jrs ifs (evT P n<|S.comp sc) (λmt=>Jz (evI P n S tg iter) (VF sc).length (jsOf S sc) (tgt P n (S.comp sc) tg) mt<|ev P n (S.comp sc) elt)else stE)
    split
    ·rename_i hs
     obtain⟨rfl,hi,ok⟩:=hs
     have Gc:=G.comp ok
     have ok':=ok
     rw[<-Jlo G]at ok'
     match ifs with
     |[]=>exact Jxl G.calm (ih.i S X tg iter G) (λC s H fp=>ih.g _ _ tg<|Gc C s H fp) (λC s H fp=>Jx8) (λC s H fp=>ih.e _ _ elt<|Gc C s H fp) ok' G.n rfl (Y3 hi)
     |[c]=>exact Jxl G.calm (ih.i S X tg iter G) (λC s H fp=>ih.g _ _ tg<|Gc C s H fp) (λC s H fp=>Jx9<|ih.t _ _ c<|Gc C s H fp) (λC s H fp=>ih.e _ _ elt<|Gc C s H fp) ok' G.n rfl (Y3 hi)
     |_::_::_=>exact Jo
    ·exact Jo
   |[]=>exact Jo
   |⟨_,_,_,_⟩::_::_=>exact Jo
  |_=>exact Jo
 ·have ihe:=λe=>ih.e S X e G
  have hu:=G.room.units
  cases e with
  |UnaryOp op a p=>
   cases op with
   |Not=>exact J6i<|ih.t S X a G
   |_=>exact J4d YL<|ihe _
  |BoolOp op vs p=>
   cases op with
   |And=>exact(Jx4 (λe=>ih.t S X e G) vs).t
   |Or=>exact(J4c (λe=>ih.t S X e G) vs).t
  |IfExp t a b p=>exact Jo
  |Compare a ops cs p=>
   match ops,cs with
   |[o],[b]=>
    show PTi ce X _ (if Zcm o b then stT else Ji asB (Jc (cmpD P.ne o b) (ev P n S a)<|ev P n S b))
    split
    ·exact Jo
    ·rename_i hb
     exact J6h (Jxv hu (λc z=>let ⟨C,p,q,_⟩:=G.pg.ne c z;⟨C,p,q⟩) o b) (ihe a) (ihe b)<|ZbC.mpr hb
   |[o,o'],[b,c]=>
    show PTi ce X _ (if ZdK [o,o'] [b,c]then stT else Ji asB (JO (cmpI o) (cmpI o') (ev P n S a) (ev P n S b)<|ev P n S c))
    split
    ·exact Jo
    ·rename_i hb
     exact J02 (YC hu o) (YC hu o') (ihe a) (ihe b) (ihe c)<|ZbC.mpr hb
   |[],_=>exact Jo
   |[_],[]=>exact Jo
   |[_],_::_::_=>exact Jo
   |[_,_],[]=>exact Jo
   |[_,_],[_]=>exact Jo
   |[_,_],_::_::_::_=>exact Jo
   |_::_::_::_,_=>exact Jo
  |_=>exact J4d YL<|ihe _
 ·cases e with
  |none=>exact J3k
  |some e=>exact J3l<|ih.e S X e G
 ·have ihe:=λe=>ih.e S X e G
  show PEi ce X _ (match P.fn x with
  |some f=>Xj f args.length<|aAll<|args.map<|ev P n S
  |none=>match P.cls x with
   |some f=>Jos x f args.length<|aAll<|args.map<|ev P n S
   |none=>if P.free x then Jjq P S x (ev P n S) args else stE)
  cases hx:P.fn x with
  |some f=>exact Jwk G hx hg ha ihe
  |none=>
   dsimp only
   cases hc:P.cls x with
   |some f=>exact Jwl G hc hg ha ihe
   |none=>
    dsimp only
    split
    ·rename_i hfr
     exact Jtm G ihe hg ha hfr
    ·exact Jo
 ·have ihe:=λe=>ih.e S X e G
  cases e with
  |Call f args kws p=>
   cases kws with
   |cons _ _=>cases f<;>exact Jvc<|ihe _
   |nil=>
    cases f with
    |Name x q=>
     show PIi ce X tg _ (if S.gl x&&P.free x&&args.all J1&&(x=="range")then J2f args.length (aAll<|args.map<|ev P n S)
      else if S.gl x&&P.free x&&args.all J1&&(x=="enumerate")then(match tg,args with
       |.Tuple ..,[a]=>iRg Ve<|Jb (ev P n S a) Jd
       |_,_=>stI)
      else Ju (ev P n S<|.Call (.Name x q) args [] p))
     split
     ·rename_i hs
      simp only[Zo,beq_iff_eq]at hs
      obtain⟨⟨⟨hg,hf⟩,ha⟩,rfl⟩:=hs
      obtain⟨gx,_,_⟩:=G.gl hg
      have hm:=G.pg.free _ hf
      have pa:=V9 ha ihe
      match args,ha,pa with
      |[],_,_=>exact Jgy
      |[a],ha,pa=>
       simp only[Zak,Zo]at ha
       exact Jve gx hm pa<|Jw ha.1
      |[a,b],ha,pa=>
       simp only[Zak,Zo]at ha
       exact Jvf gx hm pa (by rw[Jw ha.1,Jw ha.2.1];rfl)<|Jw ha.2.1
      |_::_::_::_,_,_=>exact Jgy
     ·split
      ·rename_i hs
       simp only[Zo,beq_iff_eq]at hs
       obtain⟨⟨⟨hg,hf⟩,ha⟩,rfl⟩:=hs
       obtain⟨gx,_,_⟩:=G.gl hg
       have hm:=G.pg.free _ hf
       split
       ·simp only[Zak,Zo]at ha
        exact J2j gx hm (Qq (ihe _) QZ<|Jw ha.1)<|Jw ha.1
       ·exact Jgy
      ·exact Jvc<|ihe _
    |_=>exact Jvc<|ihe _
  |_=>exact Jvc<|ihe _
 ·cases e with
  |Name x p=>
   show PGi ce X _ (match S.sto x with|some i=>gNm i|none=>stG)
   cases hv:S.sto x with
   |none=>exact XN
   |some i=>
    obtain⟨h1,h2,h3⟩:=G.sto hv
    exact g_nm G.nodup h1 h2 h3
  |Tuple es j p=>
   show PGi ce X _ (if es.all J1 then gTp es.length (gAll<|es.map<|tgt P n S)else stG)
   split
   ·rename_i hs
    exact J48 G.calm (Jxk hs λe=>ih.g S X e G) (Jxb hs)<|Jrf hs
   ·exact XN
  |Subscript o i p=>
   show PGi ce X _ (if Xo i then gSbF o (ev P n S o) (ev P n S i)else stG)
   split
   ·rename_i hs
    unfold gSbF
    split
    ·refine J2a (ih.e S X o G) (ih.e S X i G) λv=>?_
     cases i<;>first|rfl|cases hs
    ·exact XN
   ·exact XN
  |_=>exact XN
theorem Jko(ce:CeT)(k:Nat)(P:Pg):∀n,Snd ce k P n
 |0=>Jwp
 |n+1=>Jwo<|Jko ce k P n
end
section
variable{ce:CeT}{X:Cx}{pos:Pos}
theorem J0o{c:Expr}{body:Ti}{mt:T1}{mb:S1}(hst:X.stack=X.env::X.outer)(hf:X.env.frame=Za X.env.locals)(hc:PTi ce X c mt)(hb:PS2 ce X body mb):PS1 ce X (.While c body [] pos) (XY mt mb):=by
 intro pj s σ H ι σi h Q E N K
 rw[Jmk]at K
 generalize Xb=m0 at K
 refine wpAny_While<|codeAny_whileLoop (λn s'=>∃ιk σk hk σ' H',Now ce X pj ιk σk hk σ' H' s'/\Nxt ι H ιk H'/\JL ce X pj ιk H' (V3 mt mb n σk hk) Q E) ?_ m0 ⟨ι,σi,h,σ,H,N,.refl,K⟩
 rintro n s1 ⟨ι1,σ1i,h1,σ1,H1,N1,n1,K1⟩
 cases n with
 |zero=>exact Zf K1
 |succ n=>
  unfold V3 at K1
  refine nof<|hc pj s1 σ1 H1 ι1 σ1i h1 _ (λ_ _=>False) N1 ?_
  cases et:mt σ1i h1 with
  |exc m h2=>rw[et]at K1;exact Zf K1
  |stuck=>rw[et]at K1;exact Zf K1
  |ok b h2=>
   rw[et]at K1
   intro b' s2 H2 ι2 N2 n2 r2
   have r':b'=b:=r2
   subst r'
   dsimp only at K1
   cases b' with
   |false=>exact Zdf<|K1 s2 σ1 H2 ι2 N2 n2
   |true=>
    rw[if_pos rfl]
    rw[if_pos rfl]at K1
    refine hb pj s2 σ1 H2 ι2 σ1i h2 _ _ N2 ?_
    cases eb:mb σ1i h2 with
    |next σ3 h3=>
     rw[eb]at K1
     exact λs3 σ3' H3 ι3 N3 n3=>⟨n,Zaz n,ι3,σ3,h3,σ3',H3,N3,(n1.trans n2).trans n3,JL.mono (r:=V3 mt mb n σ3 h3) K1<|n2.trans n3⟩
    |cont σ3 h3=>
     rw[eb]at K1
     exact λs3 σ3' H3 ι3 N3 n3=>⟨n,Zaz n,ι3,σ3,h3,σ3',H3,N3,(n1.trans n2).trans n3,JL.mono (r:=V3 mt mb n σ3 h3) K1<|n2.trans n3⟩
    |brk σ3 h3=>
     rw[eb]at K1
     exact λs3 σ3' H3 ι3 N3 n3=>K1 s3 σ3' H3 ι3 N3<|n2.trans n3
    |ret v h3=>
     rw[eb]at K1
     exact λu s3 σ3i σ3' H3 ι3 N3 n3 r=>K1 u s3 σ3i σ3' H3 ι3 N3 (n2.trans n3) r
    |_=>rw[eb]at K1;exact Zf K1
theorem Jvh(no:¬ ∃i j,op=.Add/\x=.int i/\y=.int j):ipI op x y h=.stuck:=by
 unfold ipI
 split
 ·exact absurd ⟨_,_,rfl,rfl,rfl⟩ no
 ·rfl
theorem o_ip(op:ZcE):OpI ce X (inplaceOp op) (ipI op):=by
 intro pj s σ H ι σi h x y v u Q E N rx ry K
 by_cases c:∃i j,op=.Add/\x=.int i/\y=.int j
 ·obtain⟨i,j,rfl,rfl,rfl⟩:=c
  obtain⟨xv,rx,qx⟩:=rx
  obtain⟨yv,ry,qy⟩:=ry
  cases (show xv=.int i from qx)
  cases (show yv=.int j from qy)
  obtain⟨t,rfl⟩:=rx
  obtain⟨t',rfl⟩:=ry
  exact iadd_int<|K _ _ H ι ⟨N.inv.tok _,N.rel,N.st⟩ .refl ⟨.int<|i+j,⟨_,rfl⟩,rfl⟩
 ·rw[Jvh c]at K
  exact Zf K
theorem J6c{i:Nat}{x:Str}{e:Expr}{me:E1}{op:ZcE}{pos':Pos}(hN:X.N.Nodup)(he:PEi ce X e me)(hi:X.N[i]?=Za x)(hx:Loc X.env.scope x)(hf:X.fn x=Zh∨X.env.scope.names.lookup x=Za .local):
  PS1 ce X (.AugAssign (.Name x pos') op e pos) (sAug op i me):=by
 intro pj s σ H ι σi h Q E N K
 refine wpAny_AugAssign_Name ?_
 unfold sAug at K
 cases ev:Ja i σi h with
 |exc n h1=>exfalso;unfold Ja at ev;split at ev<;>cases ev
 |stuck=>rw[ev]at K;exact Zf K
 |ok v h1=>
  rw[ev]at K
  obtain⟨e1,rfl⟩:σi[i]?=Za (Za v)/\h1=h:=by
   unfold Ja at ev
   split at ev
   ·rename_i q;cases ev;exact⟨q,rfl⟩
   ·cases ev
  obtain⟨w,hw,qw⟩:=N.st.at_ i v e1
  obtain⟨m,hn,hl⟩:=N.inv.loc
  have vis:Vis X.env.scope x:=by rcases hx with k|k;exact .inl k;exact .inr (.inl k)
  obtain⟨u,r,l⟩:=hl i x w hi hw vis
  have go:Z0 (Z9 X.prog X.w) X.A (ZaY e X.env) (λw s₂=>Z0 (Z9 X.prog X.w) X.A (inplaceOp op u w) (λr s₃=>Z0 (Z9 X.prog X.w) X.A (storeName X.env x r) (λ_=>Q .next) E s₃) E s₂) E s:=by
   refine krun he N K λy h2 uy s2 H2 ι2 N2 n2 r2 K2=>?_
   refine o_ip op pj s2 σ H2 ι2 σi h2 v y u uy _ E N2 ⟨w,r,RV.mono n2 _ _ qw⟩ r2 ?_
   cases ez:ipI op v y h2 with
   |exc n h3=>
    rw[ez]at K2
    exact λpl a s' H' ι' N' n' q=>K2 pl a s' σ H' ι' N' n' q s'<|.inl rfl
   |stuck=>rw[ez]at K2;exact K2
   |ok z h3=>
    rw[ez]at K2
    intro uz s3 H3 ι3 N3 n3 r3
    obtain⟨zv,rz,qz⟩:=r3
    exact Jg0 N3.inv hN hi hx rz (λs4 I4=>K2 s4 _ H3 ι3 ⟨I4,N3.rel,N3.st.set i qz⟩ n3) hf
  rcases l with⟨hk,hm⟩|⟨hk,c,hc,hcell⟩
  ·exact wpAny_loadName_local N.inv.ok.kind hk hn hm go
  ·rcases hk with hk|hk
   ·exact wpAny_loadName_cell N.inv.ok.kind hk hc hcell go
   ·rcases hx with k|k
    ·have:X.env.scope.names.lookup x=Za .free:=hk
     rw[k]at this;cases this
    ·have:X.env.scope.names.lookup x=Za .free:=hk
     rw[k]at this;cases this
theorem J30{fl:Str}{o e:Expr}{mo me:E1}{op:ZcE}{tpos:Pos}(ho:PEi ce X o mo)(he:PEi ce X e me)(hf:Ym ce X.K fl):PS1 ce X (.AugAssign (.Attribute o fl tpos) op e pos) (XW op fl mo me):=by
 intro pj s σ H ι σi h Q E N K
 refine wpAny_AugAssign_AttributeAny<|krun ho N K λov h1 w s1 H1 ι1 N1 n1 r1 K1=>?_
 cases ov with
 |ref i=>
  obtain⟨w,rw',a,e1,hi⟩:=r1
  subst e1
  cases rw'
  dsimp only at K1
  cases hh:h1[i]? with
  |none=>rw[hh]at K1;exact Zf K1
  |some ob=>
   cases ob with
   |ins c fs=>
    rw[hh]at K1
    dsimp only at K1
    cases hl:fs.lookup fl with
    |none=>rw[hl]at K1;exact Zf K1
    |some x=>
     rw[hl]at K1
     obtain⟨C,dx,vs,hC,hH,rp⟩:=N1.at hh hi
     obtain⟨cl,na⟩:=hf c C hC
     obtain⟨y,hy,q⟩:=(RPs.lookup rp).1 x hl
     refine Ji4 N1.inv hH cl na hy λu' s2 I2 ru=>?_
     refine krun he (⟨I2,N1.rel,N1.st⟩:Now ce X pj ι1 σi h1 σ H1 s2) K1 λz h3 uz s3 H3 ι3 N3 n3 r3 K3=>?_
     refine o_ip op pj s3 σ H3 ι3 σi h3 x z u' uz _ E N3 ⟨y,ru,RV.mono n3 _ _ q⟩ r3 ?_
     cases ez:ipI op x z h3 with
     |exc n h4=>
      rw[ez]at K3
      exact λpl a s' H' ι' N' n' q=>K3 pl a s' σ H' ι' N' n' q s'<|.inl rfl
     |stuck=>rw[ez]at K3;exact K3
     |ok v h4=>
      rw[ez]at K3
      intro uv s4 H4 ι4 N4 n4 r4
      dsimp only[rS]at K3
      have hi4:ι4[i]?=Za a:=n4.at<|n3.at hi
      cases h4i:h4[i]? with
      |none=>rw[h4i]at K3;exact Zf K3
      |some ob=>
       cases ob with
       |ins c' gs=>
        rw[h4i]at K3
        dsimp only at K3
        split at K3
        ·rename_i hz
         obtain⟨C',dx',vs',hC',hH',rp'⟩:=N4.at h4i hi4
         obtain⟨cl',na'⟩:=hf c' C' hC'
         obtain⟨yv,ryv,qv⟩:=r4
         refine Jja N4.inv hH' cl' na' (by rw[rp'.length];exact hz) ryv λs5 I5=>?_
         have n5:Nxt ι4 H4 ι4 (upd H4 a<|.ins C' dx'<|putF fl yv vs'):=⟨⟨[],03⟩,Ext.upd_mut hH'<|by rw[hH'];exact Zar⟩
         obtain⟨R5,_⟩:=N4.rel.write (o:=.ins C' dx'<|putF fl yv vs') (io:=.ins c'<|putI fl v gs) hi4 hH' (by rw[hH'];exact Zar) ⟨C',dx',_,hC',JH,RPs.put (RV.mono n5 _ _ qv)<|RPs.mono n5 _ _ rp'⟩
         exact K3 s5 σ _ ι4 ⟨I5,R5,N4.st.mono n5⟩<|n4.trans n5
        ·exact Zf K3
       |_=>rw[h4i]at K3;exact Zf K3
   |_=>rw[hh]at K1;exact Zf K1
 |_=>exact Zf K1
theorem J2b:OpI ce X Zdp ixL:=by
 intro pj s σ H ι σi h x y v u Q E N rx ry K
 obtain⟨xv,rx,qx⟩:=rx
 obtain⟨yv,ry,qy⟩:=ry
 cases x with
 |ref i=>
  cases y with
  |int k=>
   obtain⟨a,rfl,ha⟩:=qx
   cases (show yv=.int k from qy)
   cases rx
   obtain⟨t,rfl⟩:=ry
   dsimp only[ixL]at K
   cases hi:h[i]? with
   |none=>rw[hi]at K;exact Zf K
   |some ob=>
    rw[hi]at K
    cases ob with
    |lst xs=>
     dsimp only at K
     cases hk:atI xs k with
     |none=>rw[hk]at K;exact Zf K
     |some z=>
      rw[hk]at K
      dsimp only at K
      split at K
      ·rename_i h0
       obtain⟨vs,e1,r1⟩:=N.at hi ha
       obtain⟨w,hw,qw⟩:=Jjh r1 hk
       obtain⟨its,r,pl,hz⟩:=N.inv.list<|SqL.of e1
       obtain⟨j,g1,g2,g3,g4,g5⟩:=Jjf hw
       obtain⟨w',ew,rw'⟩:=r.get g2
       have hn:=Xm
       have hj:k.toNat=j:=by
        rw[Zes h0 g5]at g1
        exact Zaq g1
       exact wpAny_getItem_list pl.isList h0 00 (by rw[hj];simpa using ew)<|K _ _ H ι N .refl ⟨w,rw',qw⟩
      ·exact Zf K
    |_=>exact Zf K
  |_=>exact Zf K
 |_=>cases y<;>exact Zf K
theorem J22(p:OpI ce X f g)(N:Now ce X pj ι σi h σ H s)(rx:RU X.K ι H x v)(ry:RU X.K ι H y u)
  {k:IV->IH->SRes}{Q:Flow->Zn->Prop}{E Q1:QvT}(K:JL ce X pj ι H (rS σi (g x y h) k) Q E)
  (step:∀z h1 w s1 H1 ι1,Now ce X pj ι1 σi h1 σ H1 s1->Nxt ι H ι1 H1->RU X.K ι1 H1 z w->JL ce X pj ι1 H1 (k z h1) Q E->Q1 w s1):Z0 (Z9 X.prog X.w) X.A (f v u) Q1 E s:=by
 refine p pj s σ H ι σi h x y v u Q1 E N rx ry ?_
 cases e:g x y h with
 |ok z h'=>
  rw[e]at K
  exact λw s' H' ι' N' n' r=>step z h' w s' H' ι' N' n' r<|JL.mono (r:=k z h') K n'
 |exc n h'=>
  rw[e]at K
  exact λpl a s' H' ι' N' n' q=>K pl a s' σ H' ι' N' n' q s'<|.inl rfl
 |stuck=>
  rw[e]at K
  exact K
theorem J39{pj:PnT}{s:Zn}{σ:L2.St}{H:Hp}{ι:Tp}{σi:ISt}{h:IH}{o i v:IV}{ou iu u:Ze}{Q:Flow->Zn->Prop}{E:QvT}(N:Now ce X pj ι σi h σ H s)(ro:RU X.K ι H o ou)(ri:RU X.K ι H i iu)(rv:RU X.K ι H v u)
  (K:JL ce X pj ι H (setI o i v σi h) Q E):Z0 (Z9 X.prog X.w) X.A (setItem ou iu u) (λ_=>Q .next) E s:=by
 obtain⟨ox,ro,qo⟩:=ro
 obtain⟨ix,ri,qi⟩:=ri
 obtain⟨vx,rvx,qv⟩:=rv
 cases o with
 |ref i=>
  rename_i iv
  cases iv with
  |int k=>
   obtain⟨a,rfl,haa⟩:=qo
   cases (show ix=.int k from qi)
   dsimp only[setI]at K
   cases hh:h[i]? with
   |none=>rw[hh]at K;exact Zf K
   |some ob=>
    rw[hh]at K
    cases ob with
    |lst xs=>
     dsimp only at K
     cases hj:ixN xs.length k with
     |none=>rw[hj]at K;exact Zf K
     |some j=>
      rw[hj]at K
      obtain⟨ws,e1,r1'⟩:=N.at hh haa
      refine Zal (Jwf (X:=X.wish E) pj s σ H (.ref a) (.int k) vx ou iu u (λH'=>H'=upd H a (.lst<|ws.set j vx)) (N.inv.wish E) ro ri rvx ⟨a,ws,k,j,rfl,rfl,e1,by rw[r1'.length];exact hj,rfl⟩) (λ_ s3 hq=>?_) λ_ _ z=>z
      obtain⟨H',I',rfl⟩:=hq
      have n:Nxt ι H ι (upd H a<|.lst<|ws.set j vx):=⟨⟨[],03⟩,Ext.upd_mut e1<|by rw[e1];exact Zar⟩
      obtain⟨R3,_⟩:=N.rel.write (o:=.lst<|ws.set j vx) (io:=.lst<|xs.set j v) haa e1 (by rw[e1];exact Zar) ⟨_,JH,(RVs.mono n _ _ r1').set (RV.mono n _ _ qv) j⟩
      exact K s3 σ _ ι ⟨I'.unwish,R3,N.st.mono n⟩ n
    |_=>exact Zf K
  |_=>exact Zf K
 |_=>cases i<;>exact Zf K
theorem J31{o i e:Expr}{mo mi me:E1}{op:ZcE}{tpos:Pos}(ho:PEi ce X o mo)(hi:PEi ce X i mi)(he:PEi ce X e me)(hs:Xo i=Zh):PS1 ce X (.AugAssign (.Subscript o i tpos) op e pos) (XX op mo mi me):=by
 intro pj s σ H ι σi h Q E N K
 refine wpAny_AugAssign_SubscriptAny (krun ho N K λov h1 ou s1 H1 ι1 N1 n1 r1 K1=>krun hi N1 K1 λkv h2 ku s2 H2 ι2 N2 n2 r2 K2=>?_) (λ_ _ _=>by cases i<;>first|rfl|cases hs)
 refine J22 J2b N2 (r1.mono n2) r2 K2 λx h3 xu s3 H3 ι3 N3 n3 r3 K3=>?_
 refine krun he N3 K3 λy h4 yu s4 H4 ι4 N4 n4 r4 K4=>?_
 refine J22 (o_ip op) N4 (r3.mono n4) r4 K4 λz h5 zu s5 H5 ι5 N5 n5 r5 K5=>?_
 exact J39 N5 ((((r1.mono n2).mono n3).mono n4).mono n5) (((r2.mono n3).mono n4).mono n5) r5 K5
end
section
variable{ce:CeT}{k:Nat}{P:Pg}{n:Nat}{S:Sc}{X:Cx}
theorem XU(hf:∀s,PS1 ce X s<|f s):∀(l:Ti),PS2 ce X l (sAll<|l.map f)
 |[]=>J3w
 |[a]=>J3x<|hf a
 |a::b::r=>J0i (hf a)<|XU hf<|b::r
end
section
variable{ce:CeT}{k:Nat}{P:Pg}{S:Sc}{X:Cx}{xi:Xi}{xf:Str->Str->Bool}{fr:Str->Bool}
end
section
variable{ce:CeT}{k:Nat}{P:Pg}{n:Nat}{S:Sc}{X:Cx}
theorem Jyn{tg:Expr}{env:Env}(h:J1 tg=Zh):(ZaL [tg] env).map (·.2)=[ZdZ tg env]:=by
 cases tg<;>first|rfl|cases h
theorem Jwn(G:Good ce k P S X)(i:Nat){p q:Pos}(h:isLC e=Zh)(h1:X.N[i]?=Za x)(h2:L2.Loc X.env.scope x)(h3:X.fn x=Zh∨X.env.scope.names.lookup x=Za .local):
  PS1 ce X (.Assign [.Name x q] e p) (Jj i<|ev P n S e):=by
 cases e with
 |ListComp elt gens sc cp=>
  cases hb:(X.env.blockKind==.function&&X.env.kindOf x==Za .local&&q.line==cp.line&&!(sc.names.any λ(n,k)=>n==x&&(k==.local||k==.cell)))with
  |false=>
   refine J36 G.nodup ((Jko ce k P n).e S X _ G) h1 h2 ?_ h3
   show(pure (X.env.blockKind==.function&&X.env.kindOf x==Za .local&&q.line==cp.line&&!(sc.names.any λ(n,k)=>n==x&&(k==.local||k==.cell))):Sem Bool)=pure Zk
   rw[hb]
  |true=>
   have hsw:Zdq (.ListComp elt gens sc cp) (Za<|.Name x q) p.line X.env=pure Zh:=by
    show(pure (X.env.blockKind==.function&&X.env.kindOf x==Za .local&&q.line==cp.line&&!(sc.names.any λ(n,k)=>n==x&&(k==.local||k==.cell))):Sem Bool)=pure Zh
    rw[hb]
   have dead:∀m:E1,(∀σ h,m σ h=.stuck)->PS1 ce X (.Assign [.Name x q] (.ListComp elt gens sc cp) p) (Jj i m):=λm hm=>by
    intro pj s σ H ι σi h Q E N K
    unfold Jj at K
    rw[hm]at K
    exact Zf K
   cases n with
   |zero=>exact dead _ λ_ _=>rfl
   |succ n=>
    have ih:=Jko ce k P n
    match gens,hsw with
    |[⟨tg,iter,ifs,as⟩],hsw=>
     show PS1 ce X _ (Jj i (if as=0/\XL iter=Zh/\QP S.N (VF sc) (QF sc) (jsOf S sc) S.fake sc=Zh then
      Jrs ifs (evT P n<|S.comp sc) (λmt=>Jz (evI P n S tg iter) (VF sc).length (jsOf S sc) (tgt P n (S.comp sc) tg) mt<|ev P n (S.comp sc) elt)else stE))
     split
     ·rename_i hs
      obtain⟨rfl,hi,ok⟩:=hs
      have Gc:=G.comp ok
      have ok':=ok
      rw[<-Jlo G]at ok'
      match ifs,hsw with
      |[],hsw=>exact Jx1 G.calm (ih.i S X tg iter G) (λC s H fp=>ih.g _ _ tg<|Gc C s H fp) (λC s H fp=>Jx8) (λC s H fp=>ih.e _ _ elt<|Gc C s H fp) ok' G.n rfl (Y3 hi) G.nodup h1 h2 h3 hsw
      |[c],hsw=>exact Jx1 G.calm (ih.i S X tg iter G) (λC s H fp=>ih.g _ _ tg<|Gc C s H fp) (λC s H fp=>Jx9<|ih.t _ _ c<|Gc C s H fp) (λC s H fp=>ih.e _ _ elt<|Gc C s H fp) ok' G.n rfl (Y3 hi) G.nodup h1 h2 h3 hsw
      |_::_::_,_=>exact dead _ λ_ _=>rfl
     ·exact dead _ λ_ _=>rfl
    |[],_=>exact dead _ λ_ _=>rfl
    |⟨_,_,_,_⟩::_::_,_=>exact dead _ λ_ _=>rfl
 |_=>cases h
theorem Jo8(ce:CeT)(k:Nat)(P:Pg):∀(n:Nat)(S:Sc)(X:Cx)(st:Zdt),Good ce k P S X->PS1 ce X st (ex P n S st)
 |0,_,_,_,_=>JZ
 |n+1,S,X,st,G=>by
  have ih:=λst=>Jo8 ce k P n S X st G
  have E:=Jko ce k P n
  have ihe:=λe=>E.e S X e G
  cases st with
  |Pass p=>exact J34
  |Break p=>exact J0n
  |Continue p=>exact J32
  |Expr e p=>
   show PS1 ce X _ (if VH e then JP (ev P n S e)else stS)
   split
   ·rename_i h
    exact J33 (ihe e)<|Jdn h
   ·exact JZ
  |Return v p=>
   cases v with
   |none=>exact J35
   |some e=>exact J6f<|ihe e
  |If c a b p=>exact s_if (E.t S X c G) (XU ih a)<|XU ih b
  |Raise exc cause p=>exact JZ
  |Try body hs o f p=>exact JZ
  |While c a o p=>
   cases o with
   |nil=>
    show PS1 ce X _<|Jnx S.own (evT P n S c)<|sAll<|a.map<|ex P n S
    cases h:S.own with
    |true=>
     obtain⟨hk,hf⟩:=G.top h
     exact J0o hk hf (E.t S X c G)<|XU ih a
    |false=>exact JZ
   |cons _ _=>exact JZ
  |For tg it a o p=>
   cases o with
   |nil=>
    show PS1 ce X _ (if XL it&&S.own then sFor (evI P n S tg it) (tgt P n S tg) (sAll<|a.map<|ex P n S)else stS)
    split
    ·rename_i h
     rw[Zo]at h
     obtain⟨hk,hf⟩:=G.top h.2
     exact J6e G.calm hk hf (E.i S X tg it G) (E.g S X tg G) (XU ih a)<|Y3 h.1
    ·exact JZ
   |cons _ _=>exact JZ
  |AugAssign tg op e p=>
   cases tg with
   |Name x q=>
    show PS1 ce X _ (match S.sto x with|some i=>sAug op i (ev P n S e)|none=>stS)
    cases hv:S.sto x with
    |none=>exact JZ
    |some i=>
     obtain⟨h1,h2,h3⟩:=G.sto hv
     exact J6c G.nodup (ihe e) h1 h2 h3
   |Attribute o f q=>
    show PS1 ce X _ (if P.fld f then XW op f (ev P n S o) (ev P n S e)else stS)
    split
    ·rename_i h
     exact J30 (ihe o) (ihe e)<|G.pg.fld f h
    ·exact JZ
   |Subscript o i q=>
    show PS1 ce X _ (if Xo i then XX op (ev P n S o) (ev P n S i) (ev P n S e)else stS)
    split
    ·rename_i h
     exact J31 (ihe o) (ihe i) (ihe e) h
    ·exact JZ
   |_=>exact JZ
  |Assign tgs e p=>
   match tgs with
   |[]=>exact JZ
   |a::_::_=>cases a<;>exact JZ
   |[tg]=>
    have gen:PS1 ce X (.Assign [tg] e p) (if VH e&&((Jvm tg&&Jz5 e)||Jvl tg)then sAsg (ev P n S e) (tgt P n S tg)else stS):=by
     split
     ·rename_i h
      simp only[Zo,Za4]at h
      have hst:J1 tg=Zh:=by
       rcases h.2 with q|q
       ·cases tg<;>first|rfl|(simp[Jvm]at q)
       ·cases tg<;>first|rfl|(simp[Jvl]at q)
      refine J6b (ihe e) (E.g S X tg G) (Jdn h.1) ?_<|Jyn hst
      rcases h.2 with q|q
      ·cases tg with
       |Tuple es j pp=>
        have q2:=q.2
        cases e<;>first|rfl|(simp[Jz5]at q2)
       |_=>simp[Jvm]at q
      ·cases tg with
       |Subscript=>cases e<;>rfl
       |_=>simp[Jvl]at q
     ·exact JZ
    cases tg with
    |Name x q=>
     show PS1 ce X _ (if VH e||isLC e then(match S.sto x with|some i=>Jj i (ev P n S e)|none=>stS)else stS)
     split
     ·rename_i h
      cases hv:S.sto x with
      |none=>exact JZ
      |some i=>
       obtain⟨h1,h2,h3⟩:=G.sto hv
       rcases Za4 _ _▸h with h|h
       ·exact J36 G.nodup (ihe e) h1 h2 (Jdn h) h3
       ·exact Jwn G i h h1 h2 h3
     ·exact JZ
    |Attribute o f q=>
     show PS1 ce X _ (if VH e||isLC e then J0j P f (ev P n S o) (ev P n S e)else stS)
     split
     ·rename_i h
      have hw:Zdq e (Za<|.Attribute o f q) p.line X.env=pure Zk:=by
       rcases Za4 _ _▸h with h|h
       ·exact Jdn h
       ·cases e<;>first|rfl|cases h
      unfold J0j
      split
      ·rename_i hf
       exact J6d (ihe o) (ihe e) (G.pg.fld f hf) hw
      ·exact JZ
     ·exact JZ
    |_=>exact gen
  |_=>exact JZ
end
structure D4 where
 st:Zdt
 qual:Str
 ps:Tg
 N:Tg
 dvs:Tq
abbrev _root_.Wo:=List<|Str×D4
def D4.sc(d:D4):Sc:=⟨d.N,(JV d.st).names,Zh,d.qual⟩
set_option genInjectivity false in
structure Tab where
 fns:Wo
 clss:Wo
 meths:List<|Str×Wo
 cons:Wl
 isas:List<|Str×Tg
 flds:Tg
 frees:Tg
 tabs:Tg:=[]
 razs:Tg:=[]
 xis:List (Str×List (Str×Bool)):=[]
 bass:Tg:=[]
 wrs:Wo:=[]
 nes:Tg:=[]
 xms:Wo:=[]
 xfs:List (Str×Tg):=[]
 xbs:Tg:=[]
noncomputable def memS (x:Str):Tg->Bool
 |[]=>Zk
 |y::r=>y==x||memS x r
noncomputable def Q3 {α:Type}(x:Str):List (Str×α)->Option α
 |[]=>Zc
 |(y,a)::r=>if y==x then Za a else Q3 x r
def xfOf(T:Tab)(f c:Str):Bool:=match Q3 f T.xfs with|some l=>memS c l|none=>Zk
def mkPg(T:Tab)(r:D4->Tq->IH->Res IV):Pg where
 fn:=λx=>(Q3 x T.fns).map λd=>⟨d.ps.length,d.dvs,r d⟩
 cls:=λx=>(Q3 x T.clss).map λd=>⟨d.ps.length,d.dvs,r d⟩
 meth:=λc m=>((Q3 c T.meths).bind<|Q3 m).map λd=>⟨d.ps.length,d.dvs,r d⟩
 con:=λx=>Q3 x T.cons
 isa:=λx=>(Q3 x T.isas).map λl c=>memS c l
 fld:=λx=>memS x T.flds
 free:=λx=>memS x T.frees
 tabs:=λq=>ixOf q T.tabs
 rz:=λx=>memS x T.razs
 xi:=λD=>(Q3 D T.xis).map λl c=>Q3 c l
 bas:=λx=>memS x T.bass
 wr:=λ_=>Zc
 ne:=λx=>memS x T.nes
 xo:=λx=>(Q3 x T.xms).map λd=>⟨d.ps.length,d.dvs,r d⟩
 xf:=xfOf T
 xb:=λx=>memS x T.xbs
def run(T:Tab):Nat->D4->Tq->IH->Res IV
 |0,_=>λ_ _=>.stuck
 |k+1,d=>fnI d.N.length<|sAll<|(Q0 d.st).map<|ex (mkPg T<|run T k) 40 d.sc
theorem QQ:∀{l:List (Str×α)},Q3 x l=Za a->(x,a)∈l
 |[],h=>by cases h
 |(y,b)::r,h=>by
  unfold Q3 at h
  split at h
  ·rename_i e
   cases h
   rw[beq_iff_eq.mp e]
   exact Zy
  ·exact Zp _<|QQ h
theorem Y8:∀{l:Tg},memS x l=Zh->x∈l
 |[],h=>by cases h
 |y::r,h=>by
  unfold memS at h
  rcases Za4 _ _▸h with e|e
  ·rw[beq_iff_eq.mp e]
   exact Zy
  ·exact Zp _<|Y8 e
structure DefOk(K:W.Frag)(x:Str)(d:D4)(fa:Zq)(fd:ZaH):Prop where
 fun_:∃dV,FunD K x d.qual d.st fa fd dV
 sc:FnScope d.N d.ps<|JV d.st
 dv:∀j,j<=d.dvs.length->∃ds,Qp K fd d.ps ds/\ds.length=d.dvs.length-j/\∃vs,Vals vs ds/\∀ι H,RVs K ι H (d.dvs.drop j) vs
structure TabOk(ce:CeT)(T:Tab)(K:W.Frag)(mg:Str->Wx):Prop where
 fn:∀x d,(x,d)∈T.fns->∃fa fd,mg x=Za (.ref fa)/\DefOk K x d fa fd
 cls:∀x d,(x,d)∈T.clss->∃C fa fd,mg x=Za (.ref C)/\ce x=Za C/\Mk K C fa/\DefOk K "__init__" d fa fd
 meth:∀c l m d,(c,l)∈T.meths->(m,d)∈l->∃C fa fd,ce c=Za C/\Cls K C/\Meth K C m fa/\DefOk K m d fa fd
 con:∀x v,(x,v)∈T.cons->∃u y,mg x=Za u/\RelV y u/\∀ι H,RV K ι H v y
 isa:∀D l,(D,l)∈T.isas->∃c,mg D=Za c/\IsOk ce K c λt=>match t with|.ins c=>Za (memS c l)|.exc _=>Zc|_=>Za Zk
 fld:∀f,f∈T.flds->Ym ce K f
 free:∀x,x∈T.frees->mg x=Zc
 bas:∀x,x∈T.bass->∃C,mg x=Za (.ref C)/\BasK K C
 ne:∀c,c∈T.nes->∃C,ce c=Za C/\neIn K C=Zh/\ClsI K C/\W.kitOne K (.ref C) (.type "list")=Za Zk
section
variable{ce:CeT}{T:Tab}{prog:ZB}{w:ZV}{K:W.Frag}{mg:Str->Wx}{base:Zax}
theorem Jp5{k:Nat}{fa:Zq}{fd:ZaH}{ps:Tg}:FnOk prog w K mg base (CXI prog w) k fa fd ps (spI ce K ps λ_ _=>.stuck):=
 ⟨λ_ _ _ _ h=>h.1,λ_ _ _ _ _ _ _ _ _ _ _ _ _ h=>by obtain⟨_,_,_,_,_,_,z⟩:=h;exact z.elim⟩
theorem J54(O:TabOk ce T K mg)(B:T.tabs≠[]->QB mg base)(k:Nat)(hD:∀x d fa fd,DefOk K x d fa fd->FnD ce prog w K mg base (4*k) ⟨d.ps.length,d.dvs,run T k d⟩ fa fd d.ps):PgOk ce (4*k) (mkPg T<|run T k) prog w K mg base:=by
 refine⟨λx f h=>?_,λx f h=>?_,λc m f h=>?_,λx v h=>?_,λD g h=>?_,λf h=>?_,λx h=>?_,λq j h=>B λe=>?_,λx h=>O.bas x<|Y8 h,λc h=>O.ne c<|Y8 h⟩
 ·obtain⟨d,hd,rfl⟩:=ZD.mp h
  obtain⟨fa,fd,hm,ok⟩:=O.fn x d<|QQ hd
  obtain⟨dV,F⟩:=ok.fun_
  exact⟨fa,fd,d.ps,hm,F.kp,hD x d fa fd ok⟩
 ·obtain⟨d,hd,rfl⟩:=ZD.mp h
  obtain⟨C,fa,fd,hm,hC,M,ok⟩:=O.cls x d<|QQ hd
  exact⟨C,fa,fd,d.ps,hm,hC,M,hD _ d fa fd ok⟩
 ·obtain⟨d,hd,rfl⟩:=ZD.mp h
  obtain⟨l,hl,hd⟩:=Option.bind_eq_some_iff.mp hd
  obtain⟨C,fa,fd,hC,cl,me,ok⟩:=O.meth c l m d (QQ hl)<|QQ hd
  exact⟨C,fa,fd,d.ps,hC,cl,me,hD m d fa fd ok⟩
 ·exact O.con x v<|QQ h
 ·obtain⟨l,hl,rfl⟩:=ZD.mp h
  exact O.isa D l<|QQ hl
 ·exact O.fld f<|Y8 h
 ·exact O.free x<|Y8 h
 ·have h':ixOf q T.tabs=Za j:=h
  rw[e]at h'
  cases h'
theorem Jxg(O:TabOk ce T K mg)(B:T.tabs≠[]->QB mg base):∀k x d fa fd,DefOk K x d fa fd->FnD ce prog w K mg base (4*k) ⟨d.ps.length,d.dvs,run T k d⟩ fa fd d.ps
 |0,x,d,fa,fd,ok=>⟨rfl,Jp5,ok.dv⟩
 |k+1,x,d,fa,fd,ok=>by
  refine⟨rfl,?_,ok.dv⟩
  obtain⟨dV,F⟩:=ok.fun_
  show FnOk prog w K mg base (CXI prog w) (4*k+3+1) fa fd d.ps<|spI ce K d.ps<|run T (k+1) d
  refine F.fn (m:=sAll<|(Q0 d.st).map<|ex (mkPg T<|run T k) 40 d.sc) ok.sc λcdv A outer s H E hcd hr=>?_
  refine XU (λst=>Jo8 ce (4*k) (mkPg T<|run T k) 40 d.sc _ st ?_) _
  exact⟨rfl,rfl,ok.sc.nd,ok.sc.kind,rfl,hr.mono 00,λ_ _=>rfl,J54 O B k<|Jxg O B k,λ_=>⟨hcd,rfl⟩,λ_=>hr,λ_=>⟨rfl,rfl⟩⟩
end
inductive All{α:Type}(p:α->Prop):List α->Prop
 |nil:All p []
 |cons {a:α}{l:List α}:p a->All p l->All p (a::l)
theorem All.mem:∀{l:List α}{a:α},All p l->a∈l->p a
 |_,_,.nil,h=>by cases h
 |_,_,.cons h r,m=>by
  rcases Z6.mp m with rfl|m
  ·exact h
  ·exact r.mem m
def Jxa(l:Tg):Ty->Wt:=λt=>match t with|.ins c=>Za (memS c l)|.exc _=>Zc|_=>Za Zk
section
variable{T:Tab}{K:W.Frag}{mg:Str->Wx}
def ceOf(ces:Wn):CeT:=λc=>Q3 c ces
theorem J4e(ces:Wn)(fn:All (λp:Str×D4=>∃fa fd,mg p.1=Za (.ref fa)/\DefOk K p.1 p.2 fa fd) T.fns)
  (cls:All (λp:Str×D4=>∃C fa fd,mg p.1=Za (.ref C)/\ceOf ces p.1=Za C/\Mk K C fa/\DefOk K "__init__" p.2 fa fd) T.clss)
  (meth:All (λq:Str×Wo=>∃C,ceOf ces q.1=Za C/\All (λp:Str×D4=>∃fa fd,Meth K C p.1 fa/\DefOk K p.1 p.2 fa fd) q.2) T.meths)
  (con:All (λp:Str×IV=>∃u y,mg p.1=Za u/\RelV y u/\∀ι H,RV K ι H p.2 y) T.cons)
  (cl:All (λp:Str×Zq=>ClsI K p.2/\All (λf=>QM K p.2 f) T.flds) ces)
  (isa:All (λq:Str×Tg=>∃D,mg q.1=Za (.ref D)/\W.kitOne K (.type "NoneType") (.ref D)=Za Zk/\W.kitOne K (.type "bool") (.ref D)=Za Zk/\W.kitOne K (.type "int") (.ref D)=Za Zk/\W.kitOne K (.type "str") (.ref D)=Za Zk /\
   W.kitOne K (.type "list") (.ref D)=Za Zk/\W.kitOne K (.type "tuple") (.ref D)=Za Zk/\W.kitOne K (.type "dict") (.ref D)=Za Zk/\All (λp:Str×Zq=>W.kitOne K (.ref p.2) (.ref D)=Za (memS p.1 q.2)) ces) T.isas)
  (free:All (λx=>mg x=Zc) T.frees)
  (bas:All (λx=>∃C,mg x=Za (.ref C)/\BasK K C) T.bass:=by exact .nil)
  (nes:All (λc=>∃C,ceOf ces c=Za C/\neIn K C=Zh/\W.kitOne K (.ref C) (.type "list")=Za Zk) T.nes:=by exact .nil):TabOk (ceOf ces) T K mg:=by
 refine⟨λx d h=>fn.mem h,λx d h=>cls.mem h,λc l m d hc hm=>?_,λx v h=>con.mem h,λD l h=>?_,λf hf=>?_,λx h=>free.mem h,λx h=>bas.mem h,λc h=>let ⟨C,p,q,r⟩:=nes.mem h;⟨C,p,q,(cl.mem<|QQ p).1,r⟩⟩
 ·obtain⟨C,hC,hl⟩:=meth.mem hc
  obtain⟨fa,fd,me,ok⟩:=hl.mem hm
  exact⟨C,fa,fd,hC,(cl.mem<|QQ hC).1.cl,me,ok⟩
 ·obtain⟨C,hC,h1,h2,h3,h4,h5,h6,h7,h8⟩:=isa.mem h
  refine⟨_,hC,⟨λb e=>?_,λb e=>?_,λb e=>?_,λb e=>?_,λb e=>?_,λb e=>?_,λb e=>?_,λk C' b e hk=>?_,(λk C' b e=>by cases e)⟩⟩
  ·cases e;exact h1
  ·cases e;exact h2
  ·cases e;exact h3
  ·cases e;exact h4
  ·cases e;exact h5
  ·cases e;exact h6
  ·cases e;exact h7
  ·cases e
   exact⟨(cl.mem<|QQ hk).1,h8.mem<|QQ hk⟩
 ·intro c C e
  obtain⟨h1,h2⟩:=cl.mem<|QQ e
  exact⟨h1.cl,h2.mem hf⟩
theorem len1{α:Type}{P:List α->Prop}(F0:∀a,P [a]):∀us:List α,us.length=1->P us
 |[a],_=>F0 a
theorem len2{α:Type}{P:List α->Prop}(F0:∀a b,P [a,b]):∀us:List α,us.length=2->P us
 |[a,b],_=>F0 a b
theorem len3{α:Type}{P:List α->Prop}(F0:∀a b c,P [a,b,c]):∀us:List α,us.length=3->P us
 |[a,b,c],_=>F0 a b c
theorem len4{α:Type}{P:List α->Prop}(F0:∀a b c d,P [a,b,c,d]):∀us:List α,us.length=4->P us
 |[a,b,c,d],_=>F0 a b c d
theorem len5{α:Type}{P:List α->Prop}(F0:∀a b c d e,P [a,b,c,d,e]):∀us:List α,us.length=5->P us
 |[a,b,c,d,e],_=>F0 a b c d e
theorem len6{α:Type}{P:List α->Prop}(F0:∀a b c d e f,P [a,b,c,d,e,f]):∀us:List α,us.length=6->P us
 |[a,b,c,d,e,f],_=>F0 a b c d e f
theorem len7{α:Type}{P:List α->Prop}(F0:∀a b c d e f g,P [a,b,c,d,e,f,g]):∀us:List α,us.length=7->P us
 |[a,b,c,d,e,f,g],_=>F0 a b c d e f g
theorem J6o:∀j:Nat,j<=3->j=0∨j=1∨j=2∨j=3:=00
theorem Jxf{x:Str}{d:D4}{fa:Zq}{oc kV doc pm cdv ct:Ze}{od an:Wz}{osl:Wb}(lk:K.lookup fa=Za ⟨oc,od,.func<|W.fnOf x d.qual (Vb d.st) (Q0 d.st) (JV d.st) .none kV doc pm an cdv ct,osl⟩)
  (hc:W.codeIn K cdv d.qual=Zh)(hk:W.keepIn K (.ref fa)=Zh)(sc:FnScope d.N d.ps<|JV d.st)(hd:d.dvs=[])
  (hb:∀us:To,us.length=d.ps.length->Zeq (W.fnOf x d.qual (Vb d.st) (Q0 d.st) (JV d.st) .none kV doc pm an cdv ct) ⟨us,[]⟩=pure (d.ps.zip us)):
  DefOk K x d fa (W.fnOf x d.qual (Vb d.st) (Q0 d.st) (JV d.st) .none kV doc pm an cdv ct):=
 ⟨⟨_,⟨oc,od,kV,doc,pm,an,cdv,ct,osl,rfl,lk,hc⟩,hk⟩,sc,λj hj=>⟨[],.all hb,by rw[hd];simp,[],.nil,by rw[hd];intro _ _;cases j<;>exact rfl⟩⟩
noncomputable def scOk (N P:Tg)(sc:Zbg):Bool:=
 sc.kind==.function&&!sc.isCoroutine&&!sc.isGenerator&&decide N.Nodup&&decide (N.take P.length=P)&&P.all (λx=>sc.names.lookup x==Za .local||sc.names.lookup x==Za .cell)&&sc.names.all (λy=>!(y.2==.free))
theorem scOk.of(h:scOk N P sc=Zh):FnScope N P sc:=by
 simp only[scOk,Zo,beq_iff_eq,ZaN,decide_eq_true_eq,Zbe,Za4,beq_eq_false_iff_ne]at h
 obtain⟨⟨⟨⟨⟨⟨h1,h2⟩,h3⟩,h4⟩,h5⟩,h6⟩,h7⟩:=h
 exact⟨h1,h2,h3,h4,h5,h6,h7⟩
def FnB(x q:Str)(d:D4):Prop:=FnScope d.N d.ps (JV d.st)/\d.dvs=[]/\d.qual=q/\∀(kV doc pm:Ze)(an:Wz)(cdv ct:Ze)(us:To),us.length=d.ps.length->Zeq (W.fnOf x d.qual (Vb d.st) (Q0 d.st) (JV d.st) .none kV doc pm an cdv ct) ⟨us,[]⟩=pure (d.ps.zip us)
section
variable{x q:Str}{d:D4}{h:Zax}{a C:Zq}{oc kV dc pm cd ct:Ze}{od an:Wz}{sl:Wb}
theorem Js2(B:FnB x q d)(hl:K.lookup a=Za ⟨oc,od,.func<|W.fnOf x q (Vb d.st) (Q0 d.st) (JV d.st) .none kV dc pm an cd ct,sl⟩)(hc:W.codeIn K cd q=Zh)(hk:W.keepIn K (.ref a)=Zh):∃fd,DefOk K x d a fd:=by
 obtain⟨s,v,rfl,b⟩:=B
 exact⟨_,Jxf hl hc hk s v<|b _ _ _ _ _ _⟩
theorem J0(X:K.In h)(G:h.Ns Z5 mg)(B:FnB x q d)(ha:W.nsIn K Z5 x=Za (Za<|.ref a):=by k_is)(hl:K.lookup a=Za ⟨oc,od,.func<|W.fnOf x q (Vb d.st) (Q0 d.st) (JV d.st) .none kV dc pm an cd ct,sl⟩:=by k_is)(hc:W.codeIn K cd q=Zh:=by k_is)(hk:W.keepIn K (.ref a)=Zh:=by k_is):∃fa fd,mg x=Za (.ref fa)/\DefOk K x d fa fd:=
 let ⟨fd,D⟩:=Js2 B hl hc hk
 ⟨a,fd,W.mg_of X G ha,D⟩
theorem Qi(B:FnB x q d)(ha:W.findIn K (.ref C) x=Za (Za<|.ref a):=by k_is)(hi:W.isFn K (.ref a)=Zh:=by k_is)(hl:K.lookup a=Za ⟨oc,od,.func<|W.fnOf x q (Vb d.st) (Q0 d.st) (JV d.st) .none kV dc pm an cd ct,sl⟩:=by k_is)(hc:W.codeIn K cd q=Zh:=by k_is)(hk:W.keepIn K (.ref a)=Zh:=by k_is):∃fa fd,Meth K C x fa/\DefOk K x d fa fd:=
 let ⟨fd,D⟩:=Js2 B hl hc hk
 ⟨a,fd,⟨ha,hi,hk⟩,D⟩
theorem Jv0(B:FnB "__init__" q d)(ha:W.findIn K (.ref C) "__init__"=Za (Za<|.ref a):=by k_is)(hi:W.isFn K (.ref a)=Zh:=by k_is)(hl:K.lookup a=Za ⟨oc,od,.func<|W.fnOf "__init__" q (Vb d.st) (Q0 d.st) (JV d.st) .none kV dc pm an cd ct,sl⟩:=by k_is)(hc:W.codeIn K cd q=Zh:=by k_is)(hk:W.keepIn K (.ref a)=Zh:=by k_is)(hm:W.makesIn K C=Zh:=by k_is)(hq:W.keepIn K (.ref C)=Zh:=by k_is):∃fa fd,Mk K C fa/\DefOk K "__init__" d fa fd:=
 let ⟨fd,D⟩:=Js2 B hl hc hk
 ⟨a,fd,⟨hm,ha,hi,hq⟩,D⟩
end
theorem Jzq{prog:ZB}{w:ZV}(O:TabOk ce T K mg)(B:T.tabs≠[]->QB mg base)(k:Nat){d:D4}(hp:d.ps=[x])(ok:DefOk K "law" d fa fd):
  FnOk prog w K mg base (CXI prog w) (4*k) fa fd [x] (Yc K x<|run T k d):=by
 have:=(Jxg (prog:=prog) (w:=w) (base:=base) O B k "law" d fa fd ok).ok
 rw[hp]at this
 exact Ju5 this
end
def WR{α:Type}(r:Res α)(Q:α->IH->Prop):Prop:=match r with
 |.ok a h=>Q a h
 |_=>False
def WS(r:SRes)(N:ISt->IH->Prop)(R:IV->IH->Prop):Prop:=match r with
 |.next σ h=>N σ h
 |.ret v h=>R v h
 |_=>False
section
variable{α β:Type}{σ:ISt}{h:IH}{Q:α->IH->Prop}{N:ISt->IH->Prop}{R:IV->IH->Prop}
theorem WR.mono(x:WR r P)(f:∀a h,P a h->Q a h):WR r Q:=by
 cases r with
 |ok a h=>exact f a h x
 |exc n h=>exact x
 |stuck=>exact x
theorem Je(e:r=.ok a h)(q:Q a h):WR r Q:=by rw[e];exact q
theorem WR.eq(x:WR r Q):∃a h,r=.ok a h/\Q a h:=by
 cases r with
 |ok a h=>exact⟨a,h,rfl,x⟩
 |exc n h=>exact x.elim
 |stuck=>exact x.elim
theorem WS.mono(x:WS r N R)(f:∀σ h,N σ h->N' σ h)(g:∀v h,R v h->R' v h):WS r N' R':=by
 cases r with
 |next σ h=>exact f σ h x
 |ret v h=>exact g v h x
 |_=>exact x
theorem VM(a:α):WR (.ok a h) Q=Q a h:=rfl
theorem Jw8:WR (.stuck:Res α) Q=False:=rfl
theorem Jv(r:Res α)(f:α->IH->Res β)(Q:β->IH->Prop):WR (r.bind f) Q=WR r λa h=>WR (f a h) Q:=by cases r<;>rfl
theorem J1p(r:Res α):WR r.nx Q=WR r Q:=by cases r<;>rfl
theorem QY(c:Prop)[Decidable c](x y:Res α):WR (if c then x else y) Q=((c->WR x Q)/\(¬c->WR y Q)):=by
 by_cases hc:c<;>simp[hc]
theorem QJ(r:Res α)(k:α->IH->SRes):WS (rS σ r k) N R=WR r λa h=>WS (k a h) N R:=by cases r<;>rfl
theorem Jpm(r:SRes)(Q:IV->IH->Prop):WR r.fin Q=WS r (λ_ h=>Q .non h) Q:=by
 cases r with
 |_=>rfl
theorem Jof(σ:ISt):WS (.next σ h) N R=N σ h:=rfl
theorem Juo(v:IV):WS (.ret v h) N R=R v h:=rfl
theorem Jpu(a b:S1):WS (Jg a b σ h) N R=WS (a σ h) (λσ1 h1=>WS (b σ1 h1) N R) R:=by
 unfold Jg;cases a σ h<;>rfl
theorem Jun:WS (Jr σ h) N R=N σ h:=rfl
theorem Jog:WS (J0k σ h) N R=N σ h:=rfl
theorem Jpv(i:Nat)(e:E1):WS (Jj i e σ h) N R=WR (e σ h) λv h1=>N (σ.set i<|Za v) h1:=by unfold Jj;rw[QJ];rfl
theorem Jw9(t:T1)(a b:S1):WS (sIf t a b σ h) N R=WR (t σ h) λc h1=>(c=Zh->WS (a σ h1) N R)/\(c=Zk->WS (b σ h1) N R):=by
 unfold sIf;rw[QJ];congr 1;funext c h1;cases c<;>simp
theorem Jk5(e:E1):WS (Jk e σ h) N R=WR (e σ h) R:=by unfold Jk;rw[QJ];rfl
theorem Joh:WS (J0m σ h) N R=R .non h:=rfl
theorem Jk4(e:E1):WS (JP e σ h) N R=WR (e σ h) λ_ h1=>N σ h1:=by unfold JP;rw[QJ];rfl
theorem Xy(e:E1)(g:G1):WS (sAsg e g σ h) N R=WR (e σ h) λv h1=>WS (g v σ h1) N R:=by unfold sAsg;rw[QJ]
theorem Jul(i:Nat)(v:IV):WS (gNm i v σ h) N R=N (σ.set i<|Za v) h:=rfl
theorem J4p(n:Nat)(g:Tq->ISt->IH->SRes)(xs:Tq):WS (gTp n g (.tup xs) σ h) N R=(xs.length=n/\WS (g xs σ h) N R):=by
 unfold gTp
 by_cases hn:xs.length=n
 ·simp[hn]
 ·simp[hn,WS]
theorem J6q:WS (gN [] σ h) N R=N σ h:=rfl
theorem J6p(i:Nat)(r:Tq->ISt->IH->SRes)(v:IV)(vs:Tq):WS (gC (gNm i) r (v::vs) σ h) N R=WS (r vs (σ.set i<|Za v) h) N R:=rfl
theorem Xf(f:Str)(o e:E1):WS (JT f o e σ h) N R=WR (e σ h) λv h1=>WR (o σ h1) λov h2=>∃i c fs,ov=.ref i/\h2[i]?=Za (.ins c fs)/\fs.length<1000/\N σ (h2.set i<|.ins c<|putI f v fs):=by
 unfold JT;rw[QJ];congr 1;funext v h1;rw[QJ];congr 1;funext ov h2
 cases ov with
 |ref i=>
  cases e:h2[i]? with
  |none=>simp[WS,e]
  |some o=>
   cases o with
   |ins c fs=>
    by_cases hl:fs.length<1000
    ·simp only[e,hl,if_true,WS]
     refine propext ⟨λq=>⟨i,c,fs,rfl,e,hl,q⟩,λ⟨i',c',fs',e1,e2,_,q⟩=>?_⟩
     cases e1
     rw[e]at e2
     cases e2
     exact q
    ·simp only[e,hl,if_false,WS]
     refine propext ⟨λq=>q.elim,λ⟨i',c',fs',e1,e2,hl',_⟩=>?_⟩
     cases e1
     rw[e]at e2
     cases e2
     exact hl hl'
   |_=>simp[WS,e]
 |_=>simp[WS]
theorem YZ(it:I1)(g:G1)(b:S1):WS (sFor it g b σ h) N R=WR (it σ h) λJ h1=>WS (Qj J.chk g b J.xs σ h1) N R:=by unfold sFor;rw[QJ]
theorem Qw(v:IV)(Q:IV->IH->Prop):WR (eC v σ h) Q=Q v h:=rfl
theorem VJ(f:IV->IV->IH->Res IV)(a b:E1)(Q:IV->IH->Prop):WR (Jc f a b σ h) Q=WR (a σ h) λx h1=>WR (b σ h1) λy h2=>WR (f x y h2) Q:=by
 unfold Jc;rw[Jv];congr 1;funext x h1;rw[Jv]
theorem J1t(f:IV->IH->Res IV)(a:E1)(Q:IV->IH->Prop):WR (eUn f a σ h) Q=WR (a σ h) λx h1=>WR (f x h1) Q:=by unfold eUn;rw[Jv]
theorem Jt2(a b:E1)(tr:IV->IH->Res Bool)(Q:IV->IH->Prop):WR (eAnd a b tr σ h) Q=WR (a σ h) λx h1=>WR (tr x h1) λc h2=>(c=Zh->WR (b σ h2) Q)/\(c=Zk->Q x h2):=by
 unfold eAnd;rw[Jv];congr 1;funext x h1;rw[Jv];congr 1;funext c h2;cases c<;>simp[WR]
theorem J1q(a b:E1)(tr:IV->IH->Res Bool)(Q:IV->IH->Prop):WR (eOr a b tr σ h) Q=WR (a σ h) λx h1=>WR (tr x h1) λc h2=>(c=Zh->Q x h2)/\(c=Zk->WR (b σ h2) Q):=by
 unfold eOr;rw[Jv];congr 1;funext x h1;rw[Jv];congr 1;funext c h2;cases c<;>simp[WR]
theorem Jw3(t:T1)(a b:E1)(Q:IV->IH->Prop):WR (eIf t a b σ h) Q=WR (t σ h) λc h1=>(c=Zh->WR (a σ h1) Q)/\(c=Zk->WR (b σ h1) Q):=by
 unfold eIf;rw[Jv];congr 1;funext c h1;cases c<;>simp
theorem Jk3(a b:T1)(Q:Bool->IH->Prop):WR (QH a b σ h) Q=WR (a σ h) λc h1=>(c=Zh->WR (b σ h1) Q)/\(c=Zk->Q Zk h1):=by
 unfold QH;rw[Jv];congr 1;funext c h1;cases c<;>simp[WR]
theorem Juj(a b:T1)(Q:Bool->IH->Prop):WR (tOrI a b σ h) Q=WR (a σ h) λc h1=>(c=Zh->Q Zh h1)/\(c=Zk->WR (b σ h1) Q):=by
 unfold tOrI;rw[Jv];congr 1;funext c h1;cases c<;>simp[WR]
theorem Joc(a:T1)(Q:Bool->IH->Prop):WR (J7 a σ h) Q=WR (a σ h) λc h1=>Q (!c) h1:=by unfold J7;rw[Jv];rfl
theorem Jod(tr:IV->IH->Res Bool)(a:E1)(Q:Bool->IH->Prop):WR (Ji tr a σ h) Q=WR (a σ h) λx h1=>WR (tr x h1) Q:=by unfold Ji;rw[Jv]
theorem Jg1(f g:IV->IV->IH->Res IV)(a b c:E1)(Q:IV->IH->Prop):WR (JO f g a b c σ h) Q=WR (a σ h) λx h1=>WR (b σ h1) λy h2=>WR (f x y h2) λk h3=>∃t,k=.bl t/\(t=Zh->WR (c σ h3) λz h4=>WR (g y z h4) Q)/\(t=Zk->Q (.bl Zk) h3):=by
 unfold JO;rw[Jv];congr 1;funext x h1;rw[Jv];congr 1;funext y h2;rw[Jv];congr 1;funext k h3
 cases k with
 |bl t=>
  cases t with
  |true=>
   show WR ((c σ h3).bind λz h4=>g y z h4) Q=_
   rw[Jv]
   simp
  |false=>simp[WR]
 |_=>simp[WR]
theorem Job(Q:Tq->IH->Prop):WR (Jd σ h) Q=Q [] h:=rfl
theorem Jkv(a:E1)(r:A1)(Q:Tq->IH->Prop):WR (Jb a r σ h) Q=WR (a σ h) λx h1=>WR (r σ h1) λxs h2=>Q (x::xs) h2:=by
 unfold Jb;rw[Jv];congr 1;funext x h1;rw[Jv];rfl
theorem Jpt(a:A1)(Q:IV->IH->Prop):WR (JG a σ h) Q=WR (a σ h) λxs h1=>xs.length<=sizeLine/\Q (.tup xs) h1:=by
 unfold JG;rw[Jv];congr 1;funext xs h1;rw[QY]
 by_cases hz:xs.length<=sizeLine<;>simp[hz,WR]
theorem Jpq(a:A1)(Q:IV->IH->Prop):WR (J6 a σ h) Q=WR (a σ h) λxs h1=>xs.length<=sizeLine/\Q (.ref h1.length) (h1++[.lst xs]):=by
 unfold J6;rw[Jv];congr 1;funext xs h1;rw[QY]
 by_cases hz:xs.length<=sizeLine<;>simp[hz,WR]
theorem YT(f:Tq->IH->Res IV)(d:Tq)(a:A1)(Q:IV->IH->Prop):WR (Jn f d a σ h) Q=WR (a σ h) λvs h1=>WR (f (vs++d) h1) Q:=by
 unfold Jn;rw[Jv]
theorem Xu(c:Str)(f:Tq->IH->Res IV)(d:Tq)(a:A1)(Q:IV->IH->Prop):WR (Vc c f d a σ h) Q=WR (a σ h) λvs h1=>WR (f (.ref h1.length::(vs++d))<|h1++[.ins c []]) λr h2=>r=.non/\Q (.ref h1.length) h2:=by
 unfold Vc;rw[Jv];congr 1;funext vs h1;rw[Jv];congr 1;funext r h2;cases r<;>simp[WR]
theorem J09(f:Tq->IH->Res IV)(a:A1)(Q:IV->IH->Prop):WR (eCB f a σ h) Q=WR (a σ h) λvs h1=>WR (f vs h1) Q:=by unfold eCB;rw[Jv]
theorem Yh(f:IV->IH->Res IV)(x:IV)(Q:IV->IH->Prop):WR (on1 f [x] h) Q=WR (f x h) Q:=rfl
theorem Jpo(ans:Ty->Wt)(e:E1)(Q:IV->IH->Prop):WR (eIsi ans e σ h) Q=WR (e σ h) λv h1=>∃b,(tyI v h1).bind ans=Za b/\Q (.bl b) h1:=by
 unfold eIsi;rw[Jv];congr 1;funext v h1
 cases (tyI v h1).bind ans<;>simp[WR]
theorem Jk1(Q:Wv->IH->Prop):WR (Qs σ h) Q=Q Zc h:=rfl
theorem Xv(e:E1)(Q:Wv->IH->Prop):WR (JX e σ h) Q=WR (e σ h) λv h1=>∃i,v=.int i/\Q (Za i) h1:=by
 unfold JX;rw[Jv];congr 1;funext v h1;cases v<;>simp[WR]
theorem Vr(f:IV->Wv->Wv->IH->Res IV)(e:E1)(lo hi:O1)(Q:IV->IH->Prop):WR (eSl f e lo hi σ h) Q=WR (e σ h) λx h1=>WR (lo σ h1) λl h2=>WR (hi σ h2) λu h3=>WR (f x l u h3) Q:=by
 unfold eSl;rw[Jv];congr 1;funext x h1;rw[Jv];congr 1;funext l h2;rw[Jv]
noncomputable def VT (f:Str)(v:IV)(h:IH):Tb:=match v with
 |.ref i=>(match h[i]? with
  |some (.ins _ fs)=>fs.lookup f
  |_=>Zc)
 |_=>Zc
theorem Jpn(f:Str)(o:E1)(Q:IV->IH->Prop):WR (Jq f o σ h) Q=WR (o σ h) λv h1=>∃x,VT f v h1=Za x/\Q x h1:=by
 unfold Jq;rw[Jv];congr 1;funext v h1
 cases v with
 |ref i=>
  unfold VT
  cases e:h1[i]? with
  |none=>simp[WR,e]
  |some ob=>
   cases ob with
   |ins c fs=>cases e2:fs.lookup f<;>simp[WR,e,e2]
   |_=>simp[WR,e]
 |_=>simp[WR,VT]
variable{i j:Int}{x y:Str}{P:IV->IH->Prop}
theorem Jpl(i j:Int):WR (Jl (.int i) (.int j) h) P=P (.int<|i+j) h:=rfl
theorem Juh(i j:Int):WR (JY (.int i) (.int j) h) P=P (.int<|i-j) h:=rfl
theorem Jud(i:Int):WR (YD (.int i) h) P=P (.int (-i)) h:=rfl
theorem Jps(i j:Int):WR (Qt (.int i) (.int j) h) P=(Vt i j/\P (.int<|i*j) h):=by
 show WR (XM (.int i) (.int j) h) P=_
 unfold XM;rw[QY];by_cases hm:Vt i j<;>simp[hm,WR]
theorem Jky(i j:Int):WR (JS (.int i) (.int j) h) P=((0<j/\j.natAbs.log2<9000)/\P (.int<|i/j) h):=by
 unfold JS;rw[QY];by_cases hm:0<j/\j.natAbs.log2<9000<;>simp[hm,WR]
theorem Jpr(i j:Int):WR (J8 (.int i) (.int j) h) P=(0<j/\P (.int<|i%j) h):=by
 unfold J8;rw[QY];by_cases hm:0<j<;>simp[hm,WR]
theorem Xe(i j:Int):WR (JK (.int i) (.int j) h) P=((0<=j/\j<=1000000/\i.natAbs<2^64)/\P (.int<|i^j.toNat) h):=by
 unfold JK;rw[QY];by_cases hm:0<=j/\j<=1000000/\i.natAbs<2^64<;>simp[hm,WR]
theorem Jkx(x y:Str):WR (Jl (.str x) (.str y) h) P=(x.length+y.length<=sizeLine/\P (.str<|x++y) h):=by
 unfold Jl;rw[QY];by_cases hm:x.length+y.length<=sizeLine<;>simp[hm,WR]
theorem J1j(i j:Int):WR (cLt (.int i) (.int j) h) P=P (.bl<|decide (i<j)) h:=rfl
theorem J1i(i j:Int):WR (cLe (.int i) (.int j) h) P=P (.bl<|decide (i<=j)) h:=rfl
theorem J4o(x y:Str):WR (cLe (.str x) (.str y) h) P=P (.bl (!decide (y.cps.toList<x.cps.toList))) h:=rfl
theorem J1g(i j:Int):WR (cGt (.int i) (.int j) h) P=P (.bl<|decide (j<i)) h:=rfl
theorem J1f(i j:Int):WR (cGe (.int i) (.int j) h) P=P (.bl<|decide (j<=i)) h:=rfl
theorem J1e(i j:Int):WR (cEq (.int i) (.int j) h) P=P (.bl<|decide (i=j)) h:=rfl
theorem J1o(i j:Int):WR (cNe (.int i) (.int j) h) P=P (.bl (!decide (i=j))) h:=rfl
theorem Jt6(x y:Str):WR (cEq (.str x) (.str y) h) P=P (.bl<|decide (x=y)) h:=rfl
theorem Jue(x y:Str):WR (cNe (.str x) (.str y) h) P=P (.bl (!decide (x=y))) h:=rfl
theorem Jt4(b:Bool)(P:Bool->IH->Prop):WR (asB (.bl b) h) P=P b h:=rfl
theorem Joe(b:Bool)(P:Bool->IH->Prop):WR (tru (.bl b) h) P=P b h:=rfl
theorem Juf(tr:IV->IH->Res Bool)(v:IV):WR (Xp tr v h) P=WR (tr v h) λc h1=>P (.bl (!c)) h1:=by unfold Xp;rw[Jv];rfl
theorem J4n(v w:IV):WR (cIs v w h) P=∃b,isI v w=Za b/\P (.bl b) h:=by unfold cIs;cases isI v w<;>simp[WR]
theorem Qo{chk:IH->Prop}{g:G1}{b:S1}(I:Nat->ISt->IH->Prop){xs:Tq}(hc:∀i σ h,I i σ h->chk h)
  (turn:∀i (hi:i<xs.length) σ h,I i σ h->WS (g xs[i] σ h) (λσ1 h1=>WS (b σ1 h1) (I<|i+1) R) λ_ _=>False)(done:∀σ h,I xs.length σ h->N σ h)(start:I 0 σ h):WS (Qj chk g b xs σ h) N R:=by
 have key:∀(n i:Nat)(σ:ISt)(h:IH),xs.length-i=n->i<=xs.length->I i σ h->WS (Qj chk g b (xs.drop i) σ h) N R:=by
  intro n
  induction n with
  |zero=>
   intro i σ h hn hi hI
   have:i=xs.length:=00
   subst this
   rw[ZdP]
   unfold Qj
   rw[if_pos<|hc _ _ _ hI]
   exact done _ _ hI
  |succ n ih=>
   intro i σ h hn hi hI
   have hlt:i<xs.length:=00
   rw[ZaI hlt]
   unfold Qj
   rw[if_pos<|hc _ _ _ hI]
   have t:=turn i hlt σ h hI
   cases eg:g xs[i] σ h with
   |next σ1 h1=>
    rw[eg]at t
    have t':WS (b σ1 h1) (I<|i+1) R:=t
    dsimp only
    cases eb:b σ1 h1 with
    |next σ2 h2=>rw[eb]at t';exact ih (i+1) σ2 h2 00 hlt t'
    |ret v h2=>rw[eb]at t';exact t'
    |brk σ2 h2=>rw[eb]at t';exact t'.elim
    |cont σ2 h2=>rw[eb]at t';exact t'.elim
    |exc m σ2 h2=>rw[eb]at t';exact t'.elim
    |stuck=>rw[eb]at t';exact t'.elim
   |ret v h1=>rw[eg]at t;exact t.elim
   |brk σ2 h2=>rw[eg]at t;exact t.elim
   |cont σ2 h2=>rw[eg]at t;exact t.elim
   |exc m σ2 h2=>rw[eg]at t;exact t.elim
   |stuck=>rw[eg]at t;exact t.elim
 have:=key xs.length 0 σ h 00 (ZR _) start
 simpa using this
end
section
variable{α:Type}{h h1:IH}{a:α}{r:Res α}{P:IV->IH->Prop}
theorem Js(x:WR r λv h'=>v=a/\h'=h1):r=.ok a h1:=by
 obtain⟨_,_,e,rfl,rfl⟩:=x.eq
 exact e
theorem Xt(xs:Tq)(n:Int):WR (Jf (.tup xs) (.int n) h) P=∃x,atI xs n=Za x/\P x h:=by
 unfold Jf;cases e:atI xs n<;>simp[WR,e]
theorem YW(xs:Tq)(n:Int):WR (Jf (.rol xs) (.int n) h) P=∃x,atI xs n=Za x/\P x h:=by
 unfold Jf;cases e:atI xs n<;>simp[WR,e]
theorem Jpp(i:Nat)(n:Int):WR (Jf (.ref i) (.int n) h) P=∃xs,h[i]?=Za (.lst xs)/\∃x,atI xs n=Za x/\P x h:=by
 unfold Jf
 cases e:h[i]? with
 |none=>simp[WR,e]
 |some o=>
  cases o with
  |lst xs=>cases e2:atI xs n<;>simp[WR,e,e2]
  |_=>simp[WR,e]
theorem YY(xs:Tq):WR (lenI (.tup xs) h) P=P (.int xs.length) h:=rfl
theorem YX(xs:Tq):WR (lenI (.rol xs) h) P=P (.int xs.length) h:=rfl
theorem Jkz(i:Nat):WR (lenI (.ref i) h) P=∃xs,h[i]?=Za (.lst xs)/\P (.int xs.length) h:=by
 unfold lenI
 cases e:h[i]? with
 |none=>simp[WR,e]
 |some o=>cases o<;>simp[WR,e]
theorem Yg(x:Str):WR (lenI (.str x) h) P=(x.length<=sizeLine/\P (.int x.length) h):=by
 unfold lenI;rw[QY];by_cases hm:x.length<=sizeLine<;>simp[hm,WR]
theorem JE{xs:List α}{n:Nat}(e:xs[n]?=Za x):atI xs (n:Int)=Za x:=by
 have hn:n<xs.length:=(Zr.mp e).1
 have:(n:Int)<xs.length:=00
 simp[atI,ixN,this,e]
theorem Qb:atI (x::xs) 0=Za x:=by simp[atI,ixN]
theorem JN{x y:α}{xs:List α}:atI (x::y::xs) 1=Za y:=JE (n:=1) rfl
theorem Qk{x y z:α}{xs:List α}:atI (x::y::z::xs) 2=Za z:=JE (n:=2) rfl
theorem QO{x y z u:α}{xs:List α}:atI (x::y::z::u::xs) 3=Za u:=JE (n:=3) rfl
theorem Vv{x y z u v:α}{xs:List α}:atI (x::y::z::u::v::xs) 4=Za v:=JE (n:=4) rfl
theorem Jjg{xs:List α}{n:Int}(h0:0<=n)(e:xs[n.toNat]?=Za x):atI xs n=Za x:=by
 have:=JE e
 rwa [Int.toNat_of_nonneg h0]at this
theorem YM(i:Int):tyI (.int i) h=Za .int:=rfl
theorem YR(x:Str):tyI (.str x) h=Za .str:=rfl
theorem YS(xs:Tq):tyI (.tup xs) h=Za .tup:=rfl
theorem YN(b:Bool):tyI (.bl b) h=Za .bl:=rfl
theorem YO:tyI .non h=Za .non:=rfl
theorem YQ(xs:Tq):tyI (.rol xs) h=Za .lst:=rfl
theorem Jtx(e:h[i]?=Za (.lst xs)):tyI (.ref i) h=Za .lst:=by simp[tyI,e]
theorem grow{i:Nat}(e:h[i]?=Za o):(h++g)[i]?=Za o:=by
 rw[ZE (Zr.mp e).1];exact e
theorem Jm:(h++[o])[h.length]?=Za o:=03
theorem JF(e:h[i]?=Za o):i<h.length:=(Zr.mp e).1
theorem Jlg(f:IV->Bool):∀xs:Tq,Xh (xs.map λx=>.bl<|f x)=Za (xs.map f)
 |[]=>rfl
 |x::xs=>by simp[Xh,Jlg f xs]
theorem all_map{xs:Tq}(e:h[i]?=Za (.lst<|xs.map λx=>.bl<|f x)):allI (.ref i) h=.ok (.bl<|xs.all f) h:=by
 simp[allI,e,Jlg,List.all_map,Function.comp_def]
end
def Ex(h h':IH):Prop:=∃g,h'=h++g
theorem Ex.refl(h:IH):Ex h h:=⟨[],03⟩
theorem Ex.trans(a:Ex h h1)(b:Ex h1 h2):Ex h h2:=by
 obtain⟨g,rfl⟩:=a
 obtain⟨g',rfl⟩:=b
 exact⟨g++g',03⟩
theorem Ex.get(a:Ex h h'){i:Nat}(e:h[i]?=Za o):h'[i]?=Za o:=by
 obtain⟨g,rfl⟩:=a
 exact grow e
theorem Ex.one(h:IH)(o:IX):Ex h (h++[o]):=⟨[o],rfl⟩
theorem Ex.len(a:Ex h h'):h.length<=h'.length:=by
 obtain⟨g,rfl⟩:=a
 simp
section
variable{α:Type}{h:IH}
theorem Jyz{chk:IH->Prop}{t:T1}{e:E1}{caps:ISt}{p:IV->Bool}{f:IV->IV}(i0:Nat):∀{xs acc:Tq}{o:Tb}{h1:IH},h1[i0]?=Za (.lst acc)->(∀h2,(∀j ob,j≠i0->h1[j]?=Za ob->h2[j]?=Za ob)->chk h2)->acc.length+xs.length<sizeLine ->
  (∀x∈xs,∀h2,(∀j ob,j≠i0->h1[j]?=Za ob->h2[j]?=Za ob)->WR (t (Za x::caps) h2) λb h3=>b=p x/\Ex h2 h3) ->
  (∀x∈xs,p x=Zh->∀h2,(∀j ob,j≠i0->h1[j]?=Za ob->h2[j]?=Za ob)->WR (e (Za x::caps) h2) λv h3=>v=f x/\Ex h2 h3) ->
  WR (JR chk (gNm 0) t e i0 xs (o::caps) h1) λv h3=>v=.ref i0/\∃g,h3=h1.set i0 (.lst<|acc++(xs.filter p).map f)++g
 |[],acc,o,h1,hi,hc,_,_,_=>by
  unfold JR
  rw[if_pos<|hc h1 λ_ _ _ q=>q]
  refine⟨rfl,[],?_⟩
  simp only[List.filter_nil,Zbi,Zam]
  refine(Zca λj=>?_)
  by_cases hj:j=i0
  ·subst hj
   rw[hi,ZX<|JF hi]
  ·rw[ZT<|Zab hj]
 |x::xs,acc,o,h1,hi,hc,hl,ht,he=>by
  unfold JR
  rw[if_pos<|hc h1 λ_ _ _ q=>q]
  dsimp only[gNm,Zb0]
  have hl':acc.length+xs.length+1<sizeLine:=by simpa[ZeA]using hl
  obtain⟨b,h2,e1,rfl,x2⟩:=(ht x Zy h1 λ_ _ _ q=>q).eq
  rw[e1]
  have k12:∀j ob,j≠i0->h1[j]?=Za ob->h2[j]?=Za ob:=λj ob _ q=>x2.get q
  cases hp:p x with
  |false=>
   dsimp only
   refine WR.mono (Jyz i0 (x2.get hi) (λh3 q=>hc h3 λj ob n r=>q j ob n<|k12 j ob n r) 00 (λy hy h3 q=>ht y (Zp _ hy) h3 λj ob n r=>q j ob n<|k12 j ob n r)
    λy hy hpy h3 q=>he y (Zp _ hy) hpy h3 λj ob n r=>q j ob n<|k12 j ob n r) λv h3 ⟨ev,g,eg⟩=>⟨ev,?_⟩
   obtain⟨g2,rfl⟩:=x2
   refine⟨g2++g,?_⟩
   rw[eg,Za0 (h:=JF hi)]
   simp[hp]
  |true=>
   dsimp only
   obtain⟨v,h3,e3,rfl,x3⟩:=(he x Zy hp h2 k12).eq
   rw[e3]
   dsimp only
   rw[x3.get<|x2.get hi]
   dsimp only
   rw[if_pos 00]
   have k13:∀j ob,j≠i0->h1[j]?=Za ob->(h3.set i0<|.lst<|acc++[f x])[j]?=Za ob:=λj ob n q=>by
    rw[ZT<|Zab n]
    exact x3.get<|x2.get q
   refine WR.mono (Jyz i0 (acc:=acc++[f x]) (by rw[ZX<|JF<|x3.get<|x2.get hi]) (λh4 q=>hc h4 λj ob n r=>q j ob n<|k13 j ob n r) (by simp;omega) (λy hy h4 q=>ht y (Zp _ hy) h4 λj ob n r=>q j ob n<|k13 j ob n r)
    λy hy hpy h4 q=>he y (Zp _ hy) hpy h4 λj ob n r=>q j ob n<|k13 j ob n r) λv h4 ⟨ev,g,eg⟩=>⟨ev,?_⟩
   obtain⟨g3,q3⟩:=x2.trans x3
   refine⟨g3++g,?_⟩
   rw[eg,q3,Za0 (h:=JF hi),Za0 (h:=by rw[Zbu];exact JF hi),Zeg]
   simp[hp]
theorem YU{t:T1}{e:E1}{js:Tl}{p:IV->Bool}{f:IV->IV}(hit:WR (it σ h0) λJ h1=>J.xs=xs/\J.chk=chk/\h1=h)(hl:xs.length<sizeLine)
  (hc:∀h2:IH,(∀(j:Nat)(ob:IX),h[j]?=Za ob->h2[j]?=Za ob)->chk h2)
  (ht:∀x∈xs,∀h2:IH,(∀(j:Nat)(ob:IX),h[j]?=Za ob->h2[j]?=Za ob)->WR (t (Za x::js.map λj=>(σ[j]?).join) h2) λb h3=>b=p x/\Ex h2 h3)
  (he:∀x∈xs,p x=Zh->∀h2:IH,(∀(j:Nat)(ob:IX),h[j]?=Za ob->h2[j]?=Za ob)->WR (e (Za x::js.map λj=>(σ[j]?).join) h2) λv h3=>v=f x/\Ex h2 h3):
  WR (Jz it 1 js (gNm 0) t e σ h0) λv h3=>v=.ref h.length/\∃g,h3=h++.lst ((xs.filter p).map f)::g:=by
 obtain⟨J,h1,e1,q1,q2,rfl⟩:=hit.eq
 unfold Jz
 rw[e1]
 show WR (JR J.chk (gNm 0) t e h1.length J.xs (Zc::js.map λj=>(σ[j]?).join)<|h1++[.lst []]) _
 rw[q1,q2]
 have lift:∀{h2:IH},(∀j ob,j≠h1.length->(h1++[IX.lst []])[j]?=Za ob->h2[j]?=Za ob)->∀j ob,h1[j]?=Za ob->h2[j]?=Za ob:=λq j ob r=>q j ob (Z7<|JF r)<|grow r
 refine WR.mono (Jyz (p:=p) (f:=f) h1.length (acc:=[]) Jm (λh2 q=>hc h2<|lift q) (by simpa using hl) (λx hx h2 q=>ht x hx h2<|lift q) λx hx hp h2 q=>he x hx hp h2<|lift q) λv h3 ⟨ev,g,eg⟩=>⟨ev,g,?_⟩
 rw[eg]
 simp
theorem filt{α:Type}(xs:List α):xs.filter (λ_=>Zh)=xs:=Zdn.mpr 03
theorem Qe{e:E1}{js:Tl}{f:IV->IV}(hit:WR (it σ h0) λJ h1=>J.xs=xs/\J.chk=chk/\h1=h)(hl:xs.length<sizeLine)
  (hc:∀h2:IH,(∀(j:Nat)(ob:IX),h[j]?=Za ob->h2[j]?=Za ob)->chk h2)
  (he:∀x∈xs,∀h2:IH,(∀(j:Nat)(ob:IX),h[j]?=Za ob->h2[j]?=Za ob)->WR (e (Za x::js.map λj=>(σ[j]?).join) h2) λv h3=>v=f x/\Ex h2 h3):
  WR (Jz it 1 js (gNm 0) JD e σ h0) λv h3=>v=.ref h.length/\∃g,h3=h++.lst (xs.map f)::g:=by
 have:=YU (p:=λ_=>Zh) (f:=f) (t:=JD) (e:=e) (js:=js) (σ:=σ) (h:=h) hit hl hc (λ_ _ h2 _=>⟨rfl,.refl _⟩) λx hx _ h2 q=>he x hx h2 q
 rwa [filt]at this
theorem J4{g:IH}:(h++o::g)[h.length]?=Za o:=03
theorem Ex.cons(h:IH)(o:IX)(g:IH):Ex h (h++o::g):=⟨_,rfl⟩
end
section
variable{σ:ISt}{h h1:IH}{Q:IV->IH->Prop}{J:ItI->IH->Prop}
theorem JU(e:E1):WR (Ju e σ h) J=WR (e σ h) λv h1=>WR (XG v h1) J:=by unfold Ju;rw[Jv]
theorem VL(f:Tq->IH->Res ItI)(a:A1):WR (iRg f a σ h) J=WR (a σ h) λvs h1=>WR (f vs h1) J:=by unfold iRg;rw[Jv]
theorem JM(i:Nat):WR (XG (.ref i) h) J=∃xs,h[i]?=Za (.lst xs)/\J ⟨xs,λh'=>h'[i]?=Za (.lst xs)⟩ h:=by
 show WR (itOf (.ref i) h) J=_
 unfold itOf
 cases e:h[i]? with
 |none=>simp[WR,e]
 |some o=>cases o<;>simp[WR,e]
theorem Jt7(xs:Tq):WR (XG (.rol xs) h) J=J ⟨xs,λ_=>True⟩ h:=rfl
theorem YV(xs:Tq):WR (XG (.tup xs) h) J=J ⟨xs,λ_=>True⟩ h:=rfl
theorem Jt8(x:Str):WR (XG (.str x) h) J=J ⟨V2 x,λ_=>True⟩ h:=rfl
theorem Jt5(i:Nat):WR (Ve [.ref i] h) J=∃xs,h[i]?=Za (.lst xs)/\J ⟨QG 0 xs,λh'=>h'[i]?=Za (.lst xs)⟩ h:=by
 show WR (Ve [.ref i] h) J=_
 unfold Ve
 cases e:h[i]? with
 |none=>simp[WR,e]
 |some o=>cases o<;>simp[WR,e]
theorem Xw(j:Int):WR (Qr [.int j] h) J=((-(2^62)<=j/\j<2^62)/\J ⟨rngI 0 j,λ_=>True⟩ h):=by
 unfold Qr;rw[QY];exact propext ⟨λ⟨a,b⟩=>(Classical.em _).elim (λq=>⟨q,a q⟩) λq=>(b q).elim,λ⟨a,b⟩=>⟨λ_=>b,λq=>absurd a q⟩⟩
theorem Jk2(i j:Int):WR (VV [.int i,.int j] h) J=((-(2^62)<=i/\i<2^62/\ -(2^62)<=j/\j<2^62)/\J ⟨rngI i j,λ_=>True⟩ h):=by
 unfold VV;rw[QY];exact propext ⟨λ⟨a,b⟩=>(Classical.em _).elim (λq=>⟨q,a q⟩) λq=>(b q).elim,λ⟨a,b⟩=>⟨λ_=>b,λq=>absurd a q⟩⟩
theorem Qa(i j:Int):(rngI i j).length=(j-i).toNat:=by simp[rngI]
theorem Vk(i j:Int)(n:Nat)(hn:n<(rngI i j).length):(rngI i j)[n]=.int (i+n):=by simp[rngI]
theorem Jr3(xs:Tq)(n:Nat)(hn:n<(QG 0 xs).length):(QG 0 xs)[n]=.tup [.int n,xs[n]'(by rwa [XB]at hn)]:=by
 have:=Jhq xs 0 n
 rw[Zb hn,Zb<|by rwa [XB]at hn]at this
 simpa using this
theorem Xx(i:Nat)(lo hi:Wv):WR (slI (.ref i) lo hi h) Q=∃xs,h[i]?=Za (.lst xs)/\Q (.ref h.length) (h++[.lst<|cutI xs lo hi]):=by
 unfold slI
 cases e:h[i]? with
 |none=>simp[WR,e]
 |some o=>cases o<;>simp[WR,e]
theorem Jug(xs:Tq)(lo hi:Wv):WR (slI (.rol xs) lo hi h) Q=Q (.ref h.length) (h++[.lst<|cutI xs lo hi]):=rfl
theorem Jo6(n d:Nat):HT.sIx n d Zc=d:=HT.sIx_none n d
theorem Yw(xs:List α)(n:Nat):cutI xs Zc (Za (n:Int))=xs.take n:=by
 unfold cutI
 rw[Jo6,HT.sIx_nat]
 simp
theorem Jju(xs:List α)(n:Nat):cutI xs (Za (n:Int)) Zc=xs.drop n:=by
 unfold cutI
 rw[Jo6,HT.sIx_nat]
 by_cases hn:n<=xs.length
 ·rw[Nat.min_eq_left hn]
  exact Za1 03
 ·rw[Nat.min_eq_right 00,ZdP,ZcA 00]
  simp
theorem Jy0(xs:List α)(n m:Nat):cutI xs (Za (n:Int)) (Za (m:Int))=(xs.take m).drop n:=by
 unfold cutI
 rw[HT.sIx_nat,HT.sIx_nat]
 refine Zca λi=>?_
 simp only[List.getElem?_take,Zd3]
 by_cases h1:n+i<xs.length
 ·rw[Nat.min_eq_left<|show n<=xs.length by omega]
  by_cases h3:n+i<m
  ·rw[if_pos h3,if_pos 00]
  ·rw[if_neg h3,if_neg 00]
 ·rw[show xs[n+i]?=Zc from ZaQ 00,show xs[min n xs.length+i]?=Zc from ZaQ 00]
  simp
variable{P:Pg}{m:Str}{n i:Nat}{o:E1}{a:A1}{xs:Tq}{c:Str}{fs:Wl}
theorem J1c(e:o σ h=.ok (.ref i) h1)(hl:h1[i]?=Za (.lst xs))(hg:bmOf "list" m n=Za g):WR (Jp P m n o a σ h) Q=WR (a σ h1) λvs h2=>WR (g (.ref i) vs h2) Q:=by
 unfold Jp
 rw[e]
 have hi:VU (.ref i) h1=Zk:=by simp[VU,hl]
 have ht:tyS (.ref i) h1="list":=by simp[tyS,hl]
 dsimp only
 rw[hi,ht,hg]
 dsimp only
 rw[if_neg Zu]
 unfold eBm
 rw[e,Jv,VM]
 have:tyOk "list" (.ref i) h1=Zh:=by simp[tyOk,hl]
 rw[if_pos this,Jv]
theorem Xd(e:o σ h=.ok (.ref i) h1)(hi:h1[i]?=Za (.ins c fs))(hf:fs.lookup m=Zc)(hd:Qf P m n c=Za (f,d)):WR (Jp P m n o a σ h) Q=WR (a σ h1) λvs h2=>WR (f (.ref i::(vs++d)) h2) Q:=by
 unfold Jp
 rw[e]
 have hi':VU (.ref i) h1=Zh:=by simp[VU,hi]
 dsimp only
 rw[hi',if_pos rfl]
 unfold Ju1
 rw[e,Jv,VM]
 dsimp only
 rw[hi]
 dsimp only
 rw[hd,hf]
 dsimp only
 rw[Jv]
theorem Jt3(y:IV):WR (Xg (.ref i) [y] h) Q=∃xs,h[i]?=Za (.lst xs)/\xs.length<sizeLine/\Q .non (h.set i<|.lst<|xs++[y]):=by
 unfold Xg
 cases e:h[i]? with
 |none=>simp[WR,e]
 |some ob=>
  cases ob with
  |lst xs=>by_cases hz:xs.length<sizeLine<;>simp[WR,e,hz]
  |_=>simp[WR,e]
theorem X3:bmOf "list" "append" 1=Za Xg:=02
theorem Qc(e:h[i]?=Za (.ins c fs)):VT f (.ref i) h=fs.lookup f:=by simp[VT,e]
theorem Jw5:WR (Vf (.ref i) h) Q=∃xs,h[i]?=Za (.lst xs)/\Q (.ref h.length) (h++[.lst xs]):=by
 unfold Vf
 cases e:h[i]? with
 |none=>simp[WR,e]
 |some ob=>cases ob<;>simp[WR,e]
theorem Jk0(xs:Tq):WR (Vf (.tup xs) h) Q=Q (.ref h.length) (h++[.lst xs]):=rfl
theorem Juk:WR (Xs (.ref i) h) Q=∃xs,h[i]?=Za (.lst xs)/\Q (.tup xs) h:=by
 unfold Xs
 cases e:h[i]? with
 |none=>simp[WR,e]
 |some ob=>cases ob<;>simp[WR,e]
end
section
variable{σ:ISt}{h:IH}{Q:IV->IH->Prop}
theorem Jkw(i j:Nat):WR (Jl (.ref i) (.ref j) h) Q=∃xs,h[i]?=Za (.lst xs)/\∃ys,h[j]?=Za (.lst ys)/\xs.length+ys.length<=sizeLine/\Q (.ref h.length) (h++[.lst<|xs++ys]):=by
 unfold Jl
 dsimp only
 split
 ·rename_i xs ys e e'
  rw[QY]
  refine propext ⟨λ⟨a,b⟩=>?_,λ⟨xs',f,ys',f',l,q⟩=>?_⟩
  ·by_cases l:xs.length+ys.length<=sizeLine
   ·exact⟨xs,e,ys,e',l,a l⟩
   ·exact(b l).elim
  ·rw[e]at f
   rw[e']at f'
   cases f
   cases f'
   exact⟨λ_=>q,λn=>absurd l n⟩
 ·rename_i no
  exact propext ⟨Zbt,λ⟨xs,f,ys,f',_⟩=>(no xs ys f f').elim⟩
theorem J1s(i:Int):WR (strI (.int i) h) Q=(i.natAbs.log2<1920/\Q (.str<|toString i) h):=by
 unfold strI
 rw[QY]
 simp only[VM,Jw8,imp_false,Decidable.not_not,eq_iff_iff]
 exact⟨λ⟨a,b⟩=>⟨b,a b⟩,λ⟨a,b⟩=>⟨λ_=>b,a⟩⟩
end
section
variable{σ:ISt}{h h1:IH}{Q:IV->IH->Prop}{P:Pg}{m:Str}{n i:Nat}{o:E1}{a:A1}{x:Str}
theorem J1d(e:o σ h=.ok (.str x) h1)(hg:bmOf "str" m n=Za g):WR (Jp P m n o a σ h) Q=WR (a σ h1) λvs h2=>WR (g (.str x) vs h2) Q:=by
 unfold Jp
 rw[e]
 have hi:VU (.str x) h1=Zk:=rfl
 have ht:tyS (.str x) h1="str":=rfl
 dsimp only
 rw[hi,ht,hg]
 dsimp only
 rw[if_neg Zu]
 unfold eBm
 rw[e,Jv,VM]
 have:tyOk "str" (.str x) h1=Zh:=rfl
 rw[if_pos this,Jv]
theorem Jyu:bmOf "str" "join" 1=Za XH:=02
theorem Jhj:bmOf "list" "extend" 1=Za XC:=02
theorem Jus:bmOf "list" "clear" 0=Za X5:=02
theorem J1h:WR (XH (.str x) [.ref i] h) Q=∃xs,h[i]?=Za (.lst xs)/\∃zs,Q9 xs=Za zs/\JoinOk x zs=Zh/\Q (.str<|Txt.join x zs) h:=by
 unfold XH
 cases e:h[i]? with
 |none=>simp[WR,e]
 |some ob=>
  cases ob with
  |lst xs=>
   cases q:Q9 xs with
   |none=>simp[WR,e,q]
   |some zs=>by_cases hz:JoinOk x zs=Zh<;>simp[WR,e,q,hz]
  |_=>simp[WR,e]
theorem Jw0:WR (X5 (.ref i) [] h) Q=∃xs,h[i]?=Za (.lst xs)/\Q .non (h.set i<|.lst []):=by
 unfold X5
 cases e:h[i]? with
 |none=>simp[WR,e]
 |some ob=>cases ob<;>simp[WR,e]
theorem Jkp:∀zs:Tg,Q9 (zs.map IV.str)=Za zs
 |[]=>rfl
 |z::zs=>by
  rw[Z1,Q9,Jkp zs];rfl
end
section
variable{σ:ISt}{h:IH}{Q:IV->IH->Prop}{i:Nat}
theorem Jui:WR (sumI (.ref i) h) Q=∃xs,h[i]?=Za (.lst xs)/\∃ns,JI xs=Za ns/\Q (.int ns.sum) h:=by
 unfold sumI
 cases e:h[i]? with
 |none=>simp[WR,e]
 |some ob=>
  cases ob with
  |lst xs=>cases q:JI xs<;>simp[WR,e,q]
  |_=>simp[WR,e]
theorem Vy:∀ns:Tk,JI (ns.map IV.int)=Za ns
 |[]=>rfl
 |n::ns=>by
  rw[Z1,JI,Vy ns];rfl
theorem J1l(aa:A1)(md:E1):WR (Yz aa md σ h) Q=WR (aa σ h) λxs h1=>WR (md σ h1) λd h2=>∃i,xs=[.ref i]/\∃ys,h2[i]?=Za (.lst ys)/\∃ns,JI ys=Za ns/\Q (maxD ns d) h2:=by
 unfold Yz
 rw[Jv]
 congr 1;funext xs h1
 rw[Jv]
 congr 1;funext d h2
 match xs with
 |[.ref i]=>
  simp only[Zbw,IV.ref.injEq,and_true,exists_eq_left']
  cases e:h2[i]? with
  |none=>simp[WR]
  |some ob=>
   cases ob with
   |lst ys=>cases q:JI ys<;>simp[WR,q]
   |_=>simp[WR]
 |[]=>simp[WR]
 |[.non]=>simp[WR]
 |[.bl _]=>simp[WR]
 |[.int _]=>simp[WR]
 |[.str _]=>simp[WR]
 |[.tup _]=>simp[WR]
 |[.rol _]=>simp[WR]
 |x::_::_=>cases x<;>simp[WR]
theorem Jub(aa:A1):WR (Yy aa σ h) Q=WR (aa σ h) λxs h1=>∃i,xs=[.ref i]/\∃ys,h1[i]?=Za (.lst ys)/\∃zs,Q9 ys=Za zs/\zs.length+1<Zch/\Q (.int<|cntD (QW zs) zs.length) h1:=by
 unfold Yy
 rw[Jv]
 congr 1;funext xs h1
 match xs with
 |[.ref i]=>
  simp only[Zbw,IV.ref.injEq,and_true,exists_eq_left']
  cases e:h1[i]? with
  |none=>simp[WR]
  |some ob=>
   cases ob with
   |lst ys=>
    cases q:Q9 ys with
    |none=>simp[WR,q]
    |some zs=>by_cases hz:zs.length+1<Zch<;>simp[WR,q,hz]
   |_=>simp[WR]
 |[]=>simp[WR]
 |[.non]=>simp[WR]
 |[.bl _]=>simp[WR]
 |[.int _]=>simp[WR]
 |[.str _]=>simp[WR]
 |[.tup _]=>simp[WR]
 |[.rol _]=>simp[WR]
 |x::_::_=>cases x<;>simp[WR]
theorem Jll{zs:Tg}(nd:zs.Nodup):∀i,i<=zs.length->cntD (QW zs) i=i
 |0,_=>rfl
 |i+1,hi=>by
  have ih:=Jll nd i 00
  have hm:metB (QW zs) i (QW zs i)=Zk:=by
   unfold metB
   rw[List.any_eq_false]
   intro j hj
   have hj:=Zay.mp hj
   simp only[decide_eq_true_eq]
   intro e
   simp only[QW,Zi,Zb (show j<zs.length by omega),Zb (show i<zs.length by omega),ZdQ]at e
   have:=(ZcM nd).mp e
   omega
  unfold cntD
  rw[hm,ih]
  rfl
theorem Jtv(f:Nat->Int):∀(n j:Nat),j<n->f j<=JJ f n
 |0,_,h=>00
 |1,j,h=>by
  obtain rfl:j=0:=00
  exact ZJ _
 |n+2,j,h=>by
  rw[Jdo f 00]
  by_cases hj:j=n+1
  ·subst hj;split<;>omega
  ·have:=Jtv f (n+1) j 00
   split<;>omega
theorem Jpd(f:Nat->Int)(b:Int):∀(n:Nat),0<n->(∀j,j<n->f j<=b)->JJ f n<=b
 |0,h,_=>00
 |1,_,q=>q 0 00
 |n+2,_,q=>by
  rw[Jdo f 00]
  have:=Jpd f b (n+1) 00 λj hj=>q j 00
  have:=q (n+1) 00
  split<;>omega
end
section
variable{h:IH}{Q:IV->IH->Prop}{i:Nat}
theorem Jia(hi:h[i]?=Za (.lst xs))(hj:h[j]?=Za (.lst ys))(hl:xs.length+ys.length<=sizeLine):WR (XC (.ref i) [.ref j] h) Q=Q .non (h.set i<|.lst<|xs++ys):=by
 unfold XC
 simp only[hi,hj]
 rw[if_pos hl]
 rfl
end
def KpB(i0:Nat)(h h':IH):Prop:=∀(j:Nat)(ob:IX),j≠i0->h[j]?=Za ob->h'[j]?=Za ob
def Kp(h h':IH):Prop:=∀(j:Nat)(ob:IX),h[j]?=Za ob->h'[j]?=Za ob
theorem KpB.trans(p:KpB i0 a b)(q:KpB i0 b c):KpB i0 a c:=λj ob n e=>q j ob n<|p j ob n e
theorem Kp.but(p:Kp a b):KpB i0 a b:=λj ob _ e=>p j ob e
theorem Ex.kp(x:Ex a b):Kp a b:=λ_ _ e=>x.get e
theorem J14{chk:IH->Prop}{e:E1}{caps:ISt}{D:IV->IV->IH->Prop}(i0:Nat)(mono:∀x y h2 h3,KpB i0 h2 h3->D x y h2->D x y h3):∀{xs acc:Tq}{o:Tb}{h1:IH},h1[i0]?=Za (.lst acc)->(∀h2,KpB i0 h1 h2->chk h2)->acc.length+xs.length<sizeLine ->
  (∀x∈xs,∀h2:IH,KpB i0 h1 h2->i0<h2.length->WR (e (Za x::caps) h2) λv h3=>Ex h2 h3/\D x v h3) ->
  WR (JR chk (gNm 0) JD e i0 xs (o::caps) h1) λv h3=>v=.ref i0/\∃ys,h3[i0]?=Za (.lst<|acc++ys)/\ys.length=xs.length/\KpB i0 h1 h3/\∀(i:Nat) x y,xs[i]?=Za x->ys[i]?=Za y->D x y h3
 |[],acc,o,h1,hi,hc,_,_=>by
  unfold JR
  rw[if_pos<|hc h1 λ_ _ _ q=>q]
  exact⟨rfl,[],by simpa using hi,rfl,λ_ _ _ q=>q,λi x y q=>by simp at q⟩
 |x::xs,acc,o,h1,hi,hc,hl,he=>by
  unfold JR
  rw[if_pos<|hc h1 λ_ _ _ q=>q]
  dsimp only[gNm,Zb0,JD]
  have hl':acc.length+xs.length+1<sizeLine:=by simpa[ZeA]using hl
  obtain⟨v,h3,e3,x3,dv⟩:=(he x Zy h1 (λ_ _ _ q=>q)<|JF hi).eq
  rw[e3]
  dsimp only
  rw[x3.get hi]
  dsimp only
  rw[if_pos 00]
  have k34:KpB i0 h3 (h3.set i0<|.lst<|acc++[v]):=λj ob n q=>by
   rw[ZT<|Zab n];exact q
  have k14:KpB i0 h1 (h3.set i0<|.lst<|acc++[v]):=x3.kp.but.trans k34
  refine WR.mono (J14 i0 mono (acc:=acc++[v]) (by rw[ZX<|JF<|x3.get hi]) (λh4 q=>hc h4<|k14.trans q) (by simp;omega) λy hy h4 q=>he y (Zp _ hy) h4<|k14.trans q) ?_
  rintro w h5 ⟨rfl,ys,g5,ln,k5,d5⟩
  refine⟨rfl,v::ys,by simpa using g5,by simp[ln],k14.trans k5,?_⟩
  intro i x' y' q1 q2
  cases i with
  |zero=>
   simp only[Za9,Zbb]at q1 q2
   subst q1;subst q2
   exact mono _ _ _ _ (k34.trans k5) dv
  |succ i=>exact d5 i x' y' (by simpa using q1)<|by simpa using q2
theorem Jw1{h h0:IH}{it:I1}{e:E1}{js:Tl}{xs:Tq}{chk:IH->Prop}(D:IV->IV->IH->Prop)(hit:WR (it σ h0) λJ h1=>J.xs=xs/\J.chk=chk/\h1=h)(hl:xs.length<sizeLine)
  (mono:∀x y h2 h3,KpB h.length h2 h3->D x y h2->D x y h3)(hc:∀h2:IH,Kp h h2->chk h2)
  (he:∀x∈xs,∀h2:IH,Kp h h2->h.length<h2.length->WR (e (Za x::js.map λj=>(σ[j]?).join) h2) λv h3=>Ex h2 h3/\D x v h3):
  WR (Jz it 1 js (gNm 0) JD e σ h0) λv h3=>v=.ref h.length/\∃ys,h3[h.length]?=Za (.lst ys)/\ys.length=xs.length/\Kp h h3/\∀(i:Nat) x y,xs[i]?=Za x->ys[i]?=Za y->D x y h3:=by
 obtain⟨J,h1,e1,q1,q2,rfl⟩:=hit.eq
 unfold Jz
 rw[e1]
 show WR (JR J.chk (gNm 0) JD e h1.length J.xs (Zc::js.map λj=>(σ[j]?).join)<|h1++[.lst []]) _
 rw[q1,q2]
 have lift:∀{h2:IH},KpB h1.length (h1++[IX.lst []]) h2->Kp h1 h2:=λq j ob r=>q j ob (Z7<|JF r)<|grow r
 refine WR.mono (J14 h1.length mono (acc:=[]) Jm (λh2 q=>hc h2<|lift q) (by simpa using hl) λx hx h2 q ln=>he x hx h2 (lift q) ln) ?_
 rintro v h3 ⟨rfl,ys,g3,ln,k3,d3⟩
 exact⟨rfl,ys,by simpa using g3,ln,lift k3,d3⟩
section
variable{h:IH}
theorem Jyy{g:G1}{t:T1}{e:E1}{caps:ISt}{p:IV->Bool}{f:IV->IV}{st:IV->ISt}(i0:Nat):∀{xs acc:Tq}{ls:ISt}{h1:IH},ls.length=n->h1[i0]?=Za (.lst acc)->(∀h2,(∀j ob,j≠i0->h1[j]?=Za ob->h2[j]?=Za ob)->chk h2)->acc.length+xs.length<sizeLine ->
  (∀x∈xs,∀(ls:ISt)(h2:IH),ls.length=n->(st x).length=n/\g x (ls++caps) h2=.next (st x++caps) h2) ->
  (∀x∈xs,∀h2,(∀j ob,j≠i0->h1[j]?=Za ob->h2[j]?=Za ob)->WR (t (st x++caps) h2) λb h3=>b=p x/\Ex h2 h3) ->
  (∀x∈xs,p x=Zh->∀h2,(∀j ob,j≠i0->h1[j]?=Za ob->h2[j]?=Za ob)->WR (e (st x++caps) h2) λv h3=>v=f x/\Ex h2 h3) ->
  WR (JR chk g t e i0 xs (ls++caps) h1) λv h3=>v=.ref i0/\∃g,h3=h1.set i0 (.lst<|acc++(xs.filter p).map f)++g
 |[],acc,ls,h1,_,hi,hc,_,_,_,_=>by
  unfold JR
  rw[if_pos<|hc h1 λ_ _ _ q=>q]
  refine⟨rfl,[],?_⟩
  simp only[List.filter_nil,Zbi,Zam]
  refine(Zca λj=>?_)
  by_cases hj:j=i0
  ·subst hj
   rw[hi,ZX<|JF hi]
  ·rw[ZT<|Zab hj]
 |x::xs,acc,ls,h1,hls,hi,hc,hl,hg,ht,he=>by
  unfold JR
  rw[if_pos<|hc h1 λ_ _ _ q=>q]
  obtain⟨sl,eg1⟩:=hg x Zy ls h1 hls
  rw[eg1]
  dsimp only
  have hl':acc.length+xs.length+1<sizeLine:=by simpa[ZeA]using hl
  obtain⟨b,h2,e1,rfl,x2⟩:=(ht x Zy h1 λ_ _ _ q=>q).eq
  rw[e1]
  have k12:∀j ob,j≠i0->h1[j]?=Za ob->h2[j]?=Za ob:=λj ob _ q=>x2.get q
  cases hp:p x with
  |false=>
   dsimp only
   refine WR.mono (Jyy i0 sl (x2.get hi) (λh3 q=>hc h3 λj ob n r=>q j ob n<|k12 j ob n r) 00 (λy hy=>hg y<|Zp _ hy) (λy hy h3 q=>ht y (Zp _ hy) h3 λj ob n r=>q j ob n<|k12 j ob n r)
    λy hy hpy h3 q=>he y (Zp _ hy) hpy h3 λj ob n r=>q j ob n<|k12 j ob n r) λv h3 ⟨ev,g,eg⟩=>⟨ev,?_⟩
   obtain⟨g2,rfl⟩:=x2
   refine⟨g2++g,?_⟩
   rw[eg,Za0 (h:=JF hi)]
   simp[hp]
  |true=>
   dsimp only
   obtain⟨v,h3,e3,rfl,x3⟩:=(he x Zy hp h2 k12).eq
   rw[e3]
   dsimp only
   rw[x3.get<|x2.get hi]
   dsimp only
   rw[if_pos 00]
   have k13:∀j ob,j≠i0->h1[j]?=Za ob->(h3.set i0<|.lst<|acc++[f x])[j]?=Za ob:=λj ob n q=>by
    rw[ZT<|Zab n]
    exact x3.get<|x2.get q
   refine WR.mono (Jyy i0 (acc:=acc++[f x]) sl (by rw[ZX<|JF<|x3.get<|x2.get hi]) (λh4 q=>hc h4 λj ob n r=>q j ob n<|k13 j ob n r) (by simp;omega) (λy hy=>hg y<|Zp _ hy) (λy hy h4 q=>ht y (Zp _ hy) h4 λj ob n r=>q j ob n<|k13 j ob n r)
    λy hy hpy h4 q=>he y (Zp _ hy) hpy h4 λj ob n r=>q j ob n<|k13 j ob n r) λv h4 ⟨ev,g,eg⟩=>⟨ev,?_⟩
   obtain⟨g3,q3⟩:=x2.trans x3
   refine⟨g3++g,?_⟩
   rw[eg,q3,Za0 (h:=JF hi),Za0 (h:=by rw[Zbu];exact JF hi),Zeg]
   simp[hp]
theorem Jw2{g:G1}{t:T1}{e:E1}{js:Tl}{p:IV->Bool}{f:IV->IV}{st:IV->ISt}{n:Nat}(hit:WR (it σ h0) λJ h1=>J.xs=xs/\J.chk=chk/\h1=h)(hl:xs.length<sizeLine)
  (hc:∀h2:IH,(∀(j:Nat)(ob:IX),h[j]?=Za ob->h2[j]?=Za ob)->chk h2)
  (hg:∀x∈xs,∀(ls:ISt)(h2:IH),ls.length=n->(st x).length=n/\g x (ls++js.map λj=>(σ[j]?).join) h2=.next (st x++js.map λj=>(σ[j]?).join) h2)
  (ht:∀x∈xs,∀h2:IH,(∀(j:Nat)(ob:IX),h[j]?=Za ob->h2[j]?=Za ob)->WR (t (st x++js.map λj=>(σ[j]?).join) h2) λb h3=>b=p x/\Ex h2 h3)
  (he:∀x∈xs,p x=Zh->∀h2:IH,(∀(j:Nat)(ob:IX),h[j]?=Za ob->h2[j]?=Za ob)->WR (e (st x++js.map λj=>(σ[j]?).join) h2) λv h3=>v=f x/\Ex h2 h3):
  WR (Jz it n js g t e σ h0) λv h3=>v=.ref h.length/\∃g,h3=h++.lst ((xs.filter p).map f)::g:=by
 obtain⟨J,h1,e1,q1,q2,rfl⟩:=hit.eq
 unfold Jz
 rw[e1]
 show WR (JR J.chk g t e h1.length J.xs (ZU n Zc++js.map λj=>(σ[j]?).join)<|h1++[.lst []]) _
 rw[q1,q2]
 have lift:∀{h2:IH},(∀j ob,j≠h1.length->(h1++[IX.lst []])[j]?=Za ob->h2[j]?=Za ob)->∀j ob,h1[j]?=Za ob->h2[j]?=Za ob:=λq j ob r=>q j ob (Z7<|JF r)<|grow r
 refine WR.mono (Jyy (p:=p) (f:=f) (st:=st) h1.length (acc:=[]) (Zb3 ..) Jm (λh2 q=>hc h2<|lift q) (by simpa using hl) hg (λx hx h2 q=>ht x hx h2<|lift q) λx hx hp h2 q=>he x hx hp h2<|lift q) λv h3 ⟨ev,g,eg⟩=>⟨ev,g,?_⟩
 rw[eg]
 simp
end
def Jyj(ts:Tp)(H:Hp):Prop:=∀b,H b=Zc∨(∃o xs,H b=Za (.frz o<|.lst xs))∨(b∈ts/\H b=Za (.tbl #[]))
theorem Jss{P:ZB}{w:ZV}{K:W.Frag}{mg mb:Str->Wx}{k:Nat}{fa a:Zq}{fd:ZaH}{x:Str}{sp:Sp}{s₁:Zn}{vs:To}{ns:Tk}{ts:Tp}
  (KX:K.In s₁.heap)(hns:s₁.heap.Ns Z5 mg)(hb:s₁.heap.Ns Zcu mb)(hbb:∀x:Str,x≠"__name__"->mb x=Zce x)(hlim:s₁.heap.NoLimit)(hg:s₁.gens=#[])
  (ha:s₁.heap.get? a=Za {cls:=.type "list",data:=.seq vs.toArray})(hi:Zb4 vs ns)(hl:ns.length<=sizeLine)(hr:Room k Ze2)
  (hT:∀p∈ts,s₁.heap.get? p=Za (W.tabObj #[])/\isCodeTable s₁.heap p/\K.lookup p=Zc)
  (hbm:∃bm ob,mg "__builtins__"=Za (.ref bm)/\bm≠Zcu/\s₁.heap.get? bm=Za ob/\ob.cls=.type "module"/\ob.dict=Za Zcu/\ob.data=.plain)
  (F:∀base:Zax,K.In base->base.Ns Z5 mg->QB mg base->FnOk P w K mg base (CXI P w) k fa fd [x] sp)(hbind:∀(s:Zn)(u:Ze),Zc7 s fd ⟨[u],[]⟩ [(x,u)])
  (hsp:∀H:Hp,Jyj ts H->SqL K H a (ns.map V.int)->(∀p∈ts,H p=Za (.tbl #[]))->sp [.ref a] H (λv _=>v=.bl Zh) λ_ _ _=>False):
  Zc4 (Z9 P w) Ze2 (.call (.ref fa) ⟨[.ref a],[]⟩) (λr s'=>r=.ok (.ret<|.bool Zh)/\OldK s₁.heap s'.heap/\s'.os=s₁.os/\Zdo s'.gens) s₁:=by
 have rv:=L2.Yf hi
 have lenV:=hi.length
 have nta:a∉ts:=λz=>by
  have e:=(hT a z).1
  rw[ha]at e
  have e':=Zaq e
  injection e' with h1
  cases h1
 have core:∀H:Hp,Jyj ts H->SqL K H a (ns.map V.int)->HOk P w H s₁.heap->(∀b,H b≠Zc->b=a∨b∈ts)->(H a≠Zc->K.lookup a=Zc)->(∀p∈ts,H p=Za (.tbl #[])) ->
   Zc4 (Z9 P w) Ze2 (.call (.ref fa) ⟨[.ref a],[]⟩) (λr s'=>r=.ok (.ret<|.bool Zh)/\OldK s₁.heap s'.heap/\s'.os=s₁.os/\Zdo s'.gens) s₁:=by
  intro H hO hS hok hA hK hTt
  have base_of:∀{b:Zq}{o:Obj},s₁.heap.get? b=Za o->H b=Zc->(hidT s₁.heap H).get? b=Za o:=λe n=>Jva e n
  have noA:∀{b:Zq}{o:Obj},s₁.heap.get? b=Za o->(∀vs n,o.data≠.seq vs n)->(∀vs,o.data≠.fields vs)->H b=Zc:=λ{b o} e d1 d2=>by
   cases q:H b with
   |none=>rfl
   |some u=>
    rcases hA b (by rw[q];simp)with e'|e'
    ·subst e'
     rw[ha]at e;cases e
     exact absurd rfl (d1 _ _)
    ·rw[(hT b e').1]at e;cases e
     exact absurd rfl (d2 _)
  have nsK:∀{b:Zq}{m:Str->Wx},s₁.heap.Ns b m->(hidT s₁.heap H).Ns b m:=λ{b m} ⟨o,es,ep,e,d,r⟩=>⟨o,es,ep,base_of e (noA e (λ_ _ z=>by rw[d]at z;cases z) λ_ z=>by rw[d]at z;cases z),d,r⟩
  have hKb:K.In (hidT s₁.heap H):=λb o e=>base_of (KX b o e) (by
   cases q:H b with
   |none=>rfl
   |some u=>
    rcases hA b (by rw[q];simp)with e'|e'
    ·subst e'
     rw[hK<|by rw[q];simp]at e;cases e
    ·rw[(hT b e').2.2]at e;cases e)
  have hM:Mod K mg (hidT s₁.heap H):=⟨hKb,nsK hns,⟨mb,nsK hb,hbb⟩,let ⟨mc,h1,h2⟩:=hlim;⟨mc,nsK h1,h2⟩⟩
  have hB:QB mg (hidT s₁.heap H):=by
   obtain⟨bm,ob,b1,b2,b3,b4,b5,b6⟩:=hbm
   refine⟨bm,ob,b1,b2,λz=>?_,base_of b3 (noA b3 (λ_ _ z=>by rw[b6]at z;cases z) λ_ z=>by rw[b6]at z;cases z),b4,b5,b6⟩
   obtain⟨o,es,ep,e,d,_⟩:=hns
   rw[<-z,b3]at e
   cases e
   rw[b6]at d
   cases d
  have e0:Env0 P w K mg (hidT s₁.heap H) Ze2 [] s₁ H:=⟨rfl,hM,λb o e=>Jz8 e,Zc6<|Jsc _ _,trivial,λb hb=>absurd (show b∈([]:Tp)from hb) 03,hok,.of_eq hg⟩
  refine Zc9 ((F _ hKb (nsK hns) hB).run Ze2 [] s₁ H ⟨[.ref a],[]⟩ [.ref a] [.ref a] _ _ hr e0 (hbind s₁<|.ref a) (.cons rfl .nil)<|hsp H hO hS hTt) λr s' h=>?_
  cases r with
  |error e=>exact h.elim λ_ z=>z.2.2.2.2.elim
  |ok fl=>
   cases fl with
   |next=>exact Zbt h
   |brk=>exact Zbt h
   |cont=>exact Zbt h
   |ret u=>
    obtain⟨v,H',os,bare,un,hok',r',q⟩:=h
    have q':v=.bl Zh:=q
    subst q'
    obtain rfl:u=ZcL Zh:=r'
    have main:∀b o,s₁.heap.get? b=Za o->asItWas s₁.heap s'.heap b o/\∃o',s'.heap.get? b=Za o':=λb o e=>by
     rcases hO b with z|⟨ob,xs,z⟩|⟨hb,z⟩
     ·have:=un.keep b o e z (by intro z;exact absurd (show b∈([]:Tp)from z) 03) 03
      exact⟨.inl this,_,this⟩
     ·have z2:=un.frzs b ob _ z
      obtain⟨e1,_⟩:=hok b _ z
      obtain⟨e2,_⟩:=hok' b _ z2
      rw[e]at e1;cases e1
      exact⟨.inl e2,_,e2⟩
     ·obtain⟨more,z2⟩:=un.tbls b _ z
      have e2:=hok' b _ z2
      have e1:=(hT b hb).1
      rw[e]at e1
      cases e1
      exact⟨.inr<|.inl ⟨(hT b hb).2.1,rfl,#[],more,rfl,e2⟩,_,e2⟩
    exact⟨rfl,⟨λb o e=>(main b o e).1,λb o e=>(main b o e).2⟩,os,bare⟩
 cases hk:K.lookup a with
 |some o=>
  have e:=KX a o hk
  rw[ha]at e
  cases e
  refine core (λb=>if b∈ts then Za (.tbl #[])else Zc) (λb=>?_) (.inr ⟨_,vs.toArray,_,hk,rfl,rfl,rfl,by rw[Zt,lenV];exact hl,by simpa using rv⟩) (λb u z=>?_) (λb z=>?_) (λz=>absurd (if_neg nta) z) λp hp=>if_pos hp
  ·by_cases hb:b∈ts
   ·exact .inr<|.inr ⟨hb,if_pos hb⟩
   ·exact .inl<|if_neg hb
  ·by_cases hb:b∈ts
   ·have z':=(if_pos hb).symm.trans z
    cases z'
    exact(hT b hb).1
   ·have z':=(if_neg hb).symm.trans z
    cases z'
  ·by_cases hb:b∈ts
   ·exact .inr hb
   ·exact absurd (if_neg hb) z
 |none=>
  refine core (λb=>if b=a then Za (.frz {cls:=.type "list",data:=.seq vs.toArray} (.lst<|ns.map V.int))else if b∈ts then Za (.tbl #[])else Zc) (λb=>?_) (.inl<|.inr ⟨{cls:=.type "list",data:=.seq vs.toArray},if_pos rfl⟩) (λb u z=>?_) (λb z=>?_) (λ_=>hk) λp hp=>?_
  ·by_cases hb:b=a
   ·exact .inr<|.inl ⟨_,_,if_pos hb⟩
   ·by_cases hc:b∈ts
    ·exact .inr<|.inr ⟨hc,(if_neg hb).trans<|if_pos hc⟩
    ·exact .inl<|(if_neg hb).trans<|if_neg hc
  ·by_cases hb:b=a
   ·have z':=(if_pos hb).symm.trans z
    cases z'
    subst hb
    exact⟨ha,by rw[Zg];exact hl,vs,_,rv,ha⟩
   ·by_cases hc:b∈ts
    ·have z':=((if_neg hb).trans<|if_pos hc).symm.trans z
     cases z'
     exact(hT b hc).1
    ·have z':=((if_neg hb).trans<|if_neg hc).symm.trans z
     cases z'
  ·by_cases hb:b=a
   ·exact .inl hb
   ·by_cases hc:b∈ts
    ·exact .inr hc
    ·exact absurd ((if_neg hb).trans<|if_neg hc) z
  ·have hb:p≠a:=λz=>nta<|z▸hp
   exact(if_neg hb).trans<|if_pos hp
noncomputable def Juu (o:Obj)(q:Str):Bool:=match o with
 |⟨_,_,.fields vs,_⟩=>(match vs.toList with|_::.str n _::_=>n==q|_=>Zk)
 |_=>Zk
def Vo(K:W.Frag)(q:Str)(p:Zq):Bool:=(K.lookup p).isNone&&K.all (λe=>!(Juu e.2 q)||W.codeHdIn K e.1 p)&&K.any (λe=>Juu e.2 q&&W.codeHdIn K e.1 p)
def Vu(K:W.Frag):Tg->Tp->Bool
 |[],[]=>Zh
 |q::qs,p::ps=>Vo K q p&&!ps.contains p&&Vu K qs ps
 |_,_=>Zk
theorem Jql{K:W.Frag}(h:K.lookup c=Za o):(c,o)∈K:=by
 induction K with
 |nil=>cases h
 |cons p K ih=>
  obtain⟨b,o'⟩:=p
  rw[Zad]at h
  split at h
  ·rename_i e
   cases h
   rw[beq_iff_eq.mp e]
   exact Zy
  ·exact Zp _<|ih h
theorem Vo.code{K:W.Frag}{q:Str}{p:Zq}(h:Vo K q p=Zh):∀cdv,W.codeIn K cdv q=Zh->∃c,cdv=.ref c/\W.codeHdIn K c p=Zh:=by
 simp only[Vo,Zo,Zbe,Za4,ZaN]at h
 intro cdv e
 unfold W.codeIn at e
 split at e
 ·rename_i c
  refine⟨c,rfl,?_⟩
  cases hk:K.lookup c with
  |none=>rw[hk]at e;cases e
  |some o=>
   rw[hk]at e
   rcases h.1.2 _ (Jql hk)with z|z
   ·exfalso
    have e':Juu o q=Zh:=by
     obtain⟨oc,od,dt,sl⟩:=o
     cases dt<;>first|exact e|cases e
    have z':Juu o q=Zk:=z
    rw[e']at z'
    cases z'
   ·exact z
 ·cases e
theorem Vo.some{K:W.Frag}{q:Str}{p:Zq}(h:Vo K q p=Zh):K.lookup p=Zc/\∃c,W.codeHdIn K c p=Zh:=by
 simp only[Vo,Zo,Zbf,Option.isNone_iff_eq_none]at h
 obtain⟨⟨h1,_⟩,e,_,h2⟩:=h
 exact⟨h1,e.1,h2.2⟩
theorem Vu.mem{K:W.Frag}:∀{qs:Tg}{ts:Tp},Vu K qs ts=Zh->ts.Nodup/\qs.length=ts.length/\(∀(i:Nat)(q:Str),qs[i]?=Za q->∃p,ts[i]?=Za p/\Vo K q p=Zh)/\∀p∈ts,∃q,Vo K q p=Zh
 |[],[],_=>⟨.nil,rfl,λi q e=>by simp at e,λp hp=>by cases hp⟩
 |q::qs,p::ps,h=>by
  simp only[Vu,Zo,ZaN,List.contains_eq_mem,decide_eq_false_iff_not]at h
  obtain⟨⟨h1,h2⟩,h3⟩:=h
  obtain⟨a,b,c,d⟩:=Vu.mem h3
  refine⟨Zcq.mpr ⟨h2,a⟩,by simp[b],λi r e=>?_,λr hr=>?_⟩
  ·cases i with
   |zero=>
    have e':Za q=Za r:=e
    cases e'
    exact⟨p,rfl,h1⟩
   |succ i=>exact c i r e
  ·rcases Z6.mp hr with rfl|hr
   ·exact⟨q,h1⟩
   ·exact d r hr
 |[],_::_,h=>by cases h
 |_::_,[],h=>by cases h
theorem Jqi{K:W.Frag}{x:Str}{f:Tq->IH->Res IV}{H:Hp}{a:Zq}{ns:Tk}{qs:Tg}{ts:Tp}(hO:Jyj ts H)(hS:SqL K H a<|ns.map V.int)(hT:∀p∈ts,H p=Za (.tbl #[]))(hc:Vu K qs ts=Zh)
  (hf:∃h',f [.rol<|ns.map IV.int] (qs.map IX.tab)=.ok (.bl Zh) h'):Yc K x f [.ref a] H (λv _=>v=.bl Zh) λ_ _ _=>False:=by
 intro ce
 obtain⟨h',hf⟩:=hf
 have sr:SqR K H a (ns.map V.int):=by
  rcases hS with(h|⟨o,h⟩)|h
  ·rcases hO a with z|⟨ob,xs,z⟩|⟨_,z⟩
   ·rw[z]at h;cases h
   ·rw[z]at h;cases h
   ·rw[z]at h;cases h
  ·exact .inl ⟨o,h⟩
  ·exact .inr h
 obtain⟨nd,le,at_,_⟩:=Vu.mem hc
 refine⟨rfl,ts,qs.map IX.tab,[.rol<|ns.map IV.int],⟨by simp[le],nd,λi o e=>?_⟩,⟨.ref a,[],rfl,⟨a,_,rfl,sr,RVs.ints ns⟩,rfl⟩,?_⟩
 ·rw[Z4]at e
  cases eq:qs[i]? with
  |none=>rw[eq]at e;cases e
  |some q=>
   rw[eq]at e
   cases e
   obtain⟨p,ep,hp⟩:=at_ i q eq
   exact⟨p,ep,Vo.code hp,#[],hT p<|ZaT ep,trivial,λpos cv z=>by cases z⟩
 ·rw[hf]
  intro v H' ι' _ _ q
  exact q
theorem Jwy{l:W.OpenLaw}{n k:Nat}{q:ZB}{loose:Tg}{XP:(Str->Wx)->Zax->Prop}{YP:ZV->Zax->Prop}{d:DefRec}{K:Params->W.Frag}{f:Tq->IH->Res IV}{x:Str}{qs:Tg}{ts:Tp}
  (hn:l.most=Za n)(hn2:n<=sizeLine)(hdf:d.params.defaults=[])(hr:Room k Ze2)
  (hY:∀(w:ZV)(h:Zax),YP w h->(K w.params).In h/\∀p∈ts,h.get? p=Za (W.tabObj #[]))(hc:∀w:ZV,Vu (K w.params) qs ts=Zh)
  (F:∀(w:ZV)(mg:Str->Wx)(fa:Zq)(h:Zax),(K w.params).In h->h.Ns Z5 mg->mg d.name=Za (.ref fa) ->
   ∃fd:ZaH,(∀(s:Zn)(u:Ze),Zc7 s fd ⟨[u],[]⟩ [(x,u)]) /\
    ∀base:Zax,(K w.params).In base->base.Ns Z5 mg->QB mg base->FnOk l.prog w (K w.params) mg base (CXI l.prog w) k fa fd [x] (Yc (K w.params) x f))
  (hf:∀ns:Tk,ns.length<=n->∃h',f [.rol<|ns.map IV.int] (qs.map IX.tab)=.ok (.bl Zh) h'):
  W.WalkO q loose XP YP l.row.toRowW d [] (λf vs=>PySem.call f vs):=by
 refine Att.attach_call hn hdf λw s₀ s₁ mg mb fa o pm cd doc a vs ns G Y ho hd hcd hmg hobj hints hlen hg=>?_
 obtain⟨KX,hT⟩:=hY w _ Y
 obtain⟨fd,hb,hF⟩:=F w mg fa _ KX G.T.g hmg
 refine Jss KX G.T.g G.T.b G.T.builtins G.T.nolimit hg hobj hints (ZW hlen hn2) hr (λp hp=>?_) G.T.bmain hF hb λH hO hS hTt=>Jqi hO hS hTt (hc w)<|hf ns hlen
 obtain⟨q,hq⟩:=(Vu.mem<|hc w).2.2.2 p hp
 obtain⟨h1,c,h2⟩:=Vo.some hq
 exact⟨hT p hp,((W.codeHd_of_K KX h2).tab<|hT p hp).isCodeTable,h1⟩
noncomputable def QD (kf:IV->Int):IV->Tq->IV
 |b,[]=>b
 |b,y::r=>if kf y>kf b then QD kf y r else QD kf b r
theorem Jfz(kf:IV->Int):∀(r:Tq)(b:IV),QD kf b r=b∨QD kf b r∈r
 |[],b=>.inl rfl
 |y::r,b=>by
  unfold QD
  split
  ·rcases Jfz kf r y with e|e
   ·rw[e];exact .inr Zy
   ·exact .inr<|Zp _ e
  ·rcases Jfz kf r b with e|e
   ·exact .inl e
   ·exact .inr<|Zp _ e
theorem Jhi(kf:IV->Int):∀(r:Tq)(b:IV),kf b<=kf (QD kf b r)/\∀y∈r,kf y<=kf (QD kf b r)
 |[],b=>⟨ZJ _,λy hy=>by cases hy⟩
 |y::r,b=>by
  unfold QD
  split
  ·rename_i h
   obtain⟨h1,h2⟩:=Jhi kf r y
   exact⟨00,λz hz=>by
    rcases Z6.mp hz with rfl|hz
    ·exact h1
    ·exact h2 z hz⟩
  ·rename_i h
   obtain⟨h1,h2⟩:=Jhi kf r b
   exact⟨h1,λz hz=>by
    rcases Z6.mp hz with rfl|hz
    ·omega
    ·exact h2 z hz⟩
theorem Jib(hi:h0[i]?=Za (.lst ys))(hm:∀y∈ys,∀h,Ex h0 h->WR (mk y h) λv h'=>v=.int (kf y)/\Ex h h'):
  ∀(r:Nat)(b:IV)(h:IH),Ex h0 h->r<=ys.length->WR (Q5 gtZ mk i ys.length r b (.int<|kf b) h) λv h'=>v=QD kf b (ys.drop<|ys.length-r)/\Ex h h'
 |0,b,h,x,_=>by
  unfold Q5
  rw[x.get hi]
  dsimp only
  rw[if_pos rfl]
  refine⟨?_,.refl _⟩
  rw[Nat.sub_zero,ZdP]
  rfl
 |r+1,b,h,x,hr=>by
  unfold Q5
  rw[x.get hi]
  dsimp only
  rw[if_pos rfl]
  have hlt:ys.length-(r+1)<ys.length:=00
  rw[Zb hlt]
  dsimp only
  have hd:ys.drop (ys.length-(r+1))=ys[ys.length-(r+1)]::ys.drop (ys.length-r):=by
   rw[ZaI hlt,show ys.length-(r+1)+1=ys.length-r by omega]
  obtain⟨v,h2,e,rfl,x2⟩:=(hm _ (Zw hlt) h x).eq
  rw[e,hd]
  show WR (match gtZ (.int<|kf ys[ys.length-(r+1)]) (.int<|kf b)with|some Zh=>_|some Zk=>_|none=>_) _
  unfold gtZ
  dsimp only
  unfold QD
  by_cases hb:kf ys[ys.length-(r+1)]>kf b
  ·rw[decide_eq_true hb,if_pos hb]
   exact WR.mono (Jib hi hm r _ h2 (x.trans x2) 00) λv h' ⟨a,c⟩=>⟨a,x2.trans c⟩
  ·rw[decide_eq_false hb,if_neg hb]
   exact WR.mono (Jib hi hm r _ h2 (x.trans x2) 00) λv h' ⟨a,c⟩=>⟨a,x2.trans c⟩
def Yq(kf:IV->Int)(d:IV):Tq->IV
 |[]=>d
 |y::r=>QD kf y r
theorem Jw4{d:IV}(hi:h[i]?=Za (.lst ys))(hm:∀y∈ys,∀h',Ex h h'->WR (mk y h') λv h2=>v=.int (kf y)/\Ex h' h2):
  WR (QR gtZ mk i (Za d) h) λv h'=>v=Yq kf d ys/\Ex h h':=by
 unfold QR
 rw[hi]
 dsimp only
 cases ys with
 |nil=>exact⟨rfl,.refl _⟩
 |cons y r=>
  obtain⟨v,h2,e,rfl,x2⟩:=(hm y Zy h<|.refl _).eq
  show WR ((mk y h).nx.bind λk h'=>Q5 gtZ mk i (y::r).length ((y::r).length-1) y k h') _
  rw[e]
  have:=Jib (kf:=kf) (x2.get hi) (λz hz h' x=>hm z hz h'<|x2.trans x) ((y::r).length-1) y h2 (.refl _) 03
  refine WR.mono this λv h' ⟨a,c⟩=>⟨?_,x2.trans c⟩
  rw[a]
  simp[Yq]
section
variable{α β:Type}{σ:ISt}{h:IH}
variable{Q:α->IH->Prop}{Z:Nat->IH->Prop}{N:ISt->IH->Prop}{R:IV->IH->Prop}{Y:Nat->ISt->IH->Prop}
theorem J1r{Q:IV->IH->Prop}(x:Str)(lo hi:Wv):WR (slT (.str x) lo hi h) Q=(x.length<=sizeLine/\Q (.str<|Ze4 x lo hi) h):=by
 unfold slT;by_cases z:x.length<=sizeLine<;>simp[WR,z]
end
theorem Jh0:∀{a b c:Tk},ltL a b=Zh->ltL b c=Zh->ltL a c=Zh
 |a::as,b::bs,c::cs,h1,h2=>by
  unfold ltL at h1 h2 ⊢
  by_cases e1:a=b
  ·rw[if_pos e1]at h1
   subst e1
   by_cases e2:a=c
   ·rw[if_pos e2]at h2 ⊢
    exact Jh0 h1 h2
   ·rw[if_neg e2]at h2 ⊢
    exact h2
  ·rw[if_neg e1,decide_eq_true_eq]at h1
   by_cases e2:b=c
   ·subst e2
    rw[if_neg e1,decide_eq_true_eq]
    exact h1
   ·rw[if_neg e2,decide_eq_true_eq]at h2
    rw[if_neg 00,decide_eq_true_eq]
    omega
 |[],_,_,h,_=>by simp[ltL]at h
 |_::_,[],_,h,_=>by simp[ltL]at h
 |_::_,_::_,[],_,h=>by simp[ltL]at h
theorem Y6:∀a:Tk,ltL a a=Zk
 |[]=>rfl
 |a::as=>by
  unfold ltL
  rw[if_pos rfl]
  exact Y6 as
theorem Jvu{as bs:Tk}(h:as.length=bs.length):ltT (.tup<|as.map .int) (.tup<|bs.map .int)=Za (ltL as bs):=by
 unfold ltT
 dsimp only
 rw[Vy,Vy]
 dsimp only
 rw[if_pos h]
section
variable{mk:IV->IH->Res IV}{kf:IV->Tk}{i n:Nat}{ys:Tq}
theorem Jf7(hi:h0[i]?=Za (.lst ys))(hm:∀y∈ys,∀h,Ex h0 h->WR (mk y h) λv h'=>v=.tup ((kf y).map .int)/\Ex h h')(hl:∀y∈ys,(kf y).length=n):
  ∀(r:Nat)(b:IV)(h:IH),Ex h0 h->r<ys.length->b∈ys->(∀y∈ys.take (ys.length-r),ltL (kf y) (kf b)=Zk)->WR (Q5 ltT mk i ys.length r b (.tup<|(kf b).map .int) h) λv h'=>v∈ys/\(∀y∈ys,ltL (kf y) (kf v)=Zk)/\Ex h h'
 |0,b,h,x,_,hb,q=>by
  unfold Q5
  rw[x.get hi]
  dsimp only
  rw[if_pos rfl]
  rw[Nat.sub_zero,ZdR]at q
  exact⟨hb,q,.refl _⟩
 |r+1,b,h,x,hr,hb,q=>by
  unfold Q5
  rw[x.get hi]
  dsimp only
  rw[if_pos rfl]
  have hlt:ys.length-(r+1)<ys.length:=00
  rw[Zb hlt]
  dsimp only
  have hy:=Zw hlt
  have ht:ys.take (ys.length-r)=ys.take (ys.length-(r+1))++[ys[ys.length-(r+1)]]:=by
   rw[<-ZZ hlt,show ys.length-(r+1)+1=ys.length-r by omega]
  generalize ys[ys.length-(r+1)]=y at hy ht
  obtain⟨v,h2,e,rfl,x2⟩:=(hm y hy h x).eq
  rw[e]
  show WR (match ltT (.tup<|(kf y).map .int) (.tup<|(kf b).map .int)with|some Zh=>_|some Zk=>_|none=>_) _
  rw[Jvu<|by rw[hl y hy,hl b hb]]
  cases c:ltL (kf y) (kf b)with
  |true=>
   refine WR.mono (Jf7 hi hm hl r y h2 (x.trans x2) 00 hy λz hz=>?_) λv h' ⟨a,d,g⟩=>⟨a,d,x2.trans g⟩
   rw[ht]at hz
   rcases ZK.mp hz with hz|hz
   ·cases zc:ltL (kf z) (kf y)with
    |false=>rfl
    |true=>exact absurd (Jh0 zc c)<|by rw[q z hz];exact Zu
   ·rw[Zx.mp hz]
    exact Y6 _
  |false=>
   refine WR.mono (Jf7 hi hm hl r b h2 (x.trans x2) 00 hb λz hz=>?_) λv h' ⟨a,d,g⟩=>⟨a,d,x2.trans g⟩
   rw[ht]at hz
   rcases ZK.mp hz with hz|hz
   ·exact q z hz
   ·rw[Zx.mp hz]
    exact c
theorem Jua(hi:h[i]?=Za (.lst ys))(ne:ys≠[])(hm:∀y∈ys,∀h',Ex h h'->WR (mk y h') λv h2=>v=.tup ((kf y).map .int)/\Ex h' h2)(hl:∀y∈ys,(kf y).length=n):
  WR (QR ltT mk i Zc h) λv h'=>v∈ys/\(∀y∈ys,ltL (kf y) (kf v)=Zk)/\Ex h h':=by
 unfold QR
 rw[hi]
 dsimp only
 cases ys with
 |nil=>exact absurd rfl ne
 |cons y r=>
  obtain⟨v,h2,e,rfl,x2⟩:=(hm y Zy h<|.refl _).eq
  show WR ((mk y h).nx.bind λk h'=>Q5 ltT mk i (y::r).length ((y::r).length-1) y k h') _
  rw[e]
  refine WR.mono (Jf7 (kf:=kf) (x2.get hi) (λz hz h' x=>hm z hz h'<|x2.trans x) hl ((y::r).length-1) y h2 (.refl _) 03 Zy λz hz=>?_) λv h' ⟨a,d,g⟩=>⟨a,d,x2.trans g⟩
  rw[show(y::r).length-((y::r).length-1)=1 by simp,List.take_succ_cons,List.take_zero,Zx]at hz
  rw[hz]
  exact Y6 _
theorem J1n{js:Tl}{m:E1}{Q:IV->IH->Prop}(hj:h[j]?=Za (.tab q))(hi:σ[i]?=Za (Za<|.ref a)):
  WR (XA ltT q j js (Jb (Ja i) Jd) m σ h) Q=WR (QR ltT (λv h'=>m (Za v::js.map λj=>(σ[j]?).join) h') a Zc h) Q:=by
 have e:Jb (Ja i) Jd σ h=.ok [.ref a] h:=by
  unfold Jb Ja Jd
  rw[hi]
  rfl
 unfold XA
 rw[e]
 show WR (match h[j]? with|some (.tab q')=>_|_=>_) Q=_
 rw[hj]
 dsimp only
 rw[if_pos rfl]
end
end L4
local macro_rules|`($c:char)=>let n:=c.getChar.toNat;if n<58 then `(L3.eC<|.int $(Lean.quote (n-48))) else `(L3.Ja $(Lean.quote (n-97)))
namespace LW
theorem Kaz{α:Sort _}{p:α->Prop}{a':α}:(∃a,a'=a/\p a)↔p a':=exists_eq_left'
theorem Kbz{α:Sort _}{p:α->Prop}{a':α}:(∃a,a=a'/\p a)↔p a':=exists_eq_left
theorem Kcz(a b:Bool):(L3.IV.bl a=L3.IV.bl b)=(a=b):=L3.IV.bl.injEq a b
theorem Kdz(a b:Int):(L3.IV.int a=L3.IV.int b)=(a=b):=L3.IV.int.injEq a b
theorem Kez(a b:Nat):(L3.IV.ref a=L3.IV.ref b)=(a=b):=L3.IV.ref.injEq a b
theorem Kfz(a b:PySem.Str):(L3.IV.str a=L3.IV.str b)=(a=b):=L3.IV.str.injEq a b
theorem Kgz(a b:List L3.IV):(L3.IV.tup a=L3.IV.tup b)=(a=b):=L3.IV.tup.injEq a b
theorem Khz(a b:List L3.IV):(L3.IX.lst a=L3.IX.lst b)=(a=b):=L3.IX.lst.injEq a b
theorem Kiz{α:Type _}(a b:α):(Za a=Za b)=(a=b):=Zbb a b
theorem Kjz:(!true)=Zk:=Zcn
theorem Kkz:(!false)=Zh:=Zcc
theorem Klz:(Zh=Zk)=False:=Zb1
theorem Kmz:(Zk=Zh)=False:=Zae
theorem Knz{α β:Type _}(a:α)(f:α->Option β):(Za a).bind f=f a:=ZbM a f
theorem Koz(p:Prop):(True->p)=p:=true_implies p
theorem Kpz(p:Prop):(False->p)=True:=false_implies p
theorem Kqz(α:Sort _):(α->True)=True:=implies_true α
theorem Krz{α:Type _}{a b:α}{l:List α}{n:Nat}:(a::l).set (n+1) b=a::l.set n b:=Zcv
theorem Ksz{α:Type _}{a b:α}{l:List α}:(a::l).set 0 b=b::l:=Zb0
theorem Ktz{α:Type _}{a:α}{l m:List α}:(a::l)++m=a::(l++m):=Zaf
theorem Kuz{α:Type _}(l:List α):[]++l=l:=Zaw l
theorem Kvz{α:Type _}(l:List α):l++[]=l:=Zam l
end LW
namespace LW
open PySem L2 L3 L4
noncomputable def top (i:Nat):Zdt:=PySem.Challenge.pw_dutyproof_k61_hardest_rows.main.body.getD i<|.Pass ⟨0,0,0,0⟩
def Jdi:D4:=⟨top 8,"is_whole",["thing"],["thing"],[]⟩
def Jag:D4:=⟨top 9,"is_whole_from",["thing","least"],["thing","least"],[]⟩
def Jci:D4:=⟨top 10,"rounds_up",["top","bottom"],["top","bottom"],[]⟩
def Jfd:D4:=⟨top 17,"is_name",["thing"],["thing"],[]⟩
def Jfc:D4:=⟨top 18,"is_hold",["hold","length"],["hold","length"],[]⟩
def Jce:D4:=⟨top 19,"lie_apart",["one","other"],["one","other"],[]⟩
def Jff:D4:=⟨top 20,"lies_in",["one","other"],["one","other"],[]⟩
def Jax:D4:=⟨top 21,"go_together",["one","other"],["one","other"],[]⟩
def Jac:D4:=⟨top 22,"all_go_together",["holds"],["holds","place","hold"],[]⟩
def Jcg:D4:=⟨top 23,"own_holds",["holds","length"],["holds","length"],[]⟩
def Jfg:D4:=⟨top 24,"own_due",["due","gap"],["due","gap"],[]⟩
def Qz:D4:=⟨JW (top 25) 0,"Work.__init__",["self","name","gap","length","due","late","holds"],["self","name","gap","length","due","late","holds"],[.non,.int 0,.non]⟩
def Jb7:D4:=⟨JW (top 25) 1,"Work.held",["self"],["self"],[]⟩
def Jdg:D4:=⟨top 27,"ceilings",["duty"],["duty","found","at","hold"],[]⟩
def Ja0:D4:=⟨top 28,"things_held",["work","done"],["work","done"],[]⟩
def Jgt:D4:=⟨top 29,"lifted",["at","things","tops"],["at","things","tops"],[]⟩
def Jbh:D4:=⟨top 30,"turns_held",["hold"],["hold"],[]⟩
def Jam:D4:=⟨top 31,"longest_hold",["duty","at"],["duty","at","tops","found","weaker"],[]⟩
def Jbe:D4:=⟨top 33,"comings_in",["work","span"],["work","span"],[]⟩
def Jdm:D4:=⟨top 35,"thronged",["duty","at","turn","count"],["duty","at","turn","count","work","comes"],[]⟩
def Jfb:D4:=⟨top 36,"hardest",["duty","at"],["duty","at","holder","begun","turn","row","span","stronger"],[]⟩
def Jjv:D4:=⟨top 43,"ready",["coming"],["coming"],[]⟩
def Jb8:D4:=⟨top 44,"is_coming",["duty","thing"],["duty","thing","work"],[]⟩
def Jaw:D4:=⟨top 45,"first_wrong",["duty","row"],["duty","row","last_come","place","coming","at"],[]⟩
def Jfa:D4:=⟨top 46,"checked",["duty","row"],["duty","row","wrong"],[]⟩
def Jcf:D4:=⟨top 50,"next_stop",["work","done","length"],["work","done","length"],[]⟩
def Jbb:D4:=⟨JW (top 51) 0,"Bench.__init__",["self","order","row"],["self","order","row"],[]⟩
def Jaa:D4:=⟨JW (top 51) 1,"Bench.next_ready",["self"],["self"],[]⟩
def Jak:D4:=⟨JW (top 51) 2,"Bench.let_in",["self"],["self"],[]⟩
def Jab:D4:=⟨JW (top 51) 3,"Bench.turns_for",["self","place"],["self","place","coming","done","turns"],[]⟩
def Jbc:D4:=⟨JW (top 51) 4,"Bench.tell",["self","place","until"],["self","place","until","begin"],[]⟩
def Jau:D4:=⟨JW (top 51) 5,"Bench.go_on",["self"],["self","place","turns"],[]⟩
def Juw:D4:=⟨top 52,"run",["order","row"],["order","row","bench"],[]⟩
def Jch:D4:=⟨top 56,"own_works",["works"],["works"],[]⟩
def Jdh:D4:=⟨top 57,"crowd_of",["works"],["works","greatest"],[]⟩
def Jb3:D4:=⟨JW (top 58) 0,"Duty.__init__",["self","works"],["self","works"],[]⟩
def Jb4:D4:=⟨JW (top 58) 1,"Duty.size",["self"],["self"],[]⟩
def Jb5:D4:=⟨JW (top 58) 2,"Duty.work",["self","at"],["self","at"],[]⟩
def Jc8:D4:=⟨JW (top 58) 4,"Duty.crowd",["self"],["self"],[]⟩
def Jbd:D4:=⟨JW (top 60) 0,"Order.__init__",["self","duty"],["self","duty"],[]⟩
def Ja7:D4:=⟨JW (top 60) 1,"Order.rank_of",["self","coming","done"],["self","coming","done"],[]⟩
def Jb6:D4:=⟨JW (top 60) 2,"Order.holds",["self","coming","done"],["self","coming","done"],[]⟩
def X6:D4:=⟨JW (top 60) 3,"Order.pick",["self","row","waiting","dones"],["self","row","waiting","dones"],[]⟩
def X7:D4:=⟨JW (top 60) 4,"Order.standing",["self","coming","done"],["self","coming","done"],[]⟩
def Jav:D4:=⟨JW (top 61) 0,"ByRank.__init__",["self","duty"],["self","duty"],[]⟩
def Jad:D4:=⟨JW (top 61) 1,"ByRank.rank_of",["self","coming","done"],["self","coming","done"],[]⟩
def Jal:D4:=⟨JW (top 61) 2,"ByRank.holds",["self","coming","done"],["self","coming","done"],[]⟩
def Jay:D4:=⟨top 63,"_law_cell_at",["_law_script","_law_k"],["_law_script","_law_k"],[]⟩
def Jbg:D4:=⟨top 64,"_law_stream",["_law_cell","_law_many"],["_law_cell","_law_many","_law_found","_law_rest","_law_k","_law_number"],[]⟩
def Jdl:D4:=⟨top 65,"_law_word",["_law_cell","_law_k"],["_law_cell","_law_k","_law_letters","_law_size","_law_word_here","_law_at"],[]⟩
def Jb9:D4:=⟨top 66,"_law_holds",["_law_xs","_law_length","_law_words"],["_law_xs","_law_length","_law_words","_law_p","_law_one","_law_other","_law_some_here"],[]⟩
def Jcb:D4:=⟨top 67,"_law_plain",["_law_cell","_law_unit","_law_words","_law_many"],["_law_cell","_law_unit","_law_words","_law_many","_law_xs","_law_gap","_law_due","_law_late","_law_length","_law_holds_here"],[]⟩
def Jdk:D4:=⟨top 68,"_law_some",["_law_script","_law_held"],["_law_script","_law_held","_law_first","_law_unit","_law_second","_law_many","_law_words","_law_some_here","_law_k","_law_plain_here"],[]⟩
def Jcd:D4:=⟨top 69,"_law_whole",["_law_found"],["_law_found"],[]⟩
def Jcc:D4:=⟨top 70,"_law_right",["_law_thing","_law_some_here"],["_law_thing","_law_some_here","_law_at","_law_come","_law_late","_law_length"],[]⟩
def Jca:D4:=⟨top 71,"_law_legal",["_law_row","_law_some_here"],["_law_row","_law_some_here","_law_last","_law_thing"],[]⟩
def Jaz:D4:=⟨top 72,"_law_comings",["_law_one","_law_span"],["_law_one","_law_span"],[]⟩
def Jdj:D4:=⟨top 73,"_law_load",["_law_some_here","_law_at","_law_span"],["_law_some_here","_law_at","_law_span","_law_things","_law_one","_law_heavy","_law_thing","_law_start","_law_end_here"],[]⟩
def Jbf:D4:=⟨top 74,"_law_answer",["_law_some_here","_law_at"],["_law_some_here","_law_at","_law_line","_law_heavy"],[]⟩
def Jfe:D4:=⟨top 75,"_law_end",["_law_found","_law_place"],["_law_found","_law_place","_law_last","_law_k","_law_begin","_law_until"],[]⟩
def Jah:D4:=⟨top 76,"_law_no_longer",["_law_row","_law_some_here"],["_law_row","_law_some_here","_law_greatest","_law_name","_law_gap","_law_length","_law_due","_law_late","_law_holds_here","_law_coming"],[]⟩
def Va:D4:=⟨top 77,"law",["_law_script"],["_law_script","_law_second","_law_some_here","_law_duty","_law_at","_law_told","_law_row","_law_place","_law_last","_law_kept","_law_line"],[]⟩
def T:Tab where
 fns:=[(("is_whole":Str),Jdi),(("is_whole_from":Str),Jag),(("rounds_up":Str),Jci),(("is_name":Str),Jfd),(("is_hold":Str),Jfc),(("lie_apart":Str),Jce),(("lies_in":Str),Jff),(("go_together":Str),Jax),(("all_go_together":Str),Jac),(("own_holds":Str),Jcg),(("own_due":Str),Jfg),(("ceilings":Str),Jdg),(("things_held":Str),Ja0),(("lifted":Str),Jgt),(("turns_held":Str),Jbh),(("longest_hold":Str),Jam),(("comings_in":Str),Jbe),(("thronged":Str),Jdm),(("hardest":Str),Jfb),(("ready":Str),Jjv),(("is_coming":Str),Jb8),(("first_wrong":Str),Jaw),(("checked":Str),Jfa),(("next_stop":Str),Jcf),(("run":Str),Juw),(("own_works":Str),Jch),(("crowd_of":Str),Jdh),(("_law_cell_at":Str),Jay),(("_law_stream":Str),Jbg),(("_law_word":Str),Jdl),(("_law_holds":Str),Jb9),(("_law_plain":Str),Jcb),(("_law_some":Str),Jdk),(("_law_whole":Str),Jcd),(("_law_right":Str),Jcc),(("_law_legal":Str),Jca),(("_law_comings":Str),Jaz),(("_law_load":Str),Jdj),(("_law_answer":Str),Jbf),(("_law_end":Str),Jfe),(("_law_no_longer":Str),Jah),(("law":Str),Va)]
 clss:=[("Work",Qz),("Bench",Jbb),("Duty",Jb3),("Order",Jbd),("ByRank",Jav)]
 meths:=[("Work",([("held",Jb7)]:Wo)),("Bench",([("next_ready",Jaa),("let_in",Jak),("turns_for",Jab),("tell",Jbc),("go_on",Jau)]:Wo)),("Duty",([("size",Jb4),("work",Jb5),("crowd",Jc8)]:Wo)),("Order",([("rank_of",Ja7),("holds",Jb6),("pick",X6),("standing",X7)]:Wo)),("ByRank",([("rank_of",Jad),("holds",Jal),("pick",X6),("standing",X7)]:Wo))]
 cons:=[("MOST_LETTERS",.int 8),("MOST_HOLDS",.int 6),("THING",.int 0),("START",.int 1),("END",.int 2),("MOST_COMINGS",.int 200),("AT",.int 0),("COME",.int 1),("LATE",.int 2),("LENGTH",.int 3),("PLACE",.int 0),("FROM",.int 1),("MOST_WORKS",.int 12),("MOST_CROWD",.int 80)]
 isas:=[("Work",["Work"])]
 flds:=["append","clear","dones","due","duty","extend","gap","hold_tuples","join","late","later","length","name","order","place","pop","remove","row","setdefault","stretches","tops","turn","waiting","works"]
 frees:=["all","bool","enumerate","int","isinstance","len","list","max","min","range","set","sorted","str","sum","tuple"]
 tabs:=["Order.pick","Bench.__init__","longest_hold"]
 bass:=["Order"]
abbrev pg(k:Nat):Pg:=mkPg T<|run T k
section
variable(k:Nat)(x0 x1 x2 x3 x4 x5 x6:IV)(h:IH)
abbrev Jdc:=run T k Jdi
abbrev V5:=run T k Jag
abbrev Jb0:=run T k Jci
abbrev Jeh:=run T k Jfd
abbrev Jg3:=run T k Jfc
abbrev Jd9:=run T k Jce
abbrev Jei:=run T k Jff
abbrev Jbx:=run T k Jax
abbrev Jaj:=run T k Jac
abbrev Yl:=run T k Jcg
abbrev Yk:=run T k Jfg
abbrev Jbv:=run T k Qz
abbrev Jd3:=run T k Jb7
abbrev Jdb:=run T k Jdg
abbrev Jas:=run T k Ja0
abbrev Jjc:=run T k Jgt
abbrev Jct:=run T k Jbh
abbrev Jbl:=run T k Jam
abbrev Jcq:=run T k Jbe
abbrev Jde:=run T k Jdm
abbrev Yj:=run T k Jfb
abbrev Jjd:=run T k Jjv
abbrev Jd4:=run T k Jb8
abbrev Jbw:=run T k Jaw
abbrev Jg2:=run T k Jfa
abbrev Jea:=run T k Jcf
abbrev Jcn:=run T k Jbb
abbrev Jae:=run T k Jaa
abbrev Jbj:=run T k Jak
abbrev Jai:=run T k Jab
abbrev Jco:=run T k Jbc
abbrev Jbt:=run T k Jau
abbrev Jyi:=run T k Juw
abbrev Jeb:=run T k Jch
abbrev Jfs:=run T k Jdh
abbrev Jbu:=run T k Jb3
abbrev Jd1:=run T k Jb4
abbrev Jd2:=run T k Jb5
abbrev Jcp:=run T k Jbd
abbrev Ja8:=run T k X6
abbrev Jap:=run T k X7
abbrev Jar:=run T k Jav
abbrev Jao:=run T k Jad
abbrev Jbk:=run T k Jal
abbrev V6:=run T k Jay
abbrev Jcs:=run T k Jbg
abbrev Jdd:=run T k Jdl
abbrev Jd5:=run T k Jb9
abbrev Jd7:=run T k Jcb
abbrev Jfu:=run T k Jdk
abbrev Jbz:=run T k Jcd
abbrev Jd8:=run T k Jcc
abbrev Jd6:=run T k Jca
abbrev Jby:=run T k Jaz
abbrev Jft:=run T k Jdj
abbrev Jcr:=run T k Jbf
abbrev Jg4:=run T k Jfe
abbrev Ja1:=run T k Jah
abbrev Xz:=run T k Va
def Jk7(k:Nat):S1:=Jk<|eAnd (eIsi VB 'a') (eUn (Xp tru)<|eIsi VA 'a') tru
theorem Jnh:Jdc (k+1) [x0] h=(Jk7 k [Za x0] h).fin:=02
def Jbp:S1:=Jk<|eAnd (Jn (Jdc k) []<|Jb 'a' Jd) (Jc cGe 'a' 'b') tru
theorem Jgm:V5 (k+1) [x0,x1] h=(Jbp k [Za x0,Za x1] h).fin:=02
def Je7(k:Nat):S1:=Jk<|Jc JS (Jc JY (Jc Jl 'a' 'b') '1') 'b'
theorem Jl7:Jb0 (k+1) [x0,x1] h=(Je7 k [Za x0,Za x1] h).fin:=02
def Jb2(k:Nat):E1:=JO cLe cLe (eC<|.str "a") 'a'<|eC<|.str "z"
def Jhc:S1:=Jk<|eCB (on1 allI)<|Jb (Jz (Ju 'a') 1 [] (gNm 0) JD<|Jb2 k) Jd
def Jhb:S1:=Jg (sIf (tOrI (J7<|Ji tru<|eIsi VP 'a')<|J7<|Ji asB<|JO cLe cLe '1' (eCB (on1 lenI)<|Jb 'a' Jd) '8') (Jk<|eC<|.bl Zk) Jr)<|Jhc k
theorem Jp9:Jeh (k+1) [x0] h=(Jhb k [Za x0] h).fin:=02
def Jha:S1:=Jk<|eAnd (Jn (V5 k) []<|Jb (Jc Jf 'a' '2')<|Jb (Jc Jl (Jc Jf 'a' '1') '1') Jd) (Jc cLt (Jc Jf 'a' '2') 'b') tru
def Jg9:S1:=Jg (sIf (J7<|Ji tru<|Jn (V5 k) []<|Jb (Jc Jf 'a' '1')<|Jb '0' Jd) (Jk<|eC<|.bl Zk) Jr)<|Jha k
def Jg8:S1:=Jg (sIf (tOrI (J7<|Ji tru<|eIsi QC 'a')<|tOrI (Ji asB<|Jc cNe (eCB (on1 lenI)<|Jb 'a' Jd) '3')<|J7<|Ji tru<|Jn (Jeh k) []<|Jb (Jc Jf 'a' '0') Jd) (Jk<|eC<|.bl Zk) Jr)<|Jg9 k
theorem Jp8:Jg3 (k+1) [x0,x1] h=(Jg8 k [Za x0,Za x1] h).fin:=02
def Jew(k:Nat):S1:=Jk<|eOr (Jc cLe (Jc Jf 'a' '2')<|Jc Jf 'b' '1') (Jc cLe (Jc Jf 'b' '2')<|Jc Jf 'a' '1') tru
theorem Jl3:Jd9 (k+1) [x0,x1] h=(Jew k [Za x0,Za x1] h).fin:=02
def Jhe(k:Nat):S1:=Jk<|eAnd (Jc cLe (Jc Jf 'b' '1')<|Jc Jf 'a' '1') (Jc cLe (Jc Jf 'a' '2')<|Jc Jf 'b' '2') tru
theorem Jqb:Jei (k+1) [x0,x1] h=(Jhe k [Za x0,Za x1] h).fin:=02
def Jcy:S1:=Jk<|eOr (Jn (Jei k) []<|Jb 'a'<|Jb 'b' Jd) (Jn (Jei k) []<|Jb 'b'<|Jb 'a' Jd) tru
def Jcx:S1:=Jg (sIf (Ji asB<|Jc cEq (Jc Jf 'a' '0')<|Jc Jf 'b' '0') (Jk<|eC<|.bl Zk) Jr)<|Jcy k
def Jcw:S1:=Jg (sIf (Ji tru<|Jn (Jd9 k) []<|Jb 'a'<|Jb 'b' Jd) (Jk<|eC<|.bl Zh) Jr)<|Jcx k
theorem Jip:Jbx (k+1) [x0,x1] h=(Jcw k [Za x0,Za x1] h).fin:=02
def Jan:E1:=Jn (Jbx k) []<|Jb 'b'<|Jb 'a' Jd
def Jaq:S1:=sIf (J7<|Ji tru<|eCB (on1 allI)<|Jb (Jz (Ju<|eSl slI 'a' Qs<|JX 'b') 1 [2] (gNm 0) JD<|Jan k) Jd) (Jk<|eC<|.bl Zk) Jr
def Ja3(k:Nat):S1:=Jk<|eC<|.bl Zh
def Ja2:S1:=Jg (sFor (iRg Ve<|Jb 'a' Jd) (gTp 2<|gC (gNm 1)<|gC (gNm 2) gN)<|Jaq k)<|Ja3 k
theorem Jfk:Jaj (k+1) [x0] h=(Ja2 k [Za x0,Zc,Zc] h).fin:=02
def Jc3:E1:=Jn (Jg3 k) []<|Jb 'a'<|Jb 'b' Jd
def Jc4(k:Nat):E1:=JG<|Jb (Jc Jf 'a' '0')<|Jb (Jc Jf 'a' '1')<|Jb (Jc Jf 'a' '2') Jd
def Je2:S1:=Jk<|eCB (on1 Xs)<|Jb (Jz (Ju 'a') 1 [] (gNm 0) JD<|Jc4 k) Jd
def Je1:S1:=Jg (sIf (J7<|Ji tru<|Jn (Jaj k) []<|Jb 'a' Jd) stS Jr)<|Je2 k
def Je0:S1:=Jg (sIf (J7<|Ji tru<|eCB (on1 allI)<|Jb (Jz (Ju 'a') 1 [1] (gNm 0) JD<|Jc3 k) Jd) stS Jr)<|Je1 k
def Jez:S1:=Jg (sIf (Ji asB<|Jc cGt (eCB (on1 lenI)<|Jb 'a' Jd) '6') stS Jr)<|Je0 k
def Jey:S1:=Jg (sIf (J7<|Ji tru<|eIsi QN 'a') stS Jr)<|Jez k
def Jex:S1:=Jg (sIf (Ji asB<|Jc cIs 'a'<|eC .non) (Jk<|JG Jd) Jr)<|Jey k
theorem Jl5:Yl (k+1) [x0,x1] h=(Jex k [Za x0,Za x1] h).fin:=02
def Jhh(k:Nat):S1:=Jk 'a'
def Jhg:S1:=Jg (sIf (tOrI (J7<|Ji tru<|Jn (V5 k) []<|Jb 'a'<|Jb '1' Jd)<|Ji asB<|Jc cGt 'a' 'b') stS Jr)<|Jhh k
def Jhf:S1:=Jg (sIf (Ji asB<|Jc cIs 'a'<|eC .non) (Jk 'b') Jr)<|Jhg k
theorem Jqc:Yk (k+1) [x0,x1] h=(Jhf k [Za x0,Za x1] h).fin:=02
def Jes:S1:=JT "hold_tuples" 'a'<|Jn (Yl k) []<|Jb 'g'<|Jb 'd' Jd
def Jji:S1:=Jg (sIf (J7<|Ji tru<|Jn (Jeh k) []<|Jb 'b' Jd) stS Jr)<|Jg (sIf (J7<|Ji tru<|Jn (V5 k) []<|Jb 'c'<|Jb '1' Jd) stS Jr)<|Jg (sIf (J7<|Ji tru<|Jn (V5 k) []<|Jb 'd'<|Jb '1' Jd) stS Jr)<|Jg (sIf (J7<|Ji tru<|Jn (V5 k) []<|Jb 'f'<|Jb '0' Jd) stS Jr)<|Jg (JT "name" 'a' 'b')<|Jg (JT "gap" 'a' 'c')<|Jg (JT "length" 'a' 'd')<|Jg (JT "due" 'a'<|Jn (Yk k) []<|Jb 'e'<|Jb 'c' Jd)<|Jg (JT "late" 'a' 'f')<|Jes k
theorem Jlw:Jbv (k+1) [x0,x1,x2,x3,x4,x5,x6] h=(Jji k [Za x0,Za x1,Za x2,Za x3,Za x4,Za x5,Za x6] h).fin:=02
def Jer(k:Nat):S1:=Jk<|eCB (on1 Vf)<|Jb (Jq "hold_tuples" 'a') Jd
theorem Jlv:Jd3 (k+1) [x0] h=(Jer k [Za x0] h).fin:=02
def Jfl:S1:=JP<|Jp (pg k) "setdefault" 2 'b'<|Jb (Jc Jf 'd' '0')<|Jb 'c' Jd
def Jfm:S1:=sFor (Ju<|Jp (pg k) "held" 0 (Jp (pg k) "work" 1 'a'<|Jb 'c' Jd) Jd) (gNm 3)<|Jfl k
def Jga(k:Nat):S1:=Jk 'b'
def Jf9:S1:=Jg (sFor (iRg Qr<|Jb (Jp (pg k) "size" 0 'a' Jd) Jd) (gNm 2)<|Jfm k)<|Jga k
def Jf8:S1:=Jg (Jj 1 X9)<|Jf9 k
theorem Jnf:Jdb (k+1) [x0] h=(Jf8 k [Za x0,Zc,Zc,Zc] h).fin:=02
def Jbq(k:Nat):E1:=Jc Jf 'a' '0'
def Jbr(k:Nat):T1:=Ji asB<|JO cLt cLt (Jc Jf 'a' '1') 'b'<|Jc Jf 'a' '2'
def Jcz:S1:=Jk<|Jz (Ju<|Jp (pg k) "held" 0 'a' Jd) 1 [1] (gNm 0) (Jbr k)<|Jbq k
theorem Jir:Jas (k+1) [x0,x1] h=(Jcz k [Za x0,Za x1] h).fin:=02
def Jgf(k:Nat):E1:=Jc Vi 'b' 'a'
def Ji3:S1:=Jk<|eCB (on1 Xn)<|Jb (Jc Jl (J6<|Jb 'a' Jd)<|Jz (Ju 'b') 1 [2] (gNm 0) JD<|Jgf k) Jd
theorem Jr8:Jjc (k+1) [x0,x1,x2] h=(Ji3 k [Za x0,Za x1,Za x2] h).fin:=02
def Jii(k:Nat):S1:=Jk<|Jc JY (Jc JY (Jc Jf 'a' '2')<|Jc Jf 'a' '1') '1'
theorem Jj6:Jct (k+1) [x0] h=(Jii k [Za x0] h).fin:=02
def Jba(k:Nat):E1:=JG<|Jb 'd'<|Jb 'a' Jd
def Jaf(k:Nat):T1:=Ji asB<|Jc cLe (Jc Vi 'c'<|Jc Jf 'a' '0') 'b'
def Jgl:S1:=Jg (Jj 2<|Jn (Jdb k) []<|Jb 'a' Jd)<|Jg (Jj 3<|J6 Jd)<|Jg (sFor (iRg VV<|Jb (Jc Jl 'b' '1')<|Jb (Jp (pg k) "size" 0 'a' Jd) Jd) (gNm 4)<|JP<|Jp (pg k) "extend" 1 'd'<|Jb (Jz (Ju<|Jp (pg k) "held" 0 (Jp (pg k) "work" 1 'a'<|Jb 'e' Jd) Jd) 1 [1,2,4] (gNm 0) (Jaf k)<|Jba k) Jd)<|Jk<|Y0 gtZ "longest_hold" 2 [] (Jb 'd' Jd) (Jn (Jct k) []<|Jb (Jc Jf 'a' '1') Jd)<|eC .non
theorem Jhu:Jbl (k+1) [x0,x1] h=(Jgl k [Za x0,Za x1,Zc,Zc,Zc] h).fin:=02
def Jif:S1:=Jk<|eIf (Ji asB<|Jc cGe 'b' '1') (Jn (Jb0 k) []<|Jb (Jc Jl 'b'<|Jq "late" 'a')<|Jb (Jq "gap" 'a') Jd) '0'
theorem Jj3:Jcq (k+1) [x0,x1] h=(Jif k [Za x0,Za x1] h).fin:=02
def Jbn(k:Nat):E1:=Jc Jl (Jc JY 'b'<|Jq "late" 'c')<|Jc Qt 'a'<|Jq "gap" 'c'
def Jdz(k:Nat):E1:=JG<|Jb 'b'<|Jb 'a'<|Jb (eCB (on2 maxI)<|Jb '0'<|Jb (Jc JY 'c' 'a') Jd)<|Jb (Jq "length" 'd') Jd
def Jlb:S1:=Jg (Jj 4<|Jp (pg k) "work" 1 'a'<|Jb 'b' Jd)<|Jg (Jj 5<|Jz (iRg Qr<|Jb 'd' Jd) 1 [2,4] (gNm 0) JD<|Jbn k)<|Jk<|Jz (Ju 'f') 1 [1,2,4] (gNm 0) JD<|Jdz k
theorem Jnl:Jde (k+1) [x0,x1,x2,x3] h=(Jlb k [Za x0,Za x1,Za x2,Za x3,Zc,Zc] h).fin:=02
def Jb1(k:Nat):E1:=Jq "late" 'a'
def Jed:S1:=Jg (Jj 6<|Jc JY (Jq "due"<|Jp (pg k) "work" 1 'a'<|Jb 'b' Jd)<|Jq "late"<|Jp (pg k) "work" 1 'a'<|Jb 'b' Jd)<|Jg (sFor (iRg Qr<|Jb 'b' Jd) (gNm 7)<|JP<|Jp (pg k) "extend" 1 'f'<|Jb (Jn (Jde k) []<|Jb 'a'<|Jb 'h'<|Jb 'e'<|Jb (Jn (Jcq k) []<|Jb (Jp (pg k) "work" 1 'a'<|Jb 'h' Jd)<|Jb 'g' Jd) Jd) Jd)<|Jg (JP<|Jp (pg k) "extend" 1 'f'<|Jb (Jn (Jde k) []<|Jb 'a'<|Jb 'b'<|Jb 'e'<|Jb '1' Jd) Jd)<|Jk<|JG<|Jb 'f'<|Jb (Jc JY (eCB (on1 lenI)<|Jb 'f' Jd) '1') Jd
def Jm9:S1:=Jg (Jj 2<|Jn (Jbl k) []<|Jb 'a'<|Jb 'b' Jd)<|Jg (Jj 3<|eIf (Ji asB<|Jc cIs 'c'<|eC .non) '0'<|Jc Jl (Jc Jf (Jc Jf 'c' '1') '1') '1')<|Jg (Jj 4<|eCB (on1 Vg)<|Jb (Jc Jl (Jz (Ju<|eSl slI (Jq "works" 'a') Qs<|JX<|Jc Jl 'b' '1') 1 [] (gNm 0) JD<|Jb1 k)<|J6<|Jb 'd' Jd) Jd)<|Jg (Jj 5<|J6 Jd)<|Jg (sIf (Ji asB<|Jc Ys 'c'<|eC .non) (JP<|Jp (pg k) "append" 1 'f'<|Jb (JG<|Jb (Jc Jf 'c' '0')<|Jb (Jc JY 'e' 'd')<|Jb '0'<|Jb (Jq "length"<|Jp (pg k) "work" 1 'a'<|Jb (Jc Jf 'c' '0') Jd) Jd) Jd) Jr)<|Jed k
theorem Jp7:Yj (k+1) [x0,x1] h=(Jm9 k [Za x0,Za x1,Zc,Zc,Zc,Zc,Zc,Zc] h).fin:=02
def Jrh(k:Nat):S1:=Jk<|Jc Jl (Jc Jf 'a' '1')<|Jc Jf 'a' '2'
theorem Ju8:Jjd (k+1) [x0] h=(Jrh k [Za x0] h).fin:=02
def Ja6:E1:=Jn (Jdc k) []<|Jb 'a' Jd
def Jjj:S1:=Jg (sIf (tOrI (J7<|Ji tru<|eIsi QC 'b')<|Ji asB<|Jc cNe (eCB (on1 lenI)<|Jb 'b' Jd) '4') (Jk<|eC<|.bl Zk) Jr)<|Jg (sIf (J7<|Ji tru<|eCB (on1 allI)<|Jb (Jz (Ju 'b') 1 [] (gNm 0) JD<|Ja6 k) Jd) (Jk<|eC<|.bl Zk) Jr)<|Jg (sIf (tOrI (J7<|Ji asB<|JO cLe cLt '0' (Jc Jf 'b' '0')<|Jp (pg k) "size" 0 'a' Jd)<|Ji asB<|Jc cLt (Jc Jf 'b' '1') '0') (Jk<|eC<|.bl Zk) Jr)<|Jg (Jj 2<|Jp (pg k) "work" 1 'a'<|Jb (Jc Jf 'b' '0') Jd)<|Jk<|eAnd (JO cLe cLe '0' (Jc Jf 'b' '2')<|Jq "late" 'c') (JO cLe cLe '1' (Jc Jf 'b' '3')<|Jq "length" 'c') tru
theorem Jlx:Jd4 (k+1) [x0,x1] h=(Jjj k [Za x0,Za x1,Zc] h).fin:=02
def Jg7:S1:=Jg (Jj 2 X9)<|Jg (sFor (iRg Ve<|Jb 'b' Jd) (gTp 2<|gC (gNm 3)<|gC (gNm 4) gN)<|Jg (sIf (J7<|Ji tru<|Jn (Jd4 k) []<|Jb 'a'<|Jb 'e' Jd) (Jk 'd') Jr)<|Jg (Jj 5<|Jc Jf 'e' '0')<|Jg (sIf (QH (Ji asB<|Jc cInD 'f' 'c')<|Ji asB<|Jc cLt (Jc JY (Jc Jf 'e' '1')<|Jc Vi 'c' 'f')<|Jq "gap"<|Jp (pg k) "work" 1 'a'<|Jb 'f' Jd) (Jk 'd') Jr)<|sAsg (Jc Jf 'e' '1')<|gSbD 'c' 'f')<|Jk<|eC .non
theorem Jio:Jbw (k+1) [x0,x1] h=(Jg7 k [Za x0,Za x1,Zc,Zc,Zc,Zc] h).fin:=02
def Jm8:S1:=Jg (sIf (Ji asB<|Jc cGt (eCB (on1 lenI)<|Jb 'b' Jd)<|eC<|.int 200) stS Jr)<|Jg (Jj 2<|Jn (Jbw k) []<|Jb 'a'<|Jb 'b' Jd)<|sIf (Ji asB<|Jc Ys 'c'<|eC .non) stS Jr
theorem Jp6:Jg2 (k+1) [x0,x1] h=(Jm8 k [Za x0,Za x1,Zc] h).fin:=02
def Jjp:S1:=Jk<|eCB (on1 Xn)<|Jb (Jc Jl (J6<|Jb 'c' Jd)<|Jz (Ju<|Jp (pg k) "held" 0 'a' Jd) 1 [1] (gNm 0) (Ji asB<|Jc cGt (Jc Jf 'a' '2') 'b')<|Jc Jf 'a' '2') Jd
theorem Jl4:Jea (k+1) [x0,x1,x2] h=(Jjp k [Za x0,Za x1,Za x2] h).fin:=02
def X4:E1:=Jn (Jjd k) []<|Jb (Jc Jf 'b' 'a') Jd
def Jdq(k:Nat):S1:=JT "stretches" 'a'<|J6 Jd
def Jid:S1:=Jg (JT "order" 'a' 'b')<|Jg (JT "row" 'a' 'c')<|Jg (JT "dones" 'a'<|Jz (Ju 'c') 1 [] (gNm 0) JD '0')<|Jg (JT "later" 'a'<|Y1 "Bench.__init__" 1 [2] (Jb (eCB (on1 lenI)<|Jb 'c' Jd) Jd)<|X4 k)<|Jg (JT "waiting" 'a'<|J6 Jd)<|Jg (JT "turn" 'a' '0')<|Jdq k
theorem Jjz:Jcn (k+1) [x0,x1,x2] h=(Jid k [Za x0,Za x1,Za x2] h).fin:=02
def Jdp:S1:=Jk<|Jn (Jjd k) []<|Jb (Jc Jf (Jq "row" 'a')<|Jc Jf (Jq "later" 'a')<|eUn YD '1') Jd
theorem Jef:Jae (k+1) [x0] h=(Jdp k [Za x0] h).fin:=02
def Jcl:S1:=XY (QH (Ji asB<|Jc cGt (eCB (on1 lenI)<|Jb (Jq "later" 'a') Jd) '0')<|Ji asB<|Jc cLe (Jp (pg k) "next_ready" 0 'a' Jd)<|Jq "turn" 'a')<|JP<|Jp (pg k) "append" 1 (Jq "waiting" 'a')<|Jb (Jp (pg k) "pop" 0 (Jq "later" 'a') Jd) Jd
def Jgj:S1:=Jg (sIf (Ji asB<|Jc cEq (eCB (on1 lenI)<|Jb (Jq "waiting" 'a') Jd) '0') (JT "turn" 'a'<|eCB (on2 maxI)<|Jb (Jq "turn" 'a')<|Jb (Jp (pg k) "next_ready" 0 'a' Jd) Jd) Jr)<|Jcl k
theorem Jhs:Jbj (k+1) [x0] h=(Jgj k [Za x0] h).fin:=02
def Jec:S1:=Jg (Jj 2<|Jc Jf (Jq "row" 'a') 'b')<|Jg (Jj 3<|Jc Jf (Jq "dones" 'a') 'b')<|Jg (Jj 4<|Jc JY (Jn (Jea k) []<|Jb (Jp (pg k) "work" 1 (Jq "duty"<|Jq "order" 'a')<|Jb (Jc Jf 'c' '0') Jd)<|Jb 'd'<|Jb (Jc Jf 'c' '3') Jd) 'd')<|Jg (sIf (Ji asB<|Jc cGt (eCB (on1 lenI)<|Jb (Jq "later" 'a') Jd) '0') (Jj 4<|eCB (on2 minI)<|Jb 'e'<|Jb (Jc JY (Jp (pg k) "next_ready" 0 'a' Jd)<|Jq "turn" 'a') Jd) Jr)<|Jk 'e'
theorem Jfj:Jai (k+1) [x0,x1] h=(Jec k [Za x0,Za x1,Zc,Zc,Zc] h).fin:=02
def Jdr:S1:=JP<|Jp (pg k) "append" 1 (Jq "stretches" 'a')<|Jb (JG<|Jb 'b'<|Jb 'd'<|Jb 'c' Jd) Jd
def Jie:S1:=Jg (Jj 3<|Jq "turn" 'a')<|Jg (sIf (QH (Ji asB<|Jc cGt (eCB (on1 lenI)<|Jb (Jq "stretches" 'a') Jd) '0')<|Ji asB<|Jc cEq (Jc Jf (Jc Jf (Jq "stretches" 'a')<|eUn YD '1') '0') 'b') (Jj 3<|Jc Jf (Jp (pg k) "pop" 0 (Jq "stretches" 'a') Jd) '1') Jr)<|Jdr k
theorem Jj0:Jco (k+1) [x0,x1,x2] h=(Jie k [Za x0,Za x1,Za x2,Zc] h).fin:=02
def Jg6:S1:=Jg (JP<|Jp (pg k) "let_in" 0 'a' Jd)<|Jg (Jj 1<|Jp (pg k) "pick" 3 (Jq "order" 'a')<|Jb (Jq "row" 'a')<|Jb (Jq "waiting" 'a')<|Jb (Jq "dones" 'a') Jd)<|Jg (Jj 2<|Jp (pg k) "turns_for" 1 'a'<|Jb 'b' Jd)<|Jg (JP<|Jp (pg k) "tell" 2 'a'<|Jb 'b'<|Jb (Jc Jl (Jq "turn" 'a') 'c') Jd)<|Jg (XW .Add "turn" 'a' 'c')<|Jg (XX .Add (Jq "dones" 'a') 'b' 'c')<|sIf (Ji asB<|Jc cEq (Jc Jf (Jq "dones" 'a') 'b')<|Jc Jf (Jc Jf (Jq "row" 'a') 'b') '3') (JP<|Jp (pg k) "remove" 1 (Jq "waiting" 'a')<|Jb 'b' Jd) Jr
theorem Jim:Jbt (k+1) [x0] h=(Jg6 k [Za x0,Zc,Zc] h).fin:=02
def Jys:S1:=Jg (JP<|Jn (Jg2 k) []<|Jb (Jq "duty" 'a')<|Jb 'b' Jd)<|Jg (Jj 2<|Vc "Bench" (Jcn k) []<|Jb 'a'<|Jb 'b' Jd)<|Jg (XY (Ji asB<|Jc cGt (Jc Jl (eCB (on1 lenI)<|Jb (Jq "later" 'c') Jd)<|eCB (on1 lenI)<|Jb (Jq "waiting" 'c') Jd) '0')<|JP<|Jp (pg k) "go_on" 0 'c' Jd)<|Jk<|Jq "stretches" 'c'
theorem J2d:Jyi (k+1) [x0,x1] h=(Jys k [Za x0,Za x1,Zc] h).fin:=02
def Jc5(k:Nat):E1:=eIsi (Jxa ["Work"]) 'a'
def Jc6(k:Nat):E1:=Jq "name" 'a'
def Je6(k:Nat):S1:=Jk<|eCB (on1 Xs)<|Jb 'a' Jd
def Je5:S1:=Jg (sIf (Ji asB<|Jc cNe (Yy<|Jb (Jz (Ju 'a') 1 [] (gNm 0) JD<|Jc6 k) Jd)<|eCB (on1 lenI)<|Jb 'a' Jd) stS Jr)<|Je6 k
def Je4:S1:=Jg (sIf (J7<|Ji tru<|eCB (on1 allI)<|Jb (Jz (Ju 'a') 1 [] (gNm 0) JD<|Jc5 k) Jd) stS Jr)<|Je5 k
def Je3:S1:=Jg (sIf (J7<|Ji tru<|eIsi QN 'a') stS Jr)<|Je4 k
theorem Jl6:Jeb (k+1) [x0] h=(Je3 k [Za x0] h).fin:=02
def Jdu(k:Nat):E1:=Jq "due" 'a'
def Jdv:E1:=Jn (Jb0 k) []<|Jb (Jc Jl 'b'<|Jq "late" 'a')<|Jb (Jq "gap" 'a') Jd
def Jgc:S1:=Jk<|eCB (on1 sumI)<|Jb (Jz (Ju 'a') 1 [1] (gNm 0) JD<|Jdv k) Jd
def Jgb:S1:=Jg (Jj 1<|Yz (Jb (Jz (Ju 'a') 1 [] (gNm 0) JD<|Jdu k) Jd) '0')<|Jgc k
theorem Jng:Jfs (k+1) [x0] h=(Jgb k [Za x0,Zc] h).fin:=02
def Jeo:S1:=sIf (Ji asB<|Jc cGt (Jn (Jfs k) []<|Jb (Jq "works" 'a') Jd)<|eC<|.int 80) stS Jr
def Jen:S1:=Jg (sIf (Ji asB<|Jc cGt (eCB (on1 lenI)<|Jb (Jq "works" 'a') Jd)<|eC<|.int 12) stS Jr)<|Jeo k
def Jem:S1:=Jg (JT "works" 'a'<|Jn (Jeb k) []<|Jb 'b' Jd)<|Jen k
theorem Jls:Jbu (k+1) [x0,x1] h=(Jem k [Za x0,Za x1] h).fin:=02
def Jep(k:Nat):S1:=Jk<|eCB (on1 lenI)<|Jb (Jq "works" 'a') Jd
theorem Jlt:Jd1 (k+1) [x0] h=(Jep k [Za x0] h).fin:=02
def Jeq(k:Nat):S1:=Jk<|Jc Jf (Jq "works" 'a') 'b'
theorem Jlu:Jd2 (k+1) [x0,x1] h=(Jeq k [Za x0,Za x1] h).fin:=02
def Jds(k:Nat):S1:=JT "duty" 'a' 'b'
theorem Jj1:Jcp (k+1) [x0,x1] h=(Jds k [Za x0,Za x1] h).fin:=02
def Jcm:E1:=Jc Jl (Jp (pg k) "standing" 2 'd'<|Jb (Jc Jf 'c' 'a')<|Jb (Jc Jf 'b' 'a') Jd)<|JG<|Jb 'a' Jd
def Jdt:S1:=Jk<|XA ltT "Order.pick" 0 [3,1,0] (Jb 'c' Jd)<|Jcm k
theorem Jj2:Ja8 (k+1) [x0,x1,x2,x3] h=(Jdt k [Za x0,Za x1,Za x2,Za x3] h).fin:=02
def Ja9:S1:=Jk<|JG<|Jb (Jp (pg k) "rank_of" 2 'a'<|Jb 'b'<|Jb 'c' Jd)<|Jb (eIf (Ji tru<|Jp (pg k) "holds" 2 'a'<|Jb 'b'<|Jb 'c' Jd) '0' '1') Jd
theorem Jf3:Jap (k+1) [x0,x1,x2] h=(Ja9 k [Za x0,Za x1,Za x2] h).fin:=02
def Jcv:S1:=JT "tops" 'a'<|Jn (Jdb k) []<|Jb 'b' Jd
def Jcu:S1:=Jg (JP<|Jn (Jcp k) []<|Jb 'a'<|Jb 'b' Jd)<|Jcv k
theorem Jin:Jar (k+1) [x0,x1] h=(Jcu k [Za x0,Za x1] h).fin:=02
def Jel:S1:=Jk<|Jn (Jjc k) []<|Jb (Jc Jf 'b' '0')<|Jb (Jn (Jas k) []<|Jb (Jp (pg k) "work" 1 (Jq "duty" 'a')<|Jb (Jc Jf 'b' '0') Jd)<|Jb 'c' Jd)<|Jb (Jq "tops" 'a') Jd
theorem Jf2:Jao (k+1) [x0,x1,x2] h=(Jel k [Za x0,Za x1,Za x2] h).fin:=02
def Jgk:S1:=Jk<|Jc cGt (eCB (on1 lenI)<|Jb (Jn (Jas k) []<|Jb (Jp (pg k) "work" 1 (Jq "duty" 'a')<|Jb (Jc Jf 'b' '0') Jd)<|Jb 'c' Jd) Jd) '0'
theorem Jht:Jbk (k+1) [x0,x1,x2] h=(Jgk k [Za x0,Za x1,Za x2] h).fin:=02
def Ja5(k:Nat):S1:=Jk '0'
def Ja4:S1:=Jg (sIf (Ji asB<|Jc cLt 'b'<|eCB (on1 lenI)<|Jb 'a' Jd) (Jk<|Jc Jf 'a' 'b') Jr)<|Ja5 k
theorem Jd0:V6 (k+1) [x0,x1] h=(Ja4 k [Za x0,Za x1] h).fin:=02
def Jih:S1:=Jg (Jj 2<|J6 Jd)<|Jg (sIf (Ji asB<|Jc cGe 'a'<|Jc JK (eC<|.int 10)<|eC<|.int 30) (Jg (Jj 3<|Jc JY 'a'<|Jc JK (eC<|.int 10)<|eC<|.int 30)<|Jg (sFor (iRg Qr<|Jb 'b' Jd) (gNm 4)<|Jg (JP<|Jp (pg k) "append" 1 'c'<|Jb (Jc J8 'd'<|Jc JK (eC<|.int 10)<|eC<|.int 45) Jd)<|Jj 3<|Jc JS 'd'<|Jc JK (eC<|.int 10)<|eC<|.int 45)<|Jk 'c') Jr)<|Jg (Jj 5<|Jc Jl (Jc J8 'a'<|Jc Jl (Jc JK (eC<|.int 10)<|eC<|.int 18) '9')<|eC<|.int 48271)<|Jg (sFor (iRg Qr<|Jb (Jc Jl 'b' '2') Jd) (gNm 4)<|Jg (Jj 5<|Jc J8 (Jc Jl (Jc Jl (Jc Qt 'f' 'f')<|Jc Qt (eC<|.int 48271) 'f') 'e')<|Jc Jl (Jc JK (eC<|.int 10)<|eC<|.int 18) '9')<|JP<|Jp (pg k) "append" 1 'c'<|Jb 'f' Jd)<|Jk<|eSl slI 'c' (JX '2') Qs
theorem Jj5:Jcs (k+1) [x0,x1] h=(Jih k [Za x0,Za x1,Zc,Zc,Zc,Zc] h).fin:=02
def Jdy(k:Nat):E1:=Jc Jf 'c'<|Jc J8 (Jc JS 'b'<|Jc Jl (eC<|.int 11)<|Jc Qt 'a' 'a')<|eC<|.int 26
def Jla:S1:=Jg (Jj 2<|eC<|.str "abcdefghijklmnopqrstuvwxyz")<|Jg (Jj 3<|Jc Jl '1'<|Jc J8 'a' '8')<|Jg (Jj 4<|Jp (pg k) "join" 1 (eC<|.str "")<|Jb (Jz (iRg Qr<|Jb 'd' Jd) 1 [0,2] (gNm 0) JD<|Jdy k) Jd)<|Jg (Jj 5<|Jc J8 (Jc JS 'a' '8') 'd')<|Jk<|Jc Jl (Jc Jl (eSl slT 'e' Qs<|JX 'f')<|Jc Jf 'c'<|Jc J8 (Jc Jl (Jc JS 'a'<|eC<|.int 64) 'b')<|eC<|.int 26)<|eSl slT 'e' (JX<|Jc Jl 'f' '1') Qs
theorem Jnk:Jdd (k+1) [x0,x1] h=(Jla k [Za x0,Za x1,Zc,Zc,Zc,Zc] h).fin:=02
def Jc0(k:Nat):E1:=Jc J8 'a' 'b'
def Jc1(k:Nat):T1:=Ji asB<|Jc cLt (Jc Jf 'a' '1')<|Jc Jf 'a' '2'
def Jev:S1:=Jk<|Jz (Ju<|Jc Jf 'g'<|Jc J8 (Jc Jf 'a' '6') '6') 1 [] (gNm 0) (Jc1 k) 'a'
def Jeu:S1:=Jg (Jj 6<|Jc Jl 'g'<|J6<|Jb (J6<|Jb (JG<|Jb 'e'<|Jb (Jc Jf 'd' '0')<|Jb (Jc Jf 'd' '1') Jd)<|Jb (JG<|Jb 'f'<|Jb (Jc Jf 'd' '2')<|Jb (Jc Jf 'd' '3') Jd) Jd)<|Jb (J6<|Jb (JG<|Jb 'e'<|Jb (Jc Jf 'd' '2')<|Jb (Jc Jf 'd' '3') Jd)<|Jb (JG<|Jb 'e'<|Jb (Jc Jf 'd' '0')<|Jb (Jc Jf 'd' '1') Jd) Jd) Jd)<|Jev k
def Jet:S1:=Jg (Jj 6<|J6<|Jb (J6 Jd)<|Jb (J6<|Jb (JG<|Jb 'e'<|Jb (Jc Jf 'd' '0')<|Jb (Jc Jf 'd' '3') Jd) Jd)<|Jb (J6<|Jb (JG<|Jb 'e'<|Jb (Jc Jf 'd' '0')<|Jb (Jc Jf 'd' '3') Jd)<|Jb (JG<|Jb 'f'<|Jb (Jc Jf 'd' '1')<|Jb (Jc Jf 'd' '2') Jd) Jd)<|Jb (J6<|Jb (JG<|Jb 'f'<|Jb (Jc Jf 'd' '1')<|Jb (Jc Jf 'd' '2') Jd)<|Jb (JG<|Jb 'e'<|Jb (Jc Jf 'd' '0')<|Jb (Jc Jf 'd' '3') Jd) Jd) Jd)<|Jeu k
def Jjk:S1:=Jg (Jj 3<|eCB (on1 Yb)<|Jb (Jz (Ju<|eSl slI 'a' Qs<|JX '4') 1 [1] (gNm 0) JD<|Jc0 k) Jd)<|Jg (Jj 4<|Jc Jf 'c'<|Jc J8 (Jc Jf 'a' '4') '3')<|Jg (Jj 5<|Jc Jf 'c'<|Jc J8 (Jc Jl (Jc Jl (Jc Jf 'a' '4') '1')<|Jc J8 (Jc Jf 'a' '5') '2') '3')<|Jet k
theorem Jly:Jd5 (k+1) [x0,x1,x2] h=(Jjk k [Za x0,Za x1,Za x2,Zc,Zc,Zc,Zc] h).fin:=02
def Jjm:S1:=Jg (Jj 4<|Jn (Jcs k) []<|Jb 'a'<|Jb (eC<|.int 15) Jd)<|Jg (Jj 5<|Jc Jl (Jc Qt 'b'<|Jc Jl '1'<|Jc J8 (Jc Jf 'e' '0')<|Jc Jf (J6<|Jb '7'<|Jb '2' Jd)<|eCB (on1 Y4)<|Jb (Jc cGt 'd' '5') Jd)<|Jc J8 (Jc Jf 'e' '1')<|Jc Jl '1'<|Jc JS 'b' '2')<|Jg (Jj 6<|Jc JY 'f'<|Jc Jf (J6<|Jb '0'<|Jb (Jc J8 (Jc Jf 'e' '2') 'f') Jd)<|Jc J8 (Jc Jf 'e' '3') '2')<|Jg (Jj 7<|Jc Jf (J6<|Jb '0'<|Jb '0'<|Jb (Jc J8 (Jc Jf 'e' '4')<|Jc Jl '1'<|Jc JS 'f' '3')<|Jb (Jc J8 (Jc Jf 'e' '4')<|Jc Jl '1'<|Jc JS (Jc Qt '3' 'f') '2') Jd)<|Jc J8 (Jc Jf 'e' '5') '4')<|Jg (Jj 8<|Jc Jl '1'<|Jc J8 (Jc Jf 'e' '6')<|eCB (on2 maxI)<|Jb '1'<|Jb (Jc JS 'f'<|Jc Jf (J6<|Jb '1'<|Jb '2'<|Jb '4'<|Jb '9'<|Jb (eC<|.int 25) Jd)<|Jc J8 (Jc Jf 'e' '7')<|Jc Jf (J6<|Jb '4'<|Jb '5' Jd)<|eCB (on1 Y4)<|Jb (Jc cGt 'd' '5') Jd) Jd)<|Jg (Jj 9<|J6 Jd)<|Jg (sIf (Ji asB<|Jc cNe 'c'<|J6 Jd) (Jj 9<|Jn (Jd5 k) []<|Jb (eSl slI 'e' (JX '8') Qs)<|Jb 'i'<|Jb 'c' Jd) Jr)<|Jk<|JG<|Jb 'f'<|Jb 'i'<|Jb 'g'<|Jb 'h'<|Jb 'j' Jd
theorem Jl0:Jd7 (k+1) [x0,x1,x2,x3] h=(Jjm k [Za x0,Za x1,Za x2,Za x3,Zc,Zc,Zc,Zc,Zc,Zc] h).fin:=02
def Jdx:E1:=Jn (Jdd k) []<|Jb (Jc JS 'b' '5')<|Jb 'a' Jd
def Jge:S1:=Jg (Jj 7<|J6 Jd)<|Jg (sFor (iRg Qr<|Jb 'f' Jd) (gNm 8)<|Jg (Jj 9<|Jn (Jd7 k) []<|Jb (Jc Jl (Jn (V6 k) []<|Jb 'a'<|Jb (Jc Jl '2'<|Jc J8 'i' '5') Jd)<|Jc Qt '7' 'i')<|Jb 'd'<|Jb 'g'<|Jb 'f' Jd)<|JP<|Jp (pg k) "append" 1 'h'<|Jb (Jc Jl (JG<|Jb (Jn (Jdd k) []<|Jb (Jc JS 'e' '7')<|Jb 'i' Jd) Jd) 'j') Jd)<|Jk 'h'
def Jgd:S1:=Jg (Jj 6<|J6 Jd)<|Jg (sIf (Ji tru 'b') (Jj 6<|Jz (iRg Qr<|Jb '3' Jd) 1 [4] (gNm 0) JD<|Jdx k) Jr)<|Jge k
def Jk9:S1:=Jg (Jj 2<|Jn (V6 k) []<|Jb 'a'<|Jb '0' Jd)<|Jg (Jj 3<|Jc Jl '1'<|Jc J8 (Jc JS 'c' '4')<|Jc Jf (J6<|Jb '4'<|Jb (Jc JK (eC<|.int 10)<|eC<|.int 15)<|Jb (Jc JK (eC<|.int 10)<|eC<|.int 15)<|Jb (Jc JK (eC<|.int 10)<|eC<|.int 40) Jd)<|Jc J8 'c' '4')<|Jg (Jj 4<|Jn (V6 k) []<|Jb 'a'<|Jb '1' Jd)<|Jg (Jj 5<|Jc J8 'e' '6')<|Jg (sIf (Ji asB<|Jc cEq (Jc J8 (Jc JS 'e' '6') '8') '5') (Jj 5<|Jc Jl '6'<|Jc J8 (Jc JS 'e'<|eC<|.int 48) '7') Jr)<|Jgd k
theorem Jnj:Jfu (k+1) [x0,x1] h=(Jk9 k [Za x0,Za x1,Zc,Zc,Zc,Zc,Zc,Zc,Zc,Zc] h).fin:=02
def Jjo(k:Nat):S1:=Jk<|eAnd (eIsi VB 'a') (eUn (Xp tru)<|eIsi VA 'a') tru
theorem Jl2:Jbz (k+1) [x0] h=(Jjo k [Za x0] h).fin:=02
def Jc2:E1:=Jn (Jbz k) []<|Jb 'a' Jd
def Jjn:S1:=Jg (sIf (tOrI (J7<|Ji tru<|eIsi QC 'a')<|Ji asB<|Jc cNe (eCB (on1 lenI)<|Jb 'a' Jd) '4') (Jk<|eC<|.bl Zk) Jr)<|Jg (sIf (J7<|Ji tru<|eCB (on1 allI)<|Jb (Jz (Ju 'a') 1 [] (gNm 0) JD<|Jc2 k) Jd) (Jk<|eC<|.bl Zk) Jr)<|Jg (sAsg 'a'<|gTp 4<|gC (gNm 2)<|gC (gNm 3)<|gC (gNm 4)<|gC (gNm 5) gN)<|Jg (sIf (tOrI (J7<|Ji asB<|JO cLe cLt '0' 'c'<|eCB (on1 lenI)<|Jb 'b' Jd)<|Ji asB<|Jc cLt 'd' '0') (Jk<|eC<|.bl Zk) Jr)<|Jk<|eAnd (JO cLe cLe '0' 'e'<|Jc Jf (Jc Jf 'b' 'c') '4') (JO cLe cLe '1' 'f'<|Jc Jf (Jc Jf 'b' 'c') '2') tru
theorem Jl1:Jd8 (k+1) [x0,x1] h=(Jjn k [Za x0,Za x1,Zc,Zc,Zc,Zc] h).fin:=02
def Jjl:S1:=Jg (sIf (J7<|Ji tru<|eIsi QN 'a') (Jk<|eC<|.bl Zk) Jr)<|Jg (Jj 2 X9)<|Jg (sFor (Ju 'a') (gNm 3)<|Jg (sIf (J7<|Ji tru<|Jn (Jd8 k) []<|Jb 'd'<|Jb 'b' Jd) (Jk<|eC<|.bl Zk) Jr)<|Jg (sIf (QH (Ji asB<|Jc cInD (Jc Jf 'd' '0') 'c')<|Ji asB<|Jc cLt (Jc Jf 'd' '1')<|Jc Jl (Jc Vi 'c'<|Jc Jf 'd' '0')<|Jc Jf (Jc Jf 'b'<|Jc Jf 'd' '0') '1') (Jk<|eC<|.bl Zk) Jr)<|sAsg (Jc Jf 'd' '1')<|gSbD 'c'<|Jc Jf 'd' '0')<|Jk<|eC<|.bl Zh
theorem Jlz:Jd6 (k+1) [x0,x1] h=(Jjl k [Za x0,Za x1,Zc,Zc] h).fin:=02
def Jhd(k:Nat):S1:=Jk<|Jc JS (Jc JY (Jc Jl (Jc Jl 'b'<|Jc Jf 'a' '4')<|Jc Jf 'a' '1') '1')<|Jc Jf 'a' '1'
theorem Jiq:Jby (k+1) [x0,x1] h=(Jhd k [Za x0,Za x1] h).fin:=02
def Jdw(k:Nat):E1:=Ja 0
def Jbm:E1:=Jc Qt (Jn (Jby k) []<|Jb 'a'<|Jb 'b' Jd)<|Jc Jf 'a' '2'
def Jk8:S1:=Jg (Jj 3<|J6 Jd)<|Jg (sFor (Ju<|eSl slI 'a' Qs<|JX<|Jc Jl 'b' '1') (gNm 4)<|Jj 3<|Jc Jl 'd'<|Jz (Ju<|Jc Jf 'e' '5') 3 [] (gTp 3<|gC (gNm 0)<|gC (gNm 1)<|gC (gNm 2) gN) JD<|Jdw k)<|Jg (Jj 5 '0')<|Jg (sFor (Ju<|eSl slI 'a' (JX<|Jc Jl 'b' '1') Qs) (gNm 4)<|sFor (Ju<|Jc Jf 'e' '5') (gTp 3<|gC (gNm 6)<|gC (gNm 7)<|gC (gNm 8) gN)<|sIf (Ji asB<|Jc cIn 'g' 'd') (Jj 5<|eCB (on2 maxI)<|Jb 'f'<|Jb (Jc JY (Jc JY 'i' 'h') '1') Jd) Jr)<|Jk<|Jc Jl (Jc Jl 'f'<|Jc Jf (Jc Jf 'a' 'b') '2')<|eCB (on1 sumI)<|Jb (Jz (Ju<|eSl slI 'a' Qs<|JX 'b') 1 [2] (gNm 0) JD<|Jbm k) Jd
theorem Jni:Jft (k+1) [x0,x1,x2] h=(Jk8 k [Za x0,Za x1,Za x2,Zc,Zc,Zc,Zc,Zc,Zc] h).fin:=02
def Jig:S1:=Jg (Jj 2 '1')<|Jg (XY (Ji asB<|Jc cLe (Jc Jl 'c'<|Jc Jf (Jc Jf 'a' 'b') '4')<|Jc Jf (Jc Jf 'a' 'b') '3')<|Jg (Jj 3<|Jn (Jft k) []<|Jb 'a'<|Jb 'b'<|Jb 'c' Jd)<|Jg (sIf (Ji asB<|Jc cLe 'd' 'c') (Jk 'c') Jr)<|Jj 2 'd')<|Jk<|eC .non
theorem Jj4:Jcr (k+1) [x0,x1] h=(Jig k [Za x0,Za x1,Zc,Zc] h).fin:=02
def Jna(k:Nat):S1:=Jg (Jj 2 '0')<|Jg (sFor (Ju 'a') (gTp 3<|gC (gNm 3)<|gC (gNm 4)<|gC (gNm 5) gN)<|sIf (Ji asB<|Jc cEq 'd' 'b') (Jj 2 'f') Jr)<|Jk 'c'
theorem Jqa:Jg4 (k+1) [x0,x1] h=(Jna k [Za x0,Za x1,Zc,Zc,Zc,Zc] h).fin:=02
def Jfy(k:Nat):S1:=Jg (Jj 2 '1')<|Jg (sFor (Ju 'b') (gTp 6<|gC (gNm 3)<|gC (gNm 4)<|gC (gNm 5)<|gC (gNm 6)<|gC (gNm 7)<|gC (gNm 8) gN)<|Jj 2<|eCB Y7<|Jb 'c'<|Jb 'e'<|Jb 'f'<|Jb 'h' Jd)<|Jg (sFor (Ju 'a') (gNm 9)<|sIf (Ji asB<|Jc cGt (eCB (on1 lenI)<|Jb (eCB (on1 strI)<|Jb (eCB (on1 Vg)<|Jb 'j' Jd) Jd) Jd)<|Jc Jl (eCB (on1 lenI)<|Jb (eCB (on1 strI)<|Jb 'c' Jd) Jd) '6') (Jk<|eC<|.bl Zk) Jr)<|Jk<|eC<|.bl Zh
theorem Jgn:Ja1 (k+1) [x0,x1] h=(Jfy k [Za x0,Za x1,Zc,Zc,Zc,Zc,Zc,Zc,Zc,Zc] h).fin:=02
def Je8:E1:=Vc "Work" (Jbv k) []<|Jb (Jc Jf 'a' '0')<|Jb (Jc Jf 'a' '1')<|Jb (Jc Jf 'a' '2')<|Jb (Jc Jf 'a' '3')<|Jb (Jc Jf 'a' '4')<|Jb (eCB (on1 Vf)<|Jb (Jc Jf 'a' '5') Jd) Jd
def Jyr:S1:=Jg (Jj 1<|Jn (V6 k) []<|Jb 'a'<|Jb '1' Jd)<|Jg (Jj 2<|Jn (Jfu k) []<|Jb (Jc Jl (J6<|Jb (Jn (V6 k) []<|Jb 'a'<|Jb '0' Jd)<|Jb (Jc Jl (Jc Jl (Jc Qt '6' 'b') '1')<|Jc J8 'b' '5') Jd)<|eSl slI 'a' (JX '2')<|JX '7')<|Jb (eC<|.bl Zh) Jd)<|Jg (Jj 3<|Vc "Duty" (Jbu k) []<|Jb (Jz (Ju 'c') 1 [] (gNm 0) JD<|Je8 k) Jd)<|Jg (Jj 4<|Jc J8 (Jn (V6 k) []<|Jb 'a'<|Jb '7' Jd)<|eCB (on1 lenI)<|Jb 'c' Jd)<|Jg (Jj 5<|Jn (Yj k) []<|Jb 'd'<|Jb 'e' Jd)<|Jg (sIf (tOrI (J7<|Ji tru<|eIsi QC 'f')<|Ji asB<|Jc cNe (eCB (on1 lenI)<|Jb 'f' Jd) '2') (Jk<|eC<|.bl Zk) Jr)<|Jg (sAsg 'f'<|gTp 2<|gC (gNm 6)<|gC (gNm 7) gN)<|Jg (sIf (tOrI (J7<|Ji tru<|Jn (Jd6 k) []<|Jb 'g'<|Jb 'c' Jd)<|tOrI (Ji asB<|Jc cGt (eCB (on1 lenI)<|Jb 'g' Jd)<|eC<|.int 100)<|J7<|Ji tru<|Jn (Ja1 k) []<|Jb 'g'<|Jb 'c' Jd) (Jk<|eC<|.bl Zk) Jr)<|Jg (sIf (tOrI (J7<|Ji tru<|Jn (Jbz k) []<|Jb 'h' Jd)<|tOrI (J7<|Ji asB<|JO cLe cLt '0' 'h'<|eCB (on1 lenI)<|Jb 'g' Jd)<|Ji asB<|Jc cNe (Jc Jf (Jc Jf 'g' 'h') '0') 'e') (Jk<|eC<|.bl Zk) Jr)<|Jg (Jj 8<|Jn (Jg4 k) []<|Jb (Jn (Jyi k) []<|Jb (Vc "ByRank" (Jar k) []<|Jb 'd' Jd)<|Jb (eCB (on1 Vf)<|Jb 'g' Jd) Jd)<|Jb 'h' Jd)<|Jg (Jj 9<|eCB (on1 Vf)<|Jb 'g' Jd)<|Jg (JP<|Jp (pg k) "clear" 0 'g' Jd)<|Jg (sIf (Ji asB<|Jc cNe (Jn (Yj k) []<|Jb 'd'<|Jb 'e' Jd)<|JG<|Jb 'j'<|Jb 'h' Jd) (Jk<|eC<|.bl Zk) Jr)<|Jg (Jj 6 'j')<|Jg (Jj 10<|Jn (Jcr k) []<|Jb 'c'<|Jb 'e' Jd)<|Jg (sIf (Ji asB<|Jc cIs 'k'<|eC .non) (Jk<|Jc cGt 'i'<|Jc Jl (Jc Jf (Jc Jf 'g' 'h') '1')<|Jc Jf (Jc Jf 'c' 'e') '3') Jr)<|Jk<|Jc cEq 'i'<|Jc Jl (Jc Jl (Jc Jf (Jc Jf 'g' 'h') '1')<|Jc Jf (Jc Jf 'g' 'h') '2') 'k'
theorem J2c:Xz (k+1) [x0] h=(Jyr k [Za x0,Zc,Zc,Zc,Zc,Zc,Zc,Zc,Zc,Zc,Zc] h).fin:=02
end
theorem Jbi(k:Nat):Qf (pg k) "held" 0 "Work"=Za (Jd3 k,[]):=02
theorem Jee(k:Nat):Qf (pg k) "next_ready" 0 "Bench"=Za (Jae k,[]):=02
theorem Jhm(k:Nat):Qf (pg k) "let_in" 0 "Bench"=Za (Jbj k,[]):=02
theorem Jfh(k:Nat):Qf (pg k) "turns_for" 1 "Bench"=Za (Jai k,[]):=02
theorem Jjx(k:Nat):Qf (pg k) "tell" 2 "Bench"=Za (Jco k,[]):=02
theorem Jik(k:Nat):Qf (pg k) "go_on" 0 "Bench"=Za (Jbt k,[]):=02
theorem Jc9(k:Nat):Qf (pg k) "size" 0 "Duty"=Za (Jd1 k,[]):=02
theorem Jda(k:Nat):Qf (pg k) "work" 1 "Duty"=Za (Jd2 k,[]):=02
theorem Jf1(k:Nat):Qf (pg k) "rank_of" 2 "ByRank"=Za (Jao k,[]):=02
theorem Jhn(k:Nat):Qf (pg k) "holds" 2 "ByRank"=Za (Jbk k,[]):=02
theorem Jil(k:Nat):Qf (pg k) "pick" 3 "ByRank"=Za (Ja8 k,[]):=02
theorem Jfi(k:Nat):Qf (pg k) "standing" 2 "ByRank"=Za (Jap k,[]):=02
end LW
section
open PySem L2 L3 L4
local macro_rules | `(tactic| simp! [$xs,*]) => `(tactic| simp (implicitDefEqProofs := Zk) only [Jpu, Jun, Jog, Jpv, Jw9, Jk5, Joh, Jk4, Xy, Jul, Jof, Juo, YZ, QJ, Jv, VM, Qw, Ju2, Jy5, VJ, J1t, Jt2, J1q, Jw3, Jk3, Juj, Joc, Jod, Jg1, Job, Jkv, Jpt, Jpq, YT, Xu, J09, Yh, Jpo, Jk1, Xv, Vr, Jpn, Jpl, Juh, Jud, Jps, Jky, Jpr, Xe, Jkx, J1j, J1i, J1g, J1f, J1e, J1o, Jt6, Jue, Jt4, Joe, Juf, Jpm, J1p, JU, VL, Xw, Jk2, Jt7, YV, Jt8, Jug, Jk0, Zcv, Zb0, Zam, Zaf, Zaw, exists_eq_left, exists_eq_left', IV.bl.injEq, IV.int.injEq, IV.ref.injEq, IV.str.injEq, IX.lst.injEq, IV.tup.injEq, Zbb, Zcn, Zcc, reduceCtorEq, eq_self, true_implies, false_implies, implies_true, and_true, true_and, and_false, false_and, ZbM, Zb1, Zae, YR, YM, YS, YN, YO, YQ, VB, VA, VP, QN, VO, QC, Xt, YW, Qb, JN, Qk, QO, Vv, YY, YX, Yg, $xs,*])
namespace LW
open PySem L2 L3 L4
section
variable{k:Nat}{h:IH}
theorem J2:1000000<sizeLine:=01
theorem Xr(o o':IX):List.set (h++[o]) h.length o'=h++[o']:=by
 rw[ZcK _ _<|Zm _,ZcF];rfl
theorem XZ(o o':IX)(g:IH):List.set (h++o::g) h.length o'=h++o'::g:=by
 rw[ZcK _ _<|Zm _,ZcF];rfl
end
section
seal L4.run
section
variable{α β:Type}{σ:ISt}{h h1:IH}{N:ISt->IH->Prop}{R P:IV->IH->Prop}
theorem xb{f:α->IH->Res β}(x:WR r λa h=>WR (f a h) Q):WR (r.bind f) Q:=(Jv ..).mpr x
theorem xseq(x:WS (a σ h) (λσ1 h1=>WS (b σ1 h1) N R) R):WS (Jg a b σ h) N R:=(Jpu ..).mpr x
theorem xfin{r:SRes}(x:WS r (λ_ h=>P .non h) P):WR r.fin P:=(Jpm ..).mpr x
theorem xset(x:WR (e σ h) λv h1=>N (σ.set i<|Za v) h1):WS (Jj i e σ h) N R:=(Jpv ..).mpr x
theorem xret(x:WR (e σ h) R):WS (Jk e σ h) N R:=(Jk5 ..).mpr x
theorem Qx{e:E1}(x:WR (e σ h) λ_ h1=>N σ h1):WS (JP e σ h) N R:=(Jk4 ..).mpr x
theorem xif(x:WR (t σ h) λc h1=>(c=Zh->WS (a σ h1) N R)/\(c=Zk->WS (b σ h1) N R)):WS (sIf t a b σ h) N R:=(Jw9 ..).mpr x
theorem xeif(x:WR (t σ h) λc h1=>(c=Zh->WR (a σ h1) P)/\(c=Zk->WR (b σ h1) P)):WR (eIf t a b σ h) P:=(Jw3 ..).mpr x
theorem J4q(x:WR (a σ h) λc h1=>(c=Zh->WR (b σ h1) Q)/\(c=Zk->Q Zk h1)):WR (QH a b σ h) Q:=(Jk3 ..).mpr x
theorem xdec[Decidable p](x:p->a)(y:¬p->b):(decide p=Zh->a)/\(decide p=Zk->b):=⟨λe=>x<|of_decide_eq_true e,λe=>y<|of_decide_eq_false e⟩
theorem xnil(x:N σ h):WS (Jr σ h) N R:=x
theorem xtup(x:WR (a σ h) λxs h1=>xs.length<=sizeLine/\P (.tup xs) h1):WR (JG a σ h) P:=(Jpt ..).mpr x
theorem xlst(x:WR (a σ h) λxs h1=>xs.length<=sizeLine/\P (.ref h1.length) (h1++[.lst xs])):WR (J6 a σ h) P:=(Jpq ..).mpr x
theorem xixl(g:h[i]?=Za (.lst xs))(e:atI xs n=Za x)(q:P x h):WR (Jf (.ref i) (.int n) h) P:=(Jpp ..).mpr ⟨_,g,_,e,q⟩
theorem xixt(e:atI xs n=Za x)(q:P x h):WR (Jf (.tup xs) (.int n) h) P:=(Xt ..).mpr ⟨_,e,q⟩
theorem J6y(g:h[i]?=Za (.lst xs))(q:P (.int xs.length) h):WR (lenI (.ref i) h) P:=(Jkz ..).mpr ⟨_,g,q⟩
theorem xmod(l:0<j)(q:P (.int<|i%j) h):WR (J8 (.int i) (.int j) h) P:=(Jpr ..).mpr ⟨l,q⟩
theorem J6x(l:0<j/\j.natAbs.log2<9000)(q:P (.int<|i/j) h):WR (JS (.int i) (.int j) h) P:=(Jky ..).mpr ⟨l,q⟩
theorem xmul(l:Vt i j)(q:P (.int<|i*j) h):WR (Qt (.int i) (.int j) h) P:=(Jps ..).mpr ⟨l,q⟩
theorem fldE(ho:o σ h=.ok (.ref i) h1)(g:h1[i]?=Za (.ins c fs))(l:fs.lookup f=Za x):Jq f o σ h=.ok x h1:=by
 refine Js ?_
 rw[Jpn,ho]
 exact⟨x,(Qc g).trans l,rfl,rfl⟩
theorem binE(ea:a σ h=.ok x h1)(eb:b σ h1=.ok y h2):Jc f a b σ h=f x y h2:=by unfold Jc;rw[ea];dsimp only[Res.bind];rw[eb]
theorem arg1(ea:a σ h=.ok x h1):Jb a Jd σ h=.ok [x] h1:=by unfold Jb;rw[ea];rfl
theorem arg2(ea:a σ h=.ok x h1)(eb:b σ h1=.ok y h2):Jb a (Jb b Jd) σ h=.ok [x,y] h2:=by unfold Jb;rw[ea];dsimp only[Res.bind];rw[eb];rfl
theorem cbE(ea:a σ h=.ok xs h1):eCB f a σ h=f xs h1:=by unfold eCB;rw[ea];rfl
theorem JB(ea:a σ h=.ok xs h1)(ef:f (xs++d) h1=.ok v h2):Jn f d a σ h=.ok v h2:=by unfold Jn;rw[ea];exact ef
theorem tofE(ea:a σ h=.ok (.bl c) h1):Ji asB a σ h=.ok c h1:=by unfold Ji;rw[ea];rfl
theorem lenE(ea:a σ h=.ok (.ref i) h1)(g:h1[i]?=Za (.lst xs)):eCB (on1 lenI) (Jb a Jd) σ h=.ok (.int xs.length) h1:=by
 rw[cbE<|arg1 ea]
 exact Js<|J6y g ⟨rfl,rfl⟩
theorem ixlE(ea:a σ h=.ok (.ref i) h1)(eb:b σ h1=.ok (.int n) h2)(g:h2[i]?=Za (.lst xs))(e:atI xs n=Za x):Jc Jf a b σ h=.ok x h2:=by
 rw[binE ea eb]
 exact Js<|xixl g e ⟨rfl,rfl⟩
theorem ixtE(ea:a σ h=.ok (.tup xs) h1)(eb:b σ h1=.ok (.int n) h2)(e:atI xs n=Za x):Jc Jf a b σ h=.ok x h2:=by
 rw[binE ea eb]
 exact Js<|xixt e ⟨rfl,rfl⟩
theorem gtE(ea:a σ h=.ok (.int i) h1)(eb:b σ h1=.ok (.int j) h2):Ji asB (Jc cGt a b) σ h=.ok (decide (j<i)) h2:=tofE<|binE ea eb
theorem leE(ea:a σ h=.ok (.int i) h1)(eb:b σ h1=.ok (.int j) h2):Ji asB (Jc cLe a b) σ h=.ok (decide (i<=j)) h2:=tofE<|binE ea eb
theorem ltE(ea:a σ h=.ok (.int i) h1)(eb:b σ h1=.ok (.int j) h2):Ji asB (Jc cLt a b) σ h=.ok (decide (i<j)) h2:=tofE<|binE ea eb
theorem geE(ea:a σ h=.ok (.int i) h1)(eb:b σ h1=.ok (.int j) h2):Ji asB (Jc cGe a b) σ h=.ok (decide (j<=i)) h2:=tofE<|binE ea eb
theorem eqE(ea:a σ h=.ok (.int i) h1)(eb:b σ h1=.ok (.int j) h2):Ji asB (Jc cEq a b) σ h=.ok (decide (i=j)) h2:=tofE<|binE ea eb
theorem addE(ea:a σ h=.ok (.int i) h1)(eb:b σ h1=.ok (.int j) h2):Jc Jl a b σ h=.ok (.int<|i+j) h2:=binE ea eb
theorem subE(ea:a σ h=.ok (.int i) h1)(eb:b σ h1=.ok (.int j) h2):Jc JY a b σ h=.ok (.int<|i-j) h2:=binE ea eb
theorem arg3(ea:a σ h=.ok x h1)(eb:b σ h1=.ok y h2)(ec:c σ h2=.ok z h3):Jb a (Jb b<|Jb c Jd) σ h=.ok [x,y,z] h3:=by
 rw[show Jb a (Jb b<|Jb c Jd) σ h=(a σ h).bind λx h1=>(Jb b (Jb c Jd) σ h1).bind λxs h2=>.ok (x::xs) h2 from rfl,ea]
 show(Jb b (Jb c Jd) σ h1).bind _=_
 rw[arg2 eb ec]
 rfl
theorem arg4(ea:a σ h=.ok x h1)(eb:b σ h1=.ok y h2)(ec:c σ h2=.ok z h3)(ed:d σ h3=.ok u h4):Jb a (Jb b<|Jb c<|Jb d Jd) σ h=.ok [x,y,z,u] h4:=by
 rw[show Jb a (Jb b<|Jb c<|Jb d Jd) σ h=(a σ h).bind λx h1=>(Jb b (Jb c<|Jb d Jd) σ h1).bind λxs h2=>.ok (x::xs) h2 from rfl,ea]
 show(Jb b (Jb c<|Jb d Jd) σ h1).bind _=_
 rw[arg3 eb ec ed]
 rfl
theorem modE(ea:a σ h=.ok (.int i) h1)(eb:b σ h1=.ok (.int j) h2)(l:0<j):Jc J8 a b σ h=.ok (.int<|i%j) h2:=(binE ea eb).trans<|Js<|xmod l ⟨rfl,rfl⟩
theorem Q2(ea:a σ h=.ok (.int i) h1)(eb:b σ h1=.ok (.int j) h2)(l:0<j)(z:j.natAbs.log2<9000):Jc JS a b σ h=.ok (.int<|i/j) h2:=(binE ea eb).trans<|Js<|J6x ⟨l,z⟩ ⟨rfl,rfl⟩
theorem mulE(ea:a σ h=.ok (.int i) h1)(eb:b σ h1=.ok (.int j) h2)(l:Vt i j):Jc Qt a b σ h=.ok (.int<|i*j) h2:=(binE ea eb).trans<|Js<|xmul l ⟨rfl,rfl⟩
theorem lstE(ea:a σ h=.ok xs h1)(l:Nat.ble xs.length 1000=Zh):J6 a σ h=.ok (.ref h1.length) (h1++[.lst xs]):=Js<|xlst<|Je ea ⟨ZW (Zeo l)<|ZW 01<|Zcf J2,rfl,rfl⟩
theorem tupE(ea:a σ h=.ok xs h1)(l:Nat.ble xs.length 1000=Zh):JG a σ h=.ok (.tup xs) h1:=Js<|xtup<|Je ea ⟨ZW (Zeo l)<|ZW 01<|Zcf J2,rfl,rfl⟩
theorem pkE(ea:a σ h=.ok xs h1)(l:Nat.ble xs.length 1000=Zh)(eb:b σ (h1++[.lst xs])=.ok (.int n) (h1++[.lst xs]))(e:atI xs n=Za x):Jc Jf (J6 a) b σ h=.ok x (h1++[.lst xs]):=ixlE (lstE ea l) eb Jm e
theorem maxE(ea:a σ h=.ok (.int i) h1)(eb:b σ h1=.ok (.int j) h2):eCB (on2 maxI) (Jb a<|Jb b Jd) σ h=.ok (.int (if j>i then j else i)) h2:=cbE<|arg2 ea eb
theorem minE(ea:a σ h=.ok (.int i) h1)(eb:b σ h1=.ok (.int j) h2):eCB (on2 minI) (Jb a<|Jb b Jd) σ h=.ok (.int (if j<i then j else i)) h2:=cbE<|arg2 ea eb
theorem dotE{Pg:Pg}{m c:Str}{n i:Nat}{o:E1}{a:A1}{fs:Wl}{f:Tq->IH->Res IV}{d xs:Tq}{h2 h3:IH}{v:IV}(e:o σ h=.ok (.ref i) h1)(hi:h1[i]?=Za (.ins c fs))(hf:fs.lookup m=Zc)(hd:Qf Pg m n c=Za (f,d))(ha:a σ h1=.ok xs h2)(hx:f (.ref i::(xs++d)) h2=.ok v h3):Jp Pg m n o a σ h=.ok v h3:=by
 refine Js<|(Xd e hi hf hd).mpr<|Je ha<|Je hx ⟨rfl,rfl⟩
theorem xifd[Decidable p](e:t σ h=.ok (decide p) h1)(x:p->WS (a σ h1) N R)(y:¬p->WS (b σ h1) N R):WS (sIf t a b σ h) N R:=xif<|Je e<|xdec x y
theorem xiff(e:t σ h=.ok Zk h1)(x:WS (b σ h1) N R):WS (sIf t a b σ h) N R:=xif (Je e ⟨(λz=>by cases z),λ_=>x⟩)
theorem xift(e:t σ h=.ok Zh h1)(x:WS (a σ h1) N R):WS (sIf t a b σ h) N R:=xif (Je e ⟨λ_=>x,λz=>by cases z⟩)
theorem xnx(e:r=.next σ1 h1)(x:N σ1 h1):WS r N R:=by rw[e];exact x
theorem xfor(x:WR (it σ h) λJ h1=>WS (Qj J.chk g b J.xs σ h1) N R):WS (sFor it g b σ h) N R:=(YZ ..).mpr x
theorem okc{α:Type}{r:Res α}{c d:α}(e:r=.ok c h)(q:c=d):r=.ok d h:=q▸e
theorem isiE(ea:a σ h=.ok v h1)(t:(tyI v h1).bind ans=Za b):eIsi ans a σ h=.ok (.bl b) h1:=Js<|(Jpo ..).mpr<|Je ea ⟨b,t,rfl,rfl⟩
theorem notE(e:a σ h=.ok c h1):J7 a σ h=.ok (!c) h1:=by unfold J7;rw[e];rfl
theorem truE(e:a σ h=.ok (.bl c) h1):Ji tru a σ h=.ok c h1:=by unfold Ji;rw[e];rfl
theorem orF(e:a σ h=.ok Zk h1)(eb:b σ h1=r):tOrI a b σ h=r:=by unfold tOrI;rw[e];exact eb
theorem andT(e:a σ h=.ok Zh h1)(eb:b σ h1=r):QH a b σ h=r:=by unfold QH;rw[e];exact eb
theorem andF(e:a σ h=.ok Zk h1):QH a b σ h=.ok Zk h1:=by unfold QH;rw[e];rfl
theorem Jy6(e:a σ h=.ok (.bl Zh) h1)(eb:b σ h1=r):eAnd a b tru σ h=r:=by unfold eAnd;rw[e];exact eb
theorem chT(ea:a σ h=.ok (.int i) h1)(eb:b σ h1=.ok (.int j) h2)(ec:c σ h2=.ok (.int l) h3)(t1:i<=j)(t2:j<l):JO cLe cLt a b c σ h=.ok (.bl Zh) h3:=by
 unfold JO
 rw[ea]
 dsimp only[Res.bind]
 rw[eb]
 show(match IV.bl (decide (i<=j))with|.bl Zh=>_|.bl Zk=>_|_=>_)=_
 rw[decide_eq_true t1]
 show(c σ h2).bind _=_
 rw[ec]
 show Res.ok (IV.bl<|decide (j<l)) h3=_
 rw[decide_eq_true t2]
theorem xrng{e:E1}{g:G1}{b:S1}{n:Nat}(ee:e σ h=.ok (.int (n:Int)) h1)(l:n<1000000)(x:WS (Qj (λ_=>True) g b (rngI 0 (n:Int)) σ h1) N R):WS (sFor (iRg Qr<|Jb e Jd) g b σ h) N R:=by
 rw[YZ,VL]
 refine Je (arg1 ee) ?_
 rw[Xw]
 exact⟨00,x⟩
theorem Jzv(ea:a σ h=.ok (.ref i) h1)(g:h1[i]?=Za (.lst xs)):eCB (on1 Vf) (Jb a Jd) σ h=.ok (.ref h1.length) (h1++[.lst xs]):=by
 rw[cbE<|arg1 ea]
 exact Js<|(Jw5 ..).mpr ⟨_,g,rfl,rfl⟩
theorem V4(ev:e σ h=.ok v h1)(eo:o σ h1=.ok (.ref i) h1)(g:h1[i]?=Za (.ins c fs))(l:fs.length<1000)(q:N σ<|h1.set i<|.ins c<|putI f v fs):WS (JT f o e σ h) N R:=by
 rw[Xf]
 exact Je ev<|Je eo ⟨i,c,fs,rfl,g,l,q⟩
theorem J6v(eo:o σ h=.ok (.ref i) h1)(g:h1[i]?=Za (.ins c fs))(l:fs.lookup f=Za (.int a))(ee:e σ h1=.ok (.int b) h2)(g2:h2[i]?=Za (.ins c gs))(z:gs.length<1000)(q:N σ<|h2.set i<|.ins c<|putI f (.int<|a+b) gs):WS (XW .Add f o e σ h) N R:=by
 unfold XW
 rw[eo]
 simp only[rS,g,l,ee,L4.ipI,g2,z,if_true]
 exact q
theorem J6w(eo:o σ h=.ok (.ref i) h1)(ek:k σ h1=.ok (.int n) h2)(g:h2[i]?=Za (.lst xs))(ea:atI xs n=Za (.int a))(n0:0<=n)(ee:e σ h2=.ok (.int b) h3)(g3:h3[i]?=Za (.lst ys))(ej:ixN ys.length n=Za j)(q:N σ<|h3.set i<|.lst<|ys.set j<|.int<|a+b):WS (XX .Add o k e σ h) N R:=by
 unfold XX
 rw[eo]
 simp only[rS,ek,ixL,g,ea,n0,if_true,ee,L4.ipI,setI,g3,ej]
 exact q
theorem Yi{Pg:Pg}{m c:Str}{n i:Nat}{o:E1}{a:A1}{fs:Wl}{f:Tq->IH->Res IV}{d:Tq}(e:o σ h=.ok (.ref i) h1)(hi:h1[i]?=Za (.ins c fs))(hf:fs.lookup m=Zc)(hd:Qf Pg m n c=Za (f,d))(x:WR (a σ h1) λvs h2=>WR (f (.ref i::(vs++d)) h2) P):WR (Jp Pg m n o a σ h) P:=(Xd e hi hf hd).mpr x
theorem QK{Pg:Pg}{m:Str}{n i:Nat}{o:E1}{a:A1}{xs:Tq}{g:IV->Tq->IH->Res IV}(e:o σ h=.ok (.ref i) h1)(hl:h1[i]?=Za (.lst xs))(hg:bmOf "list" m n=Za g)(x:WR (a σ h1) λvs h2=>WR (g (.ref i) vs h2) P):WR (Jp Pg m n o a σ h) P:=(J1c e hl hg).mpr x
theorem xapp(g:h[i]?=Za (.lst xs))(l:xs.length<sizeLine)(q:P .non<|h.set i<|.lst<|xs++[y]):WR (Xg (.ref i) [y] h) P:=(Jt3 ..).mpr ⟨_,g,l,q⟩
theorem xpop(g:h[i]?=Za (.lst xs))(l:xs[xs.length-1]?=Za y)(q:P y<|h.set i<|.lst xs.dropLast):WR (XQ (.ref i) [] h) P:=by
 have e:VW (.ref i) h=Za (i,xs):=by unfold VW;simp only[g]
 unfold XQ
 rw[e]
 dsimp only
 rw[l]
 exact q
theorem xrem{i j:Nat}{k:Int}{ns:Tk}(g:h[i]?=Za (.lst<|ns.map .int))(l:ns.findIdx? (· ==k)=Za j)(q:P .non<|h.set i<|.lst<|(ns.map IV.int).eraseIdx j):WR (XR (.ref i) [.int k] h) P:=by
 have e:VW (.ref i) h=Za (i,ns.map .int):=by unfold VW;simp only[g]
 unfold XR
 rw[e]
 dsimp only
 rw[Vy]
 dsimp only
 rw[l]
 exact q
theorem Jrk:bmOf "list" "pop" 0=Za XQ:=02
theorem Jrl:bmOf "list" "remove" 1=Za XR:=02
end
end
section
variable{k:Nat}{h:IH}
theorem Jnc(ns:Tk)(n:Int)(hn:0<=n):V6 (k+1) [.rol<|ns.map .int,.int n] h=.ok (.int<|ns.getD n.toNat 0) h:=by
 refine Js ?_
 rw[Jd0]
 simp![Ja4,Ja5,Zg,decide_eq_true_eq,decide_eq_false_iff_not]
 refine⟨λhl=>⟨.int<|ns.getD n.toNat 0,Jjg hn ?_,rfl⟩,λhl=>?_⟩
 ·rw[Z4,Zi,Zb<|show n.toNat<ns.length by omega]
  rfl
 ·rw[Zi,ZaQ 00]
  rfl
theorem Jjr{ns:Tk}(g:h[C]?=Za (.lst<|ns.map .int))(n:Int)(hn:0<=n):V6 (k+1) [.ref C,.int n] h=.ok (.int<|ns.getD n.toNat 0) h:=by
 refine Js ?_
 rw[Jd0]
 simp![Ja4,Ja5,Jkz,Jpp,g,Zg,decide_eq_true_eq,decide_eq_false_iff_not]
 refine⟨λhl=>⟨.int<|ns.getD n.toNat 0,Jjg hn ?_,rfl⟩,λhl=>?_⟩
 ·rw[Z4,Zi,Zb<|show n.toNat<ns.length by omega]
  rfl
 ·rw[Zi,ZaQ 00]
  rfl
end
section
seal L4.run
section
variable{k:Nat}{h:IH}
theorem Jgg(i:Int):Jdc (k+1) [.int i] h=.ok (.bl Zh) h:=by rw[Jnh];rfl
theorem Jf6(i j:Int):V5 (k+2) [.int i,.int j] h=.ok (.bl<|decide (j<=i)) h:=by
 refine Js ?_
 rw[Jgm]
 simp![Jbp,Jgg]
def IsNm(x:Str):Prop:=1<=x.length/\x.length<=8/\∀c∈x.cps.toList,97<=c/\c<=122
theorem J4u:(ZS "a").cps.toList=[97]:=by decide +kernel
theorem J6z:(ZS "z").cps.toList=[122]:=by decide +kernel
theorem J0q(hc:97<=c/\c<=122):Jb2 k [Za<|.str ⟨#[c]⟩] h=.ok (.bl Zh) h:=by
 refine Js ?_
 have h1:¬([c]<[97]):=λq=>by
  cases q with
  |rel q=>omega
  |cons q=>cases q
 have h2:¬([122]<[c]):=λq=>by
  cases q with
  |rel q=>omega
  |cons q=>cases q
 simp only[Jb2,Jg1,Qw,Ju2,VM,J4o,J4u,J6z,h1,h2,decide_false,exists_eq_left,exists_eq_left',IV.bl.injEq,IV.int.injEq,IV.ref.injEq,IV.str.injEq,IX.lst.injEq,IV.tup.injEq,Zbb,Zcn,Zcc,reduceCtorEq,eq_self,true_implies,false_implies,implies_true,and_true,true_and,and_false,false_and,ZbM,Zb1,Zae,YR,YM,YS,YN,YO,YQ,VB,VA,VP,QN,VO,QC,Xt,YW,Qb,JN,Qk,QO,Vv,YY,YX,Yg]
theorem Ji8(hx:IsNm x):WR (Jeh (k+1) [.str x] h) λv h'=>v=.bl Zh/\Ex h h':=by
 obtain⟨h1,h2,h3⟩:=hx
 have hb:=J2
 have hz:x.length<=sizeLine:=00
 have a1:(1:Int)<=x.length:=00
 have a2:(x.length:Int)<=8:=00
 rw[Jp9]
 simp![Jhb,Jhc,hz,a1,a2,decide_true]
 refine WR.mono (Qe (xs:=V2 x) (chk:=λ_=>True) (f:=λ_=>.bl Zh) (h:=h) ?_ ?_ (λ_ _=>trivial) ?_) ?_
 ·exact⟨rfl,rfl,rfl⟩
 ·have:(V2 x).length=x.length:=by simp[V2,ZdY]
  omega
 ·intro v hv h2 _
  obtain⟨c,hc,rfl⟩:=Zz.mp hv
  exact Je (J0q<|h3 c hc) ⟨rfl,.refl _⟩
 ·rintro v h' ⟨rfl,g,rfl⟩
  refine Je (all_map (f:=λ_=>Zh) J4) ⟨?_,.cons ..⟩
  simp
abbrev Hd:=Str×Int×Int
abbrev _root_.Wd:=Option<|Nat×Hd
abbrev _root_.Wi:=List<|List Hd
abbrev _root_.Tr:=List Hd
noncomputable def tupH (a:Hd):IV:=.tup [.str a.1,.int a.2.1,.int a.2.2]
def HdOk(len:Int)(a:Hd):Prop:=IsNm a.1/\0<=a.2.1/\a.2.1<a.2.2/\a.2.2<len
def Tog(a b:Hd):Prop:=a.2.2<=b.2.1∨b.2.2<=a.2.1∨(a.1≠b.1/\((b.2.1<=a.2.1/\a.2.2<=b.2.2)∨(a.2.1<=b.2.1/\b.2.2<=a.2.2)))
theorem Jqh(ha:HdOk len a):WR (Jg3 (k+3) [tupH a,.int len] h) λv h'=>v=.bl Zh/\Ex h h':=by
 obtain⟨h1,h2,h3,h4⟩:=ha
 rw[Jp8]
 have h5:a.2.1+1<=a.2.2:=00
 simp![Jg8,Jg9,Jha,tupH,ZA,ZaD,Jf6]
 refine⟨λq=>absurd q 01,λ_=>WR.mono (Ji8 h1) ?_⟩
 rintro v h' ⟨rfl,x⟩
 simp![decide_eq_true h2,decide_eq_true h4,decide_eq_true h5]
 exact x
theorem Jmb(a b:Hd):Jd9 (k+1) [tupH a,tupH b] h=.ok (.bl<|decide (a.2.2<=b.2.1)||decide (b.2.2<=a.2.1)) h:=by
 refine Js ?_
 rw[Jl3]
 simp![Jew,tupH]
 cases decide (a.2.2<=b.2.1)<;>simp
theorem Jqj(a b:Hd):Jei (k+1) [tupH a,tupH b] h=.ok (.bl<|decide (b.2.1<=a.2.1)&&decide (a.2.2<=b.2.2)) h:=by
 refine Js ?_
 rw[Jqb]
 simp![Jhe,tupH]
 cases decide (b.2.1<=a.2.1)<;>simp
theorem Jis(t:Tog a b):Jbx (k+2) [tupH a,tupH b] h=.ok (.bl Zh) h:=by
 refine Js ?_
 rw[Jip]
 have ix:∀a:Hd,WR (Jf (tupH a) (.int 0) h)=λP=>P (.str a.1) h:=λa=>by
  funext P
  simp only[tupH,Xt,exists_eq_left,exists_eq_left',IV.bl.injEq,IV.int.injEq,IV.ref.injEq,IV.str.injEq,IX.lst.injEq,IV.tup.injEq,Zbb,Zcn,Zcc,reduceCtorEq,eq_self,true_implies,false_implies,implies_true,and_true,true_and,and_false,false_and,ZbM,Zb1,Zae,YR,YM,YS,YN,YO,YQ,VB,VA,VP,QN,VO,QC,Xt,YW,Qb,JN,Qk,QO,Vv,YY,YX,Yg]
 simp![Jcw,Jcx,Jcy,Jmb,Jqj,ix]
 unfold Tog at t
 simp only[Za4,Zda,Zo,Bool.and_eq_false_iff,decide_eq_true_eq,decide_eq_false_iff_not]
 grind
theorem Jn9{hs:Tr}{i:Nat}(hi:h[i]?=Za (.lst<|hs.map tupH))(hl:hs.length<=6)(ht:∀m n (hm:m<n)(hn:n<hs.length),Tog hs[n] hs[m]):
  WR (Jaj (k+3) [.ref i] h) λv h'=>v=.bl Zh/\Ex h h':=by
 have hb:=J2
 rw[Jfk]
 simp![Ja2,Ja3,Jt5,hi]
 refine Qo (λn σ h'=>(∃a b,σ=[Za<|.ref i,a,b])/\Ex h h') (λn σ h' ⟨_,x⟩=>x.get hi) ?_ ?_ ⟨⟨_,_,rfl⟩,.refl h⟩
 ·rintro n hn _ h' ⟨⟨a,b,rfl⟩,x⟩
  have hn':n<hs.length:=by rw[XB,Zg]at hn;exact hn
  rw[Jr3]
  simp![ZG,J4p,J6p,J6q,ZA,ZaD,Jaq]
  have hi':=x.get hi
  refine WR.mono (Qe (xs:=(hs.map tupH).take n) (chk:=λh2=>h2[h'.length]?=Za (.lst<|(hs.map tupH).take n)) (f:=λ_=>.bl Zh) (h:=h'++[.lst<|(hs.map tupH).take n]) ?_ ?_ ?_ ?_) ?_
  ·simp![Xx,hi',JM,Yw,Jm]
  ·simp only[Zaa,Zg];omega
  ·exact λh2 q=>q _ _ Jm
  ·intro v hv h2 q
   obtain⟨j,hj,rfl⟩:=ZO.mp hv
   have hj':j<n:=by simp at hj;omega
   simp![Zbs,ZG,Jan,Z1,Zbi,Za8,Za9,ZbN]
   exact Je (Jis<|ht j n hj' hn') ⟨rfl,.refl _⟩
  ·rintro v h3 ⟨rfl,g,rfl⟩
   refine Je (all_map (f:=λ_=>Zh) J4) ?_
   have:(((hs.map tupH).take n).all λ_=>Zh)=Zh:=03
   simp![this]
   exact⟨⟨_,_,rfl⟩,x.trans<|(Ex.one _ _).trans<|.cons ..⟩
 ·rintro _ h' ⟨⟨a,b,rfl⟩,x⟩
  exact x
structure HsOk(len:Int)(hs:Tr):Prop where
 few:hs.length<=6
 each:∀a∈hs,HdOk len a
 tog:∀m n (hm:m<n)(hn:n<hs.length),Tog hs[n] hs[m]
theorem Jme{hs:Tr}(hi:h[i]?=Za (.lst<|hs.map tupH))(ok:HsOk len hs):
  WR (Yl (k+4) [.ref i,.int len] h) λv h'=>v=.tup (hs.map tupH)/\Ex h h':=by
 have hb:=J2
 have hl:=ok.few
 have h6:¬(6:Int)<(hs.length:Int):=00
 rw[Jl5]
 simp![Jex,Jey,Jez,Je0,J4n,isR,isD,Jtx hi,Jkz,hi,Zg,h6,decide_false]
 refine WR.mono (Qe (xs:=hs.map tupH) (chk:=λh2=>h2[i]?=Za (.lst<|hs.map tupH)) (f:=λ_=>.bl Zh) (h:=h) ?_ ?_ ?_ ?_) ?_
 ·simp![JM,hi]
 ·simp only[Zg];omega
 ·exact λh2 q=>q _ _ hi
 ·intro v hv h2 q
  obtain⟨a,ha,rfl⟩:=Zz.mp hv
  simp![Jc3,Z1,Zbi,Za8,Za9,ZbN]
  exact Jqh<|ok.each a ha
 ·rintro v h1 ⟨rfl,g,rfl⟩
  refine Je (all_map (f:=λ_=>Zh) J4) ?_
  have:((hs.map tupH).all λ_=>Zh)=Zh:=03
  simp![this,Je1,Je2]
  have x1:Ex h (h++IX.lst (List.map (λx=>IV.bl Zh)<|hs.map tupH)::g):=.cons ..
  refine WR.mono (Jn9 (x1.get hi) hl ok.tog) ?_
  rintro v h2 ⟨rfl,x2⟩
  simp![true_and]
  have hi2:=x2.get<|x1.get hi
  refine WR.mono (Qe (xs:=hs.map tupH) (chk:=λh3=>h3[i]?=Za (.lst<|hs.map tupH)) (f:=λx=>x) (h:=h2) ?_ ?_ ?_ ?_) ?_
  ·simp![JM,hi2]
  ·simp only[Zg];omega
  ·exact λh2 q=>q _ _ hi2
  ·intro v hv h3 q
   obtain⟨a,ha,rfl⟩:=Zz.mp hv
   simp![Jc4,tupH,ZA,ZaD]
   exact⟨00,.refl _⟩
  ·rintro v h3 ⟨rfl,g3,rfl⟩
   simp only[Juk,J4,exists_eq_left,exists_eq_left',IV.bl.injEq,IV.int.injEq,IV.ref.injEq,IV.str.injEq,IX.lst.injEq,IV.tup.injEq,Zbb,Zcn,Zcc,reduceCtorEq,eq_self,true_implies,false_implies,implies_true,and_true,true_and,and_false,false_and,ZbM,Zb1,Zae,YR,YM,YS,YN,YO,YQ,VB,VA,VP,QN,VO,QC,Xt,YW,Qb,JN,Qk,QO,Vv,YY,YX,Yg,List.map_id']
   exact x1.trans<|x2.trans<|.cons ..
theorem Jqr(h1:1<=due)(h2:due<=gap):Yk (k+3) [.int due,.int gap] h=.ok (.int due) h:=by
 refine Js ?_
 rw[Jqc]
 have:¬gap<due:=00
 simp![Jhf,Jhg,Jhh,J4n,isR,isD,Jf6,decide_eq_true h1,decide_eq_false this]
noncomputable def wfs (name:Str)(gap len due late:Int)(hs:Tq):Wl:=[("name",.str name),("gap",.int gap),("length",.int len),("due",.int due),("late",.int late),("hold_tuples",.tup hs)]
section
variable(a b c d e f:IV)
theorem put0:putI "name" a ([]:Wl)=([("name",a)]:Wl):=02
theorem put1:putI "gap" b ([("name",a)]:Wl)=([("name",a),("gap",b)]:Wl):=02
theorem put2:putI "length" c ([("name",a),("gap",b)]:Wl)=([("name",a),("gap",b),("length",c)]:Wl):=02
theorem put3:putI "due" d ([("name",a),("gap",b),("length",c)]:Wl)=([("name",a),("gap",b),("length",c),("due",d)]:Wl):=02
theorem put4:putI "late" e ([("name",a),("gap",b),("length",c),("due",d)]:Wl)=([("name",a),("gap",b),("length",c),("due",d),("late",e)]:Wl):=02
theorem put5:putI "hold_tuples" f ([("name",a),("gap",b),("length",c),("due",d),("late",e)]:Wl)=([("name",a),("gap",b),("length",c),("due",d),("late",e),("hold_tuples",f)]:Wl):=02
variable{name:Str}{gap len due late:Int}{hs:Tq}
theorem fl0:(wfs name gap len due late hs).lookup ("name":Str)=Za (.str name):=02
theorem fl1:(wfs name gap len due late hs).lookup ("gap":Str)=Za (.int gap):=02
theorem fl2:(wfs name gap len due late hs).lookup ("length":Str)=Za (.int len):=02
theorem fl3:(wfs name gap len due late hs).lookup ("due":Str)=Za (.int due):=02
theorem fl4:(wfs name gap len due late hs).lookup ("late":Str)=Za (.int late):=02
theorem fl5:(wfs name gap len due late hs).lookup ("hold_tuples":Str)=Za (.tup hs):=02
theorem flh:(wfs name gap len due late hs).lookup ("held":Str)=Zc:=02
end
theorem Jt1{gap len due late:Int}{dv hv:IV}{hs:Tq}(hw:h[w]?=Za (.ins "Work" []))(hn:IsNm name)(hg:1<=gap)(hl:1<=len)(ht:0<=late)
  (hd:∀h1,Yk (k+4) [dv,.int gap] h1=.ok (.int due) h1)(hh:∀h1:IH,(∀(j:Nat)(o:IX),j≠w->h[j]?=Za o->h1[j]?=Za o)->WR (Yl (k+4) [hv,.int len] h1) λv h2=>v=.tup hs/\Ex h1 h2):
  WR (Jbv (k+5) [.ref w,.str name,.int gap,.int len,dv,.int late,hv] h) λv h'=>v=.non/\∃g,h'=h.set w (.ins "Work"<|wfs name gap len due late hs)++g:=by
 rw[Jlw]
 refine xfin<|xseq<|xif<|xb<|xb<|xb<|Je (arg1 rfl)<|WR.mono (Ji8 hn) ?_
 rintro v h1 ⟨rfl,g1,rfl⟩
 have lw:=JF hw
 have s1:∀{o:IX},(h++g1).set w o=h.set w o++g1:=by intro o;rw[Za0 (h:=lw)]
 have at1:∀{o:IX},(h.set w o++g1)[w]?=Za o:=by
  intro o
  rw[ZE (by rw[Zbu];exact lw),ZX lw]
 have s2:∀{o o':IX},(h.set w o++g1).set w o'=h.set w o'++g1:=by intro o o';rw[Za0 (h:=by rw[Zbu];exact lw),Zeg]
 have ok:∀{σ:ISt}{e1 e2:E1}{a b:Int}{hh:IH},e1 σ hh=.ok (.int a) hh->e2 σ hh=.ok (.int b) hh->b<=a->J7 (Ji tru<|Jn (V5<|k+4) []<|Jb e1<|Jb e2 Jd) σ hh=.ok Zk hh:=λh1 h2 l=>okc (notE<|truE<|JB (arg2 h1 h2)<|Jf6 _ _)<|by rw[decide_eq_true l];rfl
 refine Je rfl (Je rfl ⟨(λz=>by cases z),λ_=>xnil<|xseq<|xiff (ok rfl rfl hg)<|xnil<|xseq<|xiff (ok rfl rfl hl)<|xnil<|xseq<|xiff (ok rfl rfl ht)<|xnil<|xseq<|V4 rfl rfl (grow hw) 01 ?_⟩)
 rw[s1,put0]
 refine xseq (V4 rfl rfl at1 (by show(1:Nat)<1000;decide) ?_)
 rw[s2,put1]
 refine xseq (V4 rfl rfl at1 (by show(2:Nat)<1000;decide) ?_)
 rw[s2,put2]
 refine xseq (V4 (JB (arg2 rfl rfl)<|hd _) rfl at1 (by show(3:Nat)<1000;decide) ?_)
 rw[s2,put3]
 refine xseq (V4 rfl rfl at1 (by show(4:Nat)<1000;decide) ?_)
 rw[s2,put4]
 unfold Jes
 rw[Xf]
 refine xb<|Je (arg2 rfl rfl)<|WR.mono (hh _ λj o hj e=>?_) ?_
 ·refine grow ?_
  rw[ZT<|Zab hj]
  exact e
 ·rintro v h2 ⟨rfl,g2,rfl⟩
  refine Je rfl ⟨w,_,_,rfl,grow at1,by show(5:Nat)<1000;decide,rfl,g1++g2,?_⟩
  rw[Za0 (h:=JF at1),s2,put5,Zac]
  rfl
theorem Jzz{gap len due late:Int}{dv hv:IV}{hs:Tq}(hn:IsNm name)(hg:1<=gap)(hl:1<=len)(ht:0<=late)
  (hd:∀h1,Yk (k+4) [dv,.int gap] h1=.ok (.int due) h1)(hh:∀h1:IH,(∀(j:Nat)(o:IX),h[j]?=Za o->h1[j]?=Za o)->WR (Yl (k+4) [hv,.int len] h1) λv h2=>v=.tup hs/\Ex h1 h2):
  WR (Jbv (k+5) [.ref h.length,.str name,.int gap,.int len,dv,.int late,hv]<|h++[.ins "Work" []]) λv h'=>v=.non/\∃g,h'=h++.ins "Work" (wfs name gap len due late hs)::g:=by
 refine WR.mono (Jt1 Jm hn hg hl ht hd λh1 q=>hh h1 λj o e=>q j o (by have:=JF e;omega)<|grow e) ?_
 rintro v h' ⟨rfl,g,rfl⟩
 exact⟨rfl,g,by rw[Xr];simp⟩
end
end
section
variable{k:Nat}{h:IH}
theorem Jfr(hw:h[w]?=Za (.ins "Work"<|wfs name gap len due late hs)):Jd3 (k+1) [.ref w] h=.ok (.ref h.length) (h++[.lst hs]):=by
 refine Js ?_
 rw[Jlv]
 simp![Jer,Qc hw,fl5]
end
structure WD where
 name:Str
 gap:Int
 len:Int
 due:Int
 late:Int
def IsW(h:IH)(v:IV)(d:WD):Prop:=∃i hs,v=.ref i/\h[i]?=Za (.ins "Work"<|wfs d.name d.gap d.len d.due d.late hs)
theorem IsW.kp(k:Kp h h')(w:IsW h v d):IsW h' v d:=by
 obtain⟨i,hs,e,q⟩:=w
 exact⟨i,hs,e,k _ _ q⟩
structure AllW(h:IH)(vs:Tq)(ds:List WD):Prop where
 len:vs.length=ds.length
 at_:∀(i:Nat) v d,vs[i]?=Za v->ds[i]?=Za d->IsW h v d
theorem AllW.kp(k:Kp h h')(w:AllW h vs ds):AllW h' vs ds:=⟨w.len,λi v d a b=>(w.at_ i v d a b).kp k⟩
theorem AllW.of(w:AllW h vs ds)(hv:v∈vs):∃d∈ds,IsW h v d:=by
 obtain⟨i,hi,rfl⟩:=ZO.mp hv
 have hi':i<ds.length:=by rw[<-w.len];exact hi
 exact⟨ds[i],Zw hi',w.at_ i _ _ (Zb hi)<|Zb hi'⟩
def fOf(f:Str)(h:IH)(v:IV):IV:=(VT f v h).getD .non
theorem AllW.mapF(w:AllW h vs ds){F:IV->IV}{g:WD->IV}(hf:∀(i:Nat) (d:WD) hs,h[i]?=Za (.ins "Work"<|wfs d.name d.gap d.len d.due d.late hs)->F (.ref i)=g d):vs.map F=ds.map g:=by
 refine Zca λi=>?_
 rw[Z4,Z4]
 by_cases hi:i<vs.length
 ·have hi':i<ds.length:=by rw[<-w.len];exact hi
  rw[Zb hi,Zb hi']
  obtain⟨j,hs,e,q⟩:=w.at_ i _ _ (Zb hi)<|Zb hi'
  simp only[Option.map_some,Zbb]
  rw[e,hf j _ hs q]
 ·have hi':¬i<ds.length:=by rw[<-w.len];exact hi
  rw[ZaQ 00,ZaQ 00]
  rfl
section
variable{k:Nat}{h:IH}
theorem Jv6:Jxa ["Work"] (.ins "Work")=Za Zh:=02
theorem Jmf{vs:Tq}{ds:List WD}{i:Nat}(hi:h[i]?=Za (.lst vs))(w:AllW h vs ds)(nd:(ds.map (·.name)).Nodup)(hl:ds.length<=20):
  WR (Jeb (k+1) [.ref i] h) λv h'=>v=.tup vs/\Ex h h':=by
 have hb:=J2
 have wl:=w.len
 rw[Jl6]
 simp![Je3,Je4,Jtx hi]
 refine WR.mono (Qe (h:=h) (xs:=vs) (chk:=λh'=>h'[i]?=Za (.lst vs)) (f:=λ_=>.bl Zh) ?_ 00 (λh2 q=>q _ _ hi) ?_) ?_
 ·simp![JM,hi]
 ·intro v hv h2 q
  obtain⟨d,_,j,hs,rfl,e⟩:=w.of hv
  have ty:tyI (.ref j) h2=Za (.ins "Work"):=by simp[tyI,q _ _ e]
  simp![Jc5,ty,Jv6]
  exact .refl _
 ·rintro _ _ ⟨rfl,g,rfl⟩
  have x1:Ex h (h++IX.lst (vs.map λ_=>.bl Zh)::g):=.cons _ _ _
  rw[all_map (f:=λ_=>Zh) J4]
  generalize h++IX.lst (vs.map λ_=>.bl Zh)::g=h1 at x1
  have at1:(vs.all λ_=>Zh)=Zh:=03
  simp![at1,Je5,Jub]
  have w1:=w.kp x1.kp
  have nm:=w1.mapF (F:=fOf "name" h1) (g:=λd=>.str d.name) λj d hs e=>by rw[fOf,Qc e,fl0];rfl
  refine WR.mono (Qe (h:=h1) (xs:=vs) (chk:=λh'=>h'[i]?=Za (.lst vs)) (f:=fOf "name" h1) ?_ 00 (λh2 q=>q _ _<|x1.get hi) ?_) ?_
  ·simp![JM,x1.get hi]
  ·intro v hv h2 q
   obtain⟨d,_,j,hs,rfl,e⟩:=w1.of hv
   simp![Jc6,Qc<|q _ _ e,fl0,fOf,Qc e,ZdQ]
   exact .refl _
  ·rintro _ _ ⟨rfl,g2,rfl⟩
   rw[nm]
   have em:ds.map (λd=>IV.str d.name)=(ds.map (·.name)).map IV.str:=03
   rw[em]
   have x2:Ex h1 (h1++IX.lst ((ds.map (·.name)).map IV.str)::g2):=.cons _ _ _
   refine⟨_,rfl,_,J4,ds.map (·.name),Jkp _,by rw[Zg];unfold Zch;omega,?_⟩
   rw[Jll nd _<|Zm _]
   simp![Jkz,x2.get<|x1.get hi,Zg,wl,decide_true,Je6,Juk]
   exact x1.trans x2
noncomputable def rup (top bottom:Int):Int:=(top+bottom-1)/bottom
def topD(ds:List WD):Int:=if ds.map (·.due)=[]then 0 else JJ (λi=>(ds.map (·.due)).getD i 0) (ds.map (·.due)).length
def Jop(ds:List WD):Int:=(ds.map λd=>rup (topD ds+d.late) d.gap).sum
def rOf(T:Int)(h:IH)(v:IV):IV:=match VT "late" v h,VT "gap" v h with
 |some (.int l),Za (.int g)=>.int<|rup (T+l) g
 |_,_=>.non
theorem Jmh(hb:0<b)(hl:b.natAbs.log2<9000):Jb0 (k+1) [.int a,.int b] h=.ok (.int<|rup a b) h:=by
 refine Js ?_
 rw[Jl7]
 simp![Je7,hb,hl,rup]
theorem Juv(w:AllW h vs ds)(hl:ds.length<=20)(hg:∀d∈ds,0<d.gap/\d.gap.natAbs.log2<9000):
  WR (Jfs (k+2) [.tup vs] h) λv h'=>v=.int (Jop ds)/\Ex h h':=by
 have hb:=J2
 have wl:=w.len
 rw[Jng]
 simp![Jgb,J1l]
 have dm:=w.mapF (F:=fOf "due" h) (g:=λd=>.int d.due) λj d hs e=>by rw[fOf,Qc e,fl3];rfl
 refine WR.mono (Qe (h:=h) (xs:=vs) (chk:=λ_=>True) (f:=fOf "due" h) ?_ 00 (λ_ _=>trivial) ?_) ?_
 ·simp![true_and]
 ·intro v hv h2 q
  obtain⟨d,_,j,hs,rfl,e⟩:=w.of hv
  simp![Jdu,Qc<|q _ _ e,fl3,fOf,Qc e,ZdQ]
  exact .refl _
 ·rintro _ _ ⟨rfl,g,rfl⟩
  rw[dm]
  have em:ds.map (λd=>IV.int d.due)=(ds.map (·.due)).map IV.int:=03
  rw[em]
  have x1:Ex h (h++IX.lst ((ds.map (·.due)).map IV.int)::g):=.cons _ _ _
  refine⟨_,rfl,_,J4,_,Vy _,?_⟩
  have et:maxD (ds.map (·.due)) (.int 0)=.int (topD ds):=by
   unfold maxD topD
   split<;>rfl
  rw[et]
  generalize h++IX.lst ((ds.map (·.due)).map IV.int)::g=h1 at x1
  have w1:=w.kp x1.kp
  simp![Jgc]
  have rm:=w1.mapF (F:=rOf (topD ds) h1) (g:=λd=>.int<|rup (topD ds+d.late) d.gap) λj d hs e=>by rw[rOf,Qc e,Qc e,fl4,fl1]
  refine WR.mono (Qe (h:=h1) (xs:=vs) (chk:=λ_=>True) (f:=rOf (topD ds) h1) ?_ 00 (λ_ _=>trivial) ?_) ?_
  ·simp![true_and]
  ·intro v hv h2 q
   obtain⟨d,hd,j,hs,rfl,e⟩:=w1.of hv
   have e2:=q _ _ e
   simp only[Z1,Zbi,Za8,Za9,ZbN]
   simp![Jdv,Qc e2,fl4,fl1,Jmh (hg d hd).1 (hg d hd).2]
   exact⟨by rw[rOf,Qc e,Qc e,fl4,fl1],.refl _⟩
  ·rintro _ _ ⟨rfl,g2,rfl⟩
   rw[rm]
   have em2:ds.map (λd=>IV.int<|rup (topD ds+d.late) d.gap)=(ds.map λd=>rup (topD ds+d.late) d.gap).map IV.int:=03
   rw[em2]
   simp![Jui,J4,Vy]
   exact⟨rfl,x1.trans<|.cons _ _ _⟩
abbrev dfs(vs:Tq):Wl:=[("works",.tup vs)]
theorem dp0:putI "works" a ([]:Wl)=([("works",a)]:Wl):=02
theorem dl0:(([("works",a)]:Wl)).lookup ("works":Str)=Za a:=02
theorem dlw:(([("works",a)]:Wl)).lookup ("work":Str)=Zc:=02
theorem Jrz{vs:Tq}{ds:List WD}{i:Nat}(hi:h[i]?=Za (.lst vs))(w:AllW h vs ds)(nd:(ds.map (·.name)).Nodup)(hl:ds.length<=12)(hg:∀d∈ds,0<d.gap/\d.gap.natAbs.log2<9000)(hc:Jop ds<=80):
  WR (Jbu (k+3) [.ref h.length,.ref i]<|h++[.ins "Duty" []]) λv h'=>v=.non/\∃g,h'=h++.ins "Duty" (dfs vs)::g:=by
 have wl:=w.len
 rw[Jls]
 simp![Jem,Xf]
 refine WR.mono (Jmf (grow hi) (w.kp (Ex.one h _).kp) nd 00) ?_
 rintro _ _ ⟨rfl,g1,rfl⟩
 refine⟨_,_,_,rfl,grow Jm,01,?_⟩
 rw[dp0,Zac,Zaf,Zaw,XZ]
 simp![Jen,Qc<|J4 (h:=h),dl0,wl]
 refine⟨λq=>?_,λ_=>?_⟩
 ·rw[decide_eq_true_eq]at q
  omega
 simp![Jeo,Qc<|J4 (h:=h),dl0]
 refine WR.mono (Juv (w.kp (Ex.cons h _ _).kp) 00 hg) ?_
 rintro _ _ ⟨rfl,g2,rfl⟩
 simp![true_and]
 refine⟨λq=>?_,λ_=>⟨g1++g2,03⟩⟩
 rw[decide_eq_true_eq]at q
 omega
theorem Jhp(hD:h[D]?=Za (.ins "Duty"<|dfs vs))(hx:atI vs n=Za x):Jd2 (k+1) [.ref D,.int n] h=.ok x h:=by
 refine Js ?_
 rw[Jlu]
 simp![Jeq,Qc hD,dl0,hx]
end
theorem Jxx(hb:0<b)(h:a<=m*b):rup a b<=m:=by
 unfold rup
 have:(a+b-1)/b<m+1:=by
  rw[Int.ediv_lt_iff_lt_mul hb,Zdd]
  omega
 omega
theorem Jtr(m:Int):∀l:Tk,(∀x∈l,x<=m)->l.sum<=l.length*m
 |[],_=>03
 |x::l,q=>by
  have:=Jtr m l λy hy=>q y<|Zp _ hy
  have:=q x<|Zy ..
  rw[Zbk,ZA,Zej,Zdd]
  simp
  omega
theorem Jkb{a b K:Nat}(h:a<=b)(hb:b.log2<K):a.log2<K:=by
 by_cases ha:a=0
 ·subst ha
  exact Nat.lt_of_le_of_lt (ZR _) hb
 ·have hb0:b≠0:=00
  rw[Nat.log2_lt ha]
  exact Nat.lt_of_le_of_lt h<|(Nat.log2_lt hb0).mp hb
abbrev RH:=WD×Tr
abbrev _root_.Ts:=List RH
noncomputable def rd:RH:=⟨⟨⟨#[]⟩,0,0,0,0⟩,[]⟩
abbrev wo(r:RH):IX:=.ins "Work"<|wfs r.1.name r.1.gap r.1.len r.1.due r.1.late<|r.2.map tupH
structure AllH(h:IH)(vs:Tq)(rs:Ts):Prop where
 len:vs.length=rs.length
 at_:∀(i:Nat) v r,vs[i]?=Za v->rs[i]?=Za r->∃j,v=.ref j/\h[j]?=Za (wo r)
theorem AllH.kp(k:Kp h h')(w:AllH h vs rs):AllH h' vs rs:=⟨w.len,λi v r a b=>let ⟨j,e,g⟩:=w.at_ i v r a b;⟨j,e,k _ _ g⟩⟩
theorem AllH.w{h:IH}{vs:Tq}{rs:Ts}(w:AllH h vs rs):AllW h vs (rs.map (·.1)):=by
 refine⟨by rw[Zg];exact w.len,λi v d a b=>?_⟩
 rw[Z4]at b
 cases er:rs[i]? with
 |none=>rw[er]at b;cases b
 |some r=>
  rw[er]at b
  cases b
  obtain⟨j,e,g⟩:=w.at_ i v r a er
  exact⟨j,_,e,g⟩
theorem AllH.get(w:AllH h vs rs){n:Nat}(e:rs[n]?=Za r):∃j,vs[n]?=Za (.ref j)/\h[j]?=Za (wo r):=by
 have hn:n<vs.length:=by rw[w.len];exact(Zr.mp e).1
 obtain⟨j,e1,g⟩:=w.at_ n _ r (Zb hn) e
 exact⟨j,by rw[Zb hn,e1],g⟩
structure F8(unit:Int)(r:RH):Prop where
 nm:IsNm r.1.name
 g1:unit<=r.1.gap
 g2:r.1.gap<9*unit
 l1:1<=r.1.len
 d1:1<=r.1.due
 d2:r.1.due<=r.1.gap
 t1:0<=r.1.late
 t2:r.1.late<2*r.1.gap
 ok:HsOk r.1.len r.2
structure Gd(unit:Int)(rs:Ts):Prop where
 u1:1<=unit
 u2:unit<=10^40
 few:rs.length<=12
 sm:rs.length<=7∨∀r∈rs,r.1.gap<3*unit
 f:∀r∈rs,F8 unit r
 nd:(rs.map λr=>r.1.name).Nodup
theorem J15{unit:Int}{rs:Ts}(G:Gd unit rs):Jop (rs.map (·.1))<=80:=by
 have hu:=G.u1
 have hf:=G.f
 have hl:=G.few
 have key:∀K T:Int,unit<=K->(∀r∈rs,r.1.gap<K)->(∀r∈rs,K+2*r.1.gap<=T*r.1.gap)->Jop (rs.map (·.1))<=rs.length*T:=λK T hK hg hT=>by
  have ht:topD (rs.map (·.1))<=K:=by
   unfold topD
   split
   ·omega
   ·rename_i hne
    refine Jpd _ _ _ (by rw[Zg,Zg];cases rs with|nil=>exact absurd rfl hne|cons _ _=>simp) λj hj=>?_
    rw[Zg,Zg]at hj
    have e:((rs.map (·.1)).map (·.due)).getD j 0=(rs[j]).1.due:=by
     rw[Zi,Z4,Z4,Zb hj];rfl
    have f1:=(hf _<|Zw hj).d2
    have f2:=hg _<|Zw hj
    show((rs.map (·.1)).map (·.due)).getD j 0<=_
    rw[e]
    omega
  have:=Jtr T ((rs.map (·.1)).map λd=>rup (topD (rs.map (·.1))+d.late) d.gap) λx hx=>by
   obtain⟨d,hd,rfl⟩:=Zz.mp hx
   obtain⟨r,hr,rfl⟩:=Zz.mp hd
   have f1:=(hf r hr).g1
   have f2:=(hf r hr).t2
   have f3:=hT r hr
   exact Jxx 00 00
  rw[Zg,Zg]at this
  exact this
 rcases G.sm with h7|h3
 ·have:=key (9*unit) 11 00 (λr hr=>(hf r hr).g2) λr hr=>by have:=(hf r hr).g1;omega
  omega
 ·have:=key (3*unit) 5 00 h3 λr hr=>by have:=(hf r hr).g1;omega
  omega
theorem Gd.gl{unit:Int}{rs:Ts}(G:Gd unit rs):∀d∈rs.map (·.1),0<d.gap/\d.gap.natAbs.log2<9000:=λd hd=>by
 obtain⟨r,hr,rfl⟩:=Zz.mp hd
 have f:=G.f r hr
 have f1:=f.g1
 have f2:=f.g2
 have u1:=G.u1
 have u2:=G.u2
 refine⟨00,Jkb (b:=9*10^40) ?_<|by decide +kernel⟩
 have e:((10^40:Nat):Int)=10^40:=by decide +kernel
 clear G f
 generalize (10^40:Int)=y at *
 generalize (10^40:Nat)=z at *
 omega
def IsDu(h:IH)(D:Nat)(rs:Ts):Prop:=∃vs,h[D]?=Za (.ins "Duty"<|dfs vs)/\AllH h vs rs
theorem IsDu.kp(k:Kp h h')(w:IsDu h D rs):IsDu h' D rs:=let ⟨vs,a,b⟩:=w;⟨vs,k _ _ a,b.kp k⟩
section
variable{k:Nat}{h:IH}
theorem J45(hi:h[i]?=Za (.lst vs))(w:AllH h vs rs)(G:Gd unit rs):
  WR (Jbu (k+3) [.ref h.length,.ref i]<|h++[.ins "Duty" []]) λv h'=>v=.non/\Ex h h'/\IsDu h' h.length rs:=by
 have hl:=G.few
 refine WR.mono (Jrz hi w.w (by have:=G.nd;rwa [Zai]) (by rw[Zg];omega) G.gl<|J15 G) ?_
 rintro _ _ ⟨rfl,g,rfl⟩
 exact⟨rfl,.cons _ _ _,vs,J4,w.kp (Ex.cons _ _ _).kp⟩
end
section
seal L4.run L4.WS
section
variable{k:Nat}{h:IH}
theorem e45(σ:ISt)(h:IH):Jc JK (eC<|.int 10) (eC<|.int 45) σ h=.ok (.int<|10^45) h:=Js (by
 rw[VJ,Qw,Qw,Xe]
 exact⟨01,rfl,rfl⟩)
theorem e30(σ:ISt)(h:IH):Jc JK (eC<|.int 10) (eC<|.int 30) σ h=.ok (.int<|10^30) h:=Js (by
 rw[VJ,Qw,Qw,Xe]
 exact⟨01,rfl,rfl⟩)
theorem e18(σ:ISt)(h:IH):Jc Jl (Jc JK (eC<|.int 10)<|eC<|.int 18) '9' σ h=.ok (.int 1000000000000000009) h:=Js (by
 rw[VJ,VJ,Qw,Qw,Xe]
 refine⟨01,?_⟩
 rw[Qw,Jpl]
 exact⟨congrArg IV.int (by decide +kernel),rfl⟩)
theorem Jtq(c:Int)(m:Nat)(hm:m<=40):WR (Jcs (k+1) [.int c,.int m] h) λv h'=>∃(i:Nat)(xs:Tk),v=.ref i/\h.length<=i/\h'[i]?=Za (.lst<|xs.map .int)/\xs.length=m/\(∀x∈xs,(0:Int)<=x/\x<10^45)/\Ex h h':=by
 have hb:=J2
 have p45:(0:Int)<10^45:=by decide +kernel
 have le:(1000000000000000009:Int)<=10^45:=by decide +kernel
 obtain⟨T,eT⟩:∃T:Int,∀σ h,Jc JK (eC<|.int 10) (eC<|.int 30) σ h=.ok (.int T) h:=⟨_,e30⟩
 obtain⟨G,eG,gG⟩:∃G:Int,(∀σ h,Jc Jl (Jc JK (eC<|.int 10)<|eC<|.int 18) '9' σ h=.ok (.int G) h)/\G=1000000000000000009:=⟨_,e18,rfl⟩
 obtain⟨F,eF,F0,Fl,Fe⟩:∃F:Int,(∀σ h,Jc JK (eC<|.int 10) (eC<|.int 45) σ h=.ok (.int F) h)/\0<F/\F.natAbs.log2<9000/\F=10^45:=⟨_,e45,p45,by decide +kernel,rfl⟩
 rw[<-Fe]at le ⊢
 clear Fe p45
 rw[Jj5]
 refine xfin<|xseq<|xset<|Je (lstE rfl rfl)<|xseq<|xifd (geE rfl (eT _ _)) (λ_=>xseq<|xset<|Je (subE rfl (eT _ _))<|xseq<|xrng rfl 00 ?_) λ_=>xnil<|xseq<|xset<|Je (addE (modE rfl (eG _ _) 00) rfl)<|xseq<|xrng (n:=m+2) (okc (addE rfl rfl) rfl) 00 ?_
 ·refine Qo (λn σ h'=>∃xs rest a b,h'=h++[.lst<|xs.map IV.int]/\σ=[Za<|.int c,Za<|.int (m:Int),Za<|.ref h.length,Za<|.int rest,a,b]/\xs.length=n/\∀x∈xs,(0:Int)<=x/\x<F)
   (λ_ _ _ _=>trivial) ?_ ?_ ⟨[],_,_,_,rfl,rfl,rfl,03⟩
  ·rintro n hn _ _ ⟨xs,rest,a,b,rfl,rfl,lx,hx⟩
   rw[Qa]at hn
   have e1:=ZP rest (b:=F) 00
   have e2:=ZL rest F0
   refine xnx rfl (xseq<|Qx<|QK rfl Jm X3 (Je (arg1<|modE rfl (eF _ _) F0)<|xapp Jm (by rw[Zg];omega)<|xset<|Je (Q2 rfl (eF _ _) F0 Fl) ⟨xs++[rest%F],_,_,_,?_,rfl,by simp[lx],λx hxx=>?_⟩))
   ·rw[Xr]
    simp
   ·rw[ZK,Zx]at hxx
    rcases hxx with hxx|rfl
    ·exact hx x hxx
    ·exact⟨e1,e2⟩
  ·rintro _ _ ⟨xs,rest,a,b,rfl,rfl,lx,hx⟩
   rw[Qa]at lx
   exact xret<|Je rfl ⟨_,xs,rfl,Zm _,Jm,00,hx,.one _ _⟩
 ·have s0:=ZP c (b:=G) 00
  have s1:=ZL c (b:=G) 00
  refine Qo (λn σ h'=>∃xs num a b,h'=h++[.lst<|xs.map IV.int]/\σ=[Za<|.int c,Za<|.int (m:Int),Za<|.ref h.length,a,b,Za<|.int num]/\(0<=num/\num<2000000000000000000)/\xs.length=n/\∀x∈xs,(0:Int)<=x/\x<G)
   (λ_ _ _ _=>trivial) ?_ ?_ ⟨[],_,_,_,rfl,rfl,00,rfl,03⟩
  ·rintro n hn _ _ ⟨xs,num,a,b,rfl,rfl,hnum,lx,hx⟩
   rw[Vk]
   rw[Qa]at hn
   have e1:=ZP (num*num+48271*num+(0+(n:Int))) (b:=G) 00
   have e2:=ZL (num*num+48271*num+(0+(n:Int))) (b:=G) 00
   refine xnx rfl (xseq<|xset<|Je (modE (addE (addE (mulE rfl rfl (.inl 00))<|mulE rfl rfl (.inl 01)) rfl) (eG _ _) 00)<|Qx<|QK rfl Jm X3 (Je (arg1 rfl)<|xapp Jm (by rw[Zg];omega) ⟨xs++[(num*num+48271*num+(0+(n:Int)))%G],_,_,_,?_,rfl,00,by simp[lx],λx hxx=>?_⟩))
   ·rw[Xr]
    simp
   ·rw[ZK,Zx]at hxx
    rcases hxx with hxx|rfl
    ·exact hx x hxx
    ·exact⟨e1,e2⟩
  ·rintro _ _ ⟨xs,num,a,b,rfl,rfl,hnum,lx,hx⟩
   rw[Qa]at lx
   refine xret<|(Vr ..).mpr<|Je rfl (Je rfl (Je rfl ((Xx ..).mpr ⟨_,Jm,?_⟩)))
   rw[show(Za (2:Int))=Za ((2:Nat):Int)from rfl,Jju,<-ZeB]
   refine⟨_,xs.drop 2,rfl,03,Jm,by simp;omega,λx hxx=>?_,(Ex.one _ _).trans<|.one _ _⟩
   have:=hx x<|List.mem_of_mem_drop hxx
   omega
end
end
section
variable{k:Nat}{h:IH}
mutual
theorem Jot:∀d:Zdg,d.canLay0=Zh->Zbv d d=Zh
 |.none,_=>by simp[Zbv]
 |.bool _,_=>by simp[Zbv]
 |.int _,_=>by simp[Zbv]
 |.str _,_=>by simp[Zbv]
 |.list xs,q=>by
  rw[Zbv]
  exact Jhr xs<|by rw[ZaC]at q;exact q
 |.tuple xs,q=>by
  rw[Zbv]
  exact Jhr xs<|by rw[ZaC]at q;exact q
 |.dict _,q=>by rw[ZaC]at q;cases q
theorem Jhr:∀ds:List Zdg,ZY ds=Zh->ZcW ds ds=Zh
 |[],_=>by rw[ZcW]
 |d::ds,q=>by
  rw[ZY,Zo]at q
  rw[ZcW,Jot d q.1,Jhr ds q.2]
  rfl
end
theorem Jks(e:h[i]?=Za (.lst xs)):toD h (n+1) (.ref i)=(xs.mapM<|toD h n).map ZcY:=by
 show(match h[i]? with|some (.lst xs)=>(xs.mapM<|toD h n).map ZcY|_=>Zc)=_
 rw[e]
theorem Jkc{f:IV->Option Zdg}{g:IV->Zdg}:∀{xs:Tq},(∀x∈xs,f x=Za (g x))->xs.mapM f=Za (xs.map g)
 |[],_=>rfl
 |x::xs,q=>by
  rw[ZcB,q x<|Zy ..,Jkc λy hy=>q y<|Zp _ hy]
  rfl
theorem Jst:∀{xs:Tq},(∀x∈xs,(g x).canLay0=Zh)->ZY (xs.map g)=Zh
 |[],_=>by rw[Zbi,ZY]
 |x::xs,q=>by
  rw[Z1,ZY,q x<|Zy ..,Jst λy hy=>q y<|Zp _ hy]
  rfl
end
section
seal L4.run
section
variable{k:Nat}{h:IH}
theorem Jnp:(ZS "abcdefghijklmnopqrstuvwxyz").cps.toList=(ZM 26).map (97+ ·):=by decide +kernel
theorem Jnq:(ZS "abcdefghijklmnopqrstuvwxyz").length=26:=by decide +kernel
theorem Jsw(h0:0<=n)(h1:n<26):WR (Jf (.str "abcdefghijklmnopqrstuvwxyz") (.int n) h) Q=Q (.str ⟨#[97+n.toNat]⟩) h:=by
 have hb:=J2
 have e:atI (ZS "abcdefghijklmnopqrstuvwxyz").cps.toList n=Za (97+n.toNat):=by
  rw[Jnp]
  refine Jjg h0 ?_
  rw[Z4,List.getElem?_range 00]
  rfl
 simp only[Jf]
 rw[if_pos (by rw[Jnq];omega),e]
 rfl
theorem J0z(l m:Tl):(⟨l.toArray⟩:Str)++(⟨m.toArray⟩:Str)=⟨(l++m).toArray⟩:=by
 show Str.append _ _=_
 unfold Str.append
 simp
theorem YK(l:Tl):(⟨l.toArray⟩:Str).length=l.length:=by simp[ZdY]
theorem Jr0:(ZS "")=(⟨([]:Tl).toArray⟩:Str):=by decide +kernel
noncomputable def wSz (c:Int):Int:=1+c%8
def wAt(c:Int):Int:=c/8%wSz c
def wB(c:Int):Tl:=(ZM (wSz c).toNat).map λj:Nat=>97+(c/(11+(j:Int)*(j:Int))%26).toNat
def wL(c:Int)(q:Nat):Tl:=((wB c).take (wAt c).toNat++[97+((c/64+(q:Int))%26).toNat])++(wB c).drop ((wAt c).toNat+1)
def wd(c:Int)(q:Nat):Str:=⟨(wL c q).toArray⟩
theorem w_at(c:Int):0<wSz c/\wSz c<=8/\0<=wAt c/\wAt c<wSz c:=by
 have hs:0<wSz c/\wSz c<=8:=by unfold wSz;omega
 exact⟨hs.1,hs.2,ZP _ 00,ZL _ hs.1⟩
theorem Jyd(c:Int):(wB c).length=(wSz c).toNat:=by simp[wB]
theorem Jye(c:Int)(q:Nat):(wL c q).length=(wSz c).toNat:=by
 have:=w_at c
 simp[wL,Jyd]
 omega
theorem Jtz(c:Int)(q:Nat):IsNm (wd c q):=by
 have hs:=w_at c
 refine⟨?_,?_,?_⟩
 ·rw[wd,YK,Jye];omega
 ·rw[wd,YK,Jye];omega
 ·intro x hx
  have hx:x∈wL c q:=by simpa[wd]using hx
  have hB:∀x∈wB c,97<=x/\x<=122:=λx hx=>by
   obtain⟨j,_,rfl⟩:=Zz.mp hx
   have h1:=ZP (c/(11+(j:Int)*(j:Int))) (b:=26) 01
   have h2:=ZL (c/(11+(j:Int)*(j:Int))) (b:=26) 01
   omega
  have h1:=ZP (c/64+(q:Int)) (b:=26) 01
  have h2:=ZL (c/64+(q:Int)) (b:=26) 01
  simp only[wL,ZK,Zx]at hx
  rcases hx with(hx|rfl)|hx
  ·exact hB x<|ZaV hx
  ·omega
  ·exact hB x<|List.mem_of_mem_drop hx
theorem Jyf(hp:p<26)(hq:q<26)(e:wd c p=wd c q):p=q:=by
 have e1:wL c p=wL c q:=by
  have:(wL c p).toArray=(wL c q).toArray:=congrArg Str.cps e
  simpa using this
 have h1:=ZP (c/64+(p:Int)) (b:=26) 01
 have h2:=ZP (c/64+(q:Int)) (b:=26) 01
 have e2:(97+((c/64+(p:Int))%26).toNat)=97+((c/64+(q:Int))%26).toNat:=by
  unfold wL at e1
  have:=List.append_cancel_right e1
  have:=List.append_cancel_left this
  simpa using this
 omega
noncomputable def lOf (c:Int)(v:IV):IV:=match v with
 |.int j=>.str ⟨#[97+(c/(11+j*j)%26).toNat]⟩
 |_=>.non
theorem Jq1(l:Tl):Q9 (l.map λx=>IV.str ⟨#[x]⟩)=Za (Zb2 ⟨l.toArray⟩):=by
 have:=Jkp<|Zb2 ⟨l.toArray⟩
 rw[<-this]
 simp[Zb2]
 rfl
theorem Jzo{l:Tl}(hl:l.length<=8):JoinOk (ZS "") (Zb2 ⟨l.toArray⟩)=Zh:=by
 have hb:=J2
 have e0:(ZS "").length=0:=by decide +kernel
 have:∀(m:Tl) (a:Nat),(m.map λx=>(⟨#[x]⟩:Str)).foldl (λn (x:Str)=>n+x.length+(ZS "").length) a=a+m.length:=by
  intro m
  induction m with
  |nil=>intro a;rfl
  |cons x m ih=>
   intro a
   rw[Z1,List.foldl_cons,ih,e0]
   simp[ZdY]
   omega
 have e:(Zb2 ⟨l.toArray⟩).foldl (λn (x:Str)=>n+x.length+(ZS "").length) 0=0+l.length:=this l 0
 unfold JoinOk Builtin.Str.tooLong
 rw[List.foldl_toArray]
 simp only[ZaN,decide_eq_false_iff_not]
 omega
theorem letE(ea:a σ h=.ok (.str "abcdefghijklmnopqrstuvwxyz") h1)(eb:b σ h1=.ok (.int n) h1)(n0:0<=n)(n1:n<26):Jc Jf a b σ h=.ok (.str ⟨#[97+n.toNat]⟩) h1:=by
 rw[binE ea eb]
 exact Js<|by rw[Jsw n0 n1];exact⟨rfl,rfl⟩
theorem slE(ea:a σ h=.ok (.str x) h)(el:lo σ h=.ok l h)(eu:hi σ h=.ok u h)(z:x.length<=8)(e:Ze4 x l u=y):eSl slT a lo hi σ h=.ok (.str y) h:=by
 have hb:=J2
 refine Js<|(Vr ..).mpr<|Je ea<|Je el<|Je eu ?_
 rw[J1r,e]
 exact⟨00,rfl,rfl⟩
theorem strE{x y:Tl}(ea:a σ h=.ok (.str ⟨x.toArray⟩) h)(eb:b σ h=.ok (.str ⟨y.toArray⟩) h)(z:x.length+y.length<=9):Jc Jl a b σ h=.ok (.str ⟨(x++y).toArray⟩) h:=by
 have hb:=J2
 rw[binE ea eb]
 refine Js ?_
 rw[Jkx,J0z,YK,YK]
 exact⟨00,rfl,rfl⟩
theorem Jt0(c:Int)(q:Nat):WR (Jdd (k+1) [.int c,.int q] h) λv h'=>v=.str (wd c q)/\Ex h h':=by
 have hb:=J2
 have hs:=w_at c
 have bl:=Jyd c
 have sl:(⟨(wB c).toArray⟩:Str).length=(wB c).length:=YK _
 rw[Jnk]
 refine xfin (xseq<|xset<|Je rfl (xseq<|xset<|Je (a:=.int<|wSz c) (addE rfl (modE rfl rfl 01))<|xseq<|xset<|(J1d (x:=ZS "") (h1:=h) rfl Jyu).mpr<|xb<|WR.mono (Qe (h:=h) (xs:=rngI 0<|wSz c) (chk:=λ_=>True) (f:=lOf c) ?_ (by rw[Qa];omega) (λ_ _=>trivial) ?_) ?_))
 ·rw[VL]
  refine Je (arg1 rfl) ?_
  rw[Xw]
  exact⟨00,rfl,rfl,rfl⟩
 ·intro x hx h2 k2
  obtain⟨n,hn,rfl⟩:=ZO.mp hx
  rw[Vk,show(0+(n:Int))=(n:Int) by omega]
  rw[Qa]at hn
  have hn8:n<8:=00
  have sq:(n:Int)*(n:Int)<=49/\0<=(n:Int)*(n:Int):=by
   obtain rfl|rfl|rfl|rfl|rfl|rfl|rfl|rfl:n=0∨n=1∨n=2∨n=3∨n=4∨n=5∨n=6∨n=7:=00
   all_goals decide
  unfold Jdy
  exact Je (letE rfl (modE (Q2 rfl (addE rfl (mulE rfl rfl (.inl 00))) 00 (Jkb (b:=60) 00 01)) rfl 01) (ZP _ 01) (ZL _ 01)) ⟨rfl,.refl _⟩
 ·rintro _ _ ⟨rfl,g,rfl⟩
  have em:(rngI 0<|wSz c).map (lOf c)=(wB c).map λx=>IV.str ⟨#[x]⟩:=by
   rw[wB,Zai]
   refine Zbz (by rw[Zg,Zg,Qa,ZbB];omega) λi h1 h2=>?_
   rw[ZG,Vk,ZG,Zcw]
   simp[lOf]
  rw[em]
  have x1:Ex h (h++IX.lst ((wB c).map λx=>IV.str ⟨#[x]⟩)::g):=.cons _ _ _
  have g1:(h++IX.lst ((wB c).map λx=>IV.str ⟨#[x]⟩)::g)[h.length]?=Za (.lst<|(wB c).map λx=>IV.str ⟨#[x]⟩):=J4
  generalize h++IX.lst ((wB c).map λx=>IV.str ⟨#[x]⟩)::g=h1 at x1 g1
  have jn:Txt.join (ZS "") (Zb2 ⟨(wB c).toArray⟩)=⟨(wB c).toArray⟩:=by rw[Jr0];exact(StrLaws.glued_eq_join _ _).trans<|PyProof.Rows.join_nil_signs _
  have s1:Ze4 ⟨(wB c).toArray⟩ Zc (Za<|wAt c)=⟨((wB c).take (wAt c).toNat).toArray⟩:=by
   have:=beq_iff_eq.mp (PyProof.Rows.slice_closes_toL (x:=⟨(wB c).toArray⟩) (j:=wAt c) hs.2.2.1<|by rw[sl,bl];omega)
   rw[this]
   simp
  have s2:Ze4 ⟨(wB c).toArray⟩ (Za<|wAt c+1) Zc=⟨((wB c).drop<|(wAt c).toNat+1).toArray⟩:=by
   have:=beq_iff_eq.mp (PyProof.Rows.slice_closes_fromL (x:=⟨(wB c).toArray⟩) (i:=wAt c+1) 00 (by rw[sl,bl];omega) rfl)
   rw[this]
   have e1:(wAt c+1).toNat=(wAt c).toNat+1:=00
   rw[e1,Za1 (by rw[ZaF];show _<=((⟨(wB c).toArray⟩:Str).length-(wAt c+1)).toNat;rw[sl];simp;omega)]
  have l8:(⟨(wB c).toArray⟩:Str).length<=8:=00
  have t8:=List.length_take_le (wAt c).toNat<|wB c
  have d8:((wB c).drop<|(wAt c).toNat+1).length<=8-(wAt c).toNat-1:=by rw[ZaF];omega
  refine Je rfl (J1h.mpr ⟨_,g1,_,Jq1 _,Jzo (show(wB c).length<=8 by omega),?_⟩)
  rw[jn]
  refine xseq<|xset<|Je (a:=.int<|wAt c) (modE (Q2 rfl rfl 01 01) rfl hs.1)<|xret<|Je (strE (strE (slE rfl rfl rfl l8 s1) (letE rfl (modE (addE (Q2 rfl rfl 01 01) rfl) rfl 01) (ZP _ 01) (ZL _ 01)) ?_) (slE rfl rfl rfl l8 s2) ?_) ⟨rfl,x1⟩
  ·simp;omega
  ·simp;omega
end
end
section
seal L4.run
theorem at_x{xs:Tk}{n:Nat}(hn:n<xs.length):∃x,atI (xs.map IV.int) (n:Int)=Za (.int x):=
 ⟨xs[n],JE<|by rw[Z4,Zb hn];rfl⟩
theorem XF{cand:Tr}(hc:cand.length<=2)(each:∀a∈cand,IsNm a.1/\0<=a.2.1/\a.2.2<len)(tog:∀a b,cand=[a,b]->Tog b a):HsOk len (cand.filter λa=>decide (a.2.1<a.2.2)):=by
 refine⟨ZW (Za6 _ _) 00,λa ha=>?_,λm n hm hn=>?_⟩
 ·obtain⟨h1,h2⟩:=Za3.mp ha
  obtain⟨e1,e2,e3⟩:=each a h1
  exact⟨e1,e2,by simpa using h2,e3⟩
 ·have ln:=Za6 (λa:Hd=>decide (a.2.1<a.2.2)) cand
  cases cand with
  |nil=>simp at hn
  |cons a t=>
   cases t with
   |nil=>simp at ln;omega
   |cons b t=>
    cases t with
    |cons _ _=>simp only[ZA]at hc;omega
    |nil=>
     have e:[a,b].filter (λa:Hd=>decide (a.2.1<a.2.2))=[a,b]:=by
      refine Zdn.mpr λx hx=>?_
      by_cases ea:a.2.1<a.2.2
      ·by_cases eb:b.2.1<b.2.2
       ·simp only[Z6,ZF,or_false]at hx
        rcases hx with rfl|rfl<;>simpa
       ·simp[ea,eb]at hn;omega
      ·by_cases eb:b.2.1<b.2.2<;>simp[ea,eb]at hn<;>omega
     have hm0:m=0/\n=1:=by
      rw[e]at hn
      simp at hn
      omega
     obtain⟨rfl,rfl⟩:=hm0
     simp only[e]
     exact tog a b rfl
section
variable{k:Nat}{h:IH}
theorem Jws{i:Nat}{ms:Tk}(hi:h[i]?=Za (.lst<|ms.map .int))(hl:ms.length<64):Yb (.ref i) h=.ok (.ref h.length) (h++[.lst<|(Vn ms).map .int]):=by
 dsimp only[Yb]
 rw[hi]
 dsimp only
 rw[if_pos<|by rw[Zg];exact hl]
 unfold srtI
 rw[Vy]
theorem J6g{ms:Tk}(hl:ms.length=4)(hm:∀x∈ms,0<=x/\x<len):∃p0 p1 p2 p3:Int,Vn ms=[p0,p1,p2,p3]/\0<=p0/\p0<=p1/\p1<=p2/\p2<=p3/\p3<len:=by
 have pw:=Jo9 ms
 have l:(Vn ms).length=4:=by rw[Vn,List.length_mergeSort];exact hl
 have mem:∀x∈Vn ms,0<=x/\x<len:=λx hx=>hm x<|List.mem_mergeSort.mp hx
 match Vn ms,l,pw,mem with
 |[p0,p1,p2,p3],_,pw,mem=>
  simp only[ZbS,Z6,ZF,or_false]at pw
  obtain⟨a,b,c,_⟩:=pw
  have m0:=mem p0 03
  have m3:=mem p3 03
  exact⟨p0,p1,p2,p3,rfl,m0.1,a p1<|.inl rfl,b p2<|.inl rfl,c p3 rfl,m3.2⟩
noncomputable def J18 (v:IV):Bool:=match v with
 |.tup [_,.int s,.int e]=>decide (s<e)
 |_=>Zk
theorem Jr6(cand:Tr):(cand.map tupH).filter J18=(cand.filter λa=>decide (a.2.1<a.2.2)).map tupH:=by
 rw[List.filter_map]
 rfl
noncomputable def way6 (one other:Str)(p0 p1 p2 p3:Int):Nat->Tr
 |0=>[]
 |1=>[(one,p0,p3)]
 |2=>[(one,p0,p3),(other,p1,p2)]
 |3=>[(other,p1,p2),(one,p0,p3)]
 |4=>[(one,p0,p1),(other,p2,p3)]
 |_=>[(one,p2,p3),(one,p0,p1)]
theorem J07(n:Nat)(h1:IsNm one)(h2:IsNm other)(ne:one≠other)(a0:0<=p0)(a1:p0<=p1)(a2:p1<=p2)(a3:p2<=p3)(a4:p3<len):HsOk len ((way6 one other p0 p1 p2 p3 n).filter λa=>decide (a.2.1<a.2.2)):=by
 match n with
 |0=>exact XF (by simp[way6]) (by simp[way6])<|by simp[way6]
 |1=>
  refine XF (by simp[way6]) (λa ha=>?_)<|by simp[way6]
  simp only[way6,Z6,ZF,or_false]at ha
  subst ha
  exact⟨h1,a0,a4⟩
 |2=>
  refine XF (by simp[way6]) (λa ha=>?_) λa b e=>?_
  ·simp only[way6,Z6,ZF,or_false]at ha
   rcases ha with rfl|rfl
   ·exact⟨h1,a0,a4⟩
   ·exact⟨h2,by show 0<=p1;omega,by show p2<len;omega⟩
  ·simp only[way6,Zbw,and_true]at e
   obtain⟨rfl,rfl⟩:=e
   exact .inr<|.inr ⟨Zab ne,.inl ⟨a1,a3⟩⟩
 |3=>
  refine XF (by simp[way6]) (λa ha=>?_) λa b e=>?_
  ·simp only[way6,Z6,ZF,or_false]at ha
   rcases ha with rfl|rfl
   ·exact⟨h2,by show 0<=p1;omega,by show p2<len;omega⟩
   ·exact⟨h1,a0,a4⟩
  ·simp only[way6,Zbw,and_true]at e
   obtain⟨rfl,rfl⟩:=e
   exact .inr<|.inr ⟨ne,.inr ⟨a1,a3⟩⟩
 |4=>
  refine XF (by simp[way6]) (λa ha=>?_) λa b e=>?_
  ·simp only[way6,Z6,ZF,or_false]at ha
   rcases ha with rfl|rfl
   ·exact⟨h1,a0,by show p1<len;omega⟩
   ·exact⟨h2,by show 0<=p2;omega,a4⟩
  ·simp only[way6,Zbw,and_true]at e
   obtain⟨rfl,rfl⟩:=e
   exact .inr<|.inl a2
 |n+5=>
  refine XF (by simp[way6]) (λa ha=>?_) λa b e=>?_
  ·simp only[way6,Z6,ZF,or_false]at ha
   rcases ha with rfl|rfl
   ·exact⟨h1,by show 0<=p2;omega,a4⟩
   ·exact⟨h1,a0,by show p1<len;omega⟩
  ·simp only[way6,Zbw,and_true]at e
   obtain⟨rfl,rfl⟩:=e
   exact .inl a2
theorem Jze{C:IH}{X O i0 i1 i2 i3 i4 i5:Nat}{xs:Tk}{one other:Str}{p0 p1 p2 p3 y6:Int}{a1 a2 a3 a4 a5:Tb}(c0:C[i0]?=Za (.lst []))(c1:C[i1]?=Za (.lst [tupH (one,p0,p3)]))(c2:C[i2]?=Za (.lst [tupH (one,p0,p3),tupH (other,p1,p2)]))(c3:C[i3]?=Za (.lst [tupH (other,p1,p2),tupH (one,p0,p3)]))
  (c4:C[i4]?=Za (.lst [tupH (one,p0,p1),tupH (other,p2,p3)]))(c5:C[i5]?=Za (.lst [tupH (one,p2,p3),tupH (one,p0,p1)]))(cO:C[O]?=Za (.lst [.ref i0,.ref i1,.ref i2,.ref i3,.ref i4,.ref i5]))(hX:C[X]?=Za (.lst<|xs.map .int))(e6:atI (xs.map IV.int) 6=Za (.int y6)){N:ISt->IH->Prop}:
  WS (Jev k [Za<|.ref X,a1,a2,a3,a4,a5,Za<|.ref O] C) N λv h'=>∃q n,v=.ref q/\C.length<=q/\h'[q]?=Za (.lst<|((way6 one other p0 p1 p2 p3 n).filter λa=>decide (a.2.1<a.2.2)).map tupH)/\Ex C h':=by
 have hb:=J2
 have pick:∃(n m:Nat),atI [IV.ref i0,IV.ref i1,IV.ref i2,IV.ref i3,IV.ref i4,IV.ref i5] (y6%6)=Za (.ref m)/\C[m]?=Za (.lst<|(way6 one other p0 p1 p2 p3 n).map tupH):=by
  have:y6%6=0∨y6%6=1∨y6%6=2∨y6%6=3∨y6%6=4∨y6%6=5:=00
  rcases this with e|e|e|e|e|e<;>rw[e]
  ·exact⟨0,i0,Qb,c0⟩
  ·exact⟨1,i1,JN,c1⟩
  ·exact⟨2,i2,Qk,c2⟩
  ·exact⟨3,i3,QO,c3⟩
  ·exact⟨4,i4,Vv,c4⟩
  ·exact⟨5,i5,JE (n:=5) rfl,c5⟩
 obtain⟨n,m,em,gm⟩:=pick
 have ln:(way6 one other p0 p1 p2 p3 n).length<=2:=by
  match n with
  |0|1|2|3|4|n+5=>simp[way6]
 refine xret (WR.mono (YU (h:=C) (xs:=(way6 one other p0 p1 p2 p3 n).map tupH) (chk:=λh'=>h'[m]?=Za (.lst<|(way6 one other p0 p1 p2 p3 n).map tupH)) (p:=J18) (f:=λv=>v) ?_ (by rw[Zg];omega) (λh2 q=>q _ _ gm) ?_ ?_) ?_)
 ·rw[JU]
  exact Je (ixlE rfl (modE (ixlE rfl rfl hX e6) rfl 01) cO em)<|(JM _).mpr ⟨_,gm,rfl,rfl,rfl⟩
 ·intro v hv h2 q
  obtain⟨a,_,rfl⟩:=Zz.mp hv
  unfold Jc1
  exact Je (ltE (ixtE rfl rfl rfl)<|ixtE rfl rfl rfl) ⟨rfl,.refl _⟩
 ·intro v hv _ h2 q
  exact⟨rfl,.refl _⟩
 ·rintro _ _ ⟨rfl,g,rfl⟩
  refine⟨_,n,rfl,Zm _,?_,.cons _ _ _⟩
  rw[J4,List.map_id',Jr6]
theorem xbin{f:IV->IV->IH->Res IV}{a b:E1}{x y:IV}{σ:ISt}{h1 h2:IH}{P:IV->IH->Prop}(ea:a σ h=.ok x h1)(eb:b σ h1=.ok y h2)(q:WR (f x y h2) P):WR (Jc f a b σ h) P:=by rw[binE ea eb];exact q
theorem VI{C:IH}{σ:ISt}{Pp s:Nat}{ps:Tq}{w:Str}{a b x y:Int}(gP:C[Pp]?=Za (.lst ps))(e3:Ja 3 σ C=.ok (.ref Pp) C)(ew:Ja s σ C=.ok (.str w) C)(ea:atI ps a=Za (.int x))(eb:atI ps b=Za (.int y)):
  JG (Jb (Ja s)<|Jb (Jc Jf 'd'<|eC<|.int a)<|Jb (Jc Jf 'd'<|eC<|.int b) Jd) σ C=.ok (tupH (w,x,y)) C:=tupE (arg3 ew (ixlE e3 rfl gP ea)<|ixlE e3 rfl gP eb) rfl
theorem Jzd{C:IH}{X O Pp i0 i1 i2 i3:Nat}{xs:Tk}{one other:Str}{p0 p1 p2 p3 y6:Int}{a1 a2:Tb}(c0:C[i0]?=Za (.lst []))(c1:C[i1]?=Za (.lst [tupH (one,p0,p3)]))(c2:C[i2]?=Za (.lst [tupH (one,p0,p3),tupH (other,p1,p2)]))(c3:C[i3]?=Za (.lst [tupH (other,p1,p2),tupH (one,p0,p3)]))
  (cO:C[O]?=Za (.lst [.ref i0,.ref i1,.ref i2,.ref i3]))(gP:C[Pp]?=Za (.lst [.int p0,.int p1,.int p2,.int p3]))(hX:C[X]?=Za (.lst<|xs.map .int))(e6:atI (xs.map IV.int) 6=Za (.int y6)){N:ISt->IH->Prop}:
  WS (Jeu k [Za<|.ref X,a1,a2,Za<|.ref Pp,Za<|.str one,Za<|.str other,Za<|.ref O] C) N λv h'=>∃q n,v=.ref q/\C.length<=q/\h'[q]?=Za (.lst<|((way6 one other p0 p1 p2 p3 n).filter λa=>decide (a.2.1<a.2.2)).map tupH)/\Ex C h':=by
 have hb:=J2
 refine xseq<|xset<|xbin rfl (lstE (arg2 (lstE (arg2 (VI gP rfl rfl rfl rfl)<|VI gP rfl rfl rfl rfl) rfl)<|lstE (arg2 (VI (grow gP) rfl rfl rfl rfl)<|VI (grow gP) rfl rfl rfl rfl) rfl) rfl) ?_
 refine(Jkw ..).mpr ⟨_,grow<|grow<|grow cO,_,Jm,by simp;omega,?_⟩
 have xC:∀a b c d,Ex C (C++[a]++[b]++[c]++[d]):=λa b c d=>(Ex.one _ _).trans<|(Ex.one _ _).trans<|(Ex.one _ _).trans<|.one _ _
 refine WS.mono (Jze (k:=k) (p0:=p0) (p1:=p1) (p2:=p2) (p3:=p3) (one:=one) (other:=other) (N:=N) ((xC _ _ _ _).get c0) ((xC _ _ _ _).get c1) ((xC _ _ _ _).get c2) ((xC _ _ _ _).get c3) (grow<|grow<|grow Jm) (grow<|grow Jm) Jm ((xC _ _ _ _).get hX) e6) (λ_ _ z=>z) ?_
 rintro v h' ⟨q,n,rfl,lq,gq,x'⟩
 refine⟨q,n,rfl,?_,gq,(xC _ _ _ _).trans x'⟩
 simp only[Zs,ZA,ZaD]at lq
 omega
theorem Jzc{C:IH}{X Pp:Nat}{xs:Tk}{one other:Str}{p0 p1 p2 p3 y6:Int}{a1 a2 a6:Tb}(gP:C[Pp]?=Za (.lst [.int p0,.int p1,.int p2,.int p3]))(hX:C[X]?=Za (.lst<|xs.map .int))(e6:atI (xs.map IV.int) 6=Za (.int y6)){N:ISt->IH->Prop}:
  WS (Jet k [Za<|.ref X,a1,a2,Za<|.ref Pp,Za<|.str one,Za<|.str other,a6] C) N λv h'=>∃q n,v=.ref q/\C.length<=q/\h'[q]?=Za (.lst<|((way6 one other p0 p1 p2 p3 n).filter λa=>decide (a.2.1<a.2.2)).map tupH)/\Ex C h':=by
 have hb:=J2
 refine xseq<|xset<|Je (lstE (arg4 (lstE rfl rfl) (lstE (arg1<|VI (grow gP) rfl rfl rfl rfl) rfl) (lstE (arg2 (VI (grow<|grow gP) rfl rfl rfl rfl)<|VI (grow<|grow gP) rfl rfl rfl rfl) rfl)<|lstE (arg2 (VI (grow<|grow<|grow gP) rfl rfl rfl rfl)<|VI (grow<|grow<|grow gP) rfl rfl rfl rfl) rfl) rfl) ?_
 have xC:∀a b c d e,Ex C (C++[a]++[b]++[c]++[d]++[e]):=λa b c d e=>(Ex.one _ _).trans<|(Ex.one _ _).trans<|(Ex.one _ _).trans<|(Ex.one _ _).trans<|.one _ _
 refine WS.mono (Jzd (k:=k) (p0:=p0) (p1:=p1) (p2:=p2) (p3:=p3) (one:=one) (other:=other) (N:=N) (grow<|grow<|grow<|grow Jm) (grow<|grow<|grow Jm) (grow<|grow Jm) (grow Jm) Jm ((xC _ _ _ _ _).get gP) ((xC _ _ _ _ _).get hX) e6) (λ_ _ z=>z) ?_
 rintro v h' ⟨q,n,rfl,lq,gq,x'⟩
 refine⟨q,n,rfl,?_,gq,(xC _ _ _ _ _).trans x'⟩
 simp only[Zs,ZA,ZaD]at lq
 omega
def mdOf(len:Int)(v:IV):IV:=match v with|.int x=>.int (x%len)|_=>.non
theorem Jvb{X W:Nat}{xs:Tk}{ws:Tg}{len:Int}(hX:h[X]?=Za (.lst<|xs.map .int))(lx:7<=xs.length)(hW:h[W]?=Za (.lst<|ws.map .str))(lw:ws.length=3)(hw:∀x∈ws,IsNm x)(nd:ws.Nodup)(h1:1<=len):
  WR (Jd5 (k+1) [.ref X,.int len,.ref W] h) λv h'=>∃q hs,v=.ref q/\h.length<=q/\h'[q]?=Za (.lst<|hs.map tupH)/\HsOk len hs/\Ex h h':=by
 have hb:=J2
 rw[Jly]
 have l4:(xs.take 4).length=4:=by rw[Zaa];omega
 refine xfin (xseq<|xset<|xb<|xb<|WR.mono (Qe (h:=h++[IX.lst<|(xs.take 4).map IV.int]) (xs:=(xs.take 4).map IV.int) (chk:=λh'=>h'[h.length]?=Za (.lst<|(xs.take 4).map IV.int)) (f:=mdOf len) ?_ (by rw[Zg,l4];omega) (λh2 q=>q _ _ Jm) ?_) ?_)
 ·rw[JU]
  refine(Vr ..).mpr<|Je rfl (Je rfl (Je rfl ((Xx ..).mpr ⟨_,hX,?_⟩)))
  rw[show(Za (4:Int))=Za ((4:Nat):Int)from rfl,Yw,<-ZcX]
  exact(JM _).mpr ⟨_,Jm,rfl,rfl,rfl⟩
 ·intro v hv h2 q
  obtain⟨x,hx,rfl⟩:=Zz.mp hv
  unfold Jc0
  exact Je (modE rfl rfl 00) ⟨rfl,.refl _⟩
 ·rintro _ _ ⟨rfl,g,rfl⟩
  have em:((xs.take 4).map IV.int).map (mdOf len)=((xs.take 4).map (· %len)).map IV.int:=by
   rw[Zai,Zai]
   rfl
  rw[em]
  have l5:((xs.take 4).map (· %len)).length=4:=by rw[Zg,l4]
  obtain⟨p0,p1,p2,p3,es,a0,a1,a2,a3,a4⟩:=J6g (ms:=(xs.take 4).map (· %len)) (len:=len) l5 λx hx=>by
   obtain⟨y,_,rfl⟩:=Zz.mp hx
   exact⟨ZP _ 00,ZL _ 00⟩
  generalize hh1:h++[IX.lst<|(xs.take 4).map IV.int]=hA
  have xA:Ex h hA:=by rw[<-hh1];exact .one _ _
  refine Je rfl (Je ((Jws (ms:=(xs.take 4).map (· %len)) J4 00).trans<|by rw[es]) ?_)
  have xB:Ex hA (hA++IX.lst (((xs.take 4).map (· %len)).map IV.int)::g++[IX.lst<|[p0,p1,p2,p3].map IV.int]):=(Ex.cons _ _ _).trans<|.one _ _
  have gP:(hA++IX.lst (((xs.take 4).map (· %len)).map IV.int)::g++[IX.lst<|[p0,p1,p2,p3].map IV.int])[(hA++IX.lst (((xs.take 4).map (· %len)).map IV.int)::g).length]?=Za (.lst [.int p0,.int p1,.int p2,.int p3]):=Jm
  generalize (hA++IX.lst (((xs.take 4).map (· %len)).map IV.int)::g).length=Pp at gP ⊢
  generalize hA++IX.lst (((xs.take 4).map (· %len)).map IV.int)::g++[IX.lst<|[p0,p1,p2,p3].map IV.int]=hB at xB gP ⊢
  have xh:=xA.trans xB
  have hX2:=xh.get hX
  have hW2:=xh.get hW
  obtain⟨y4,e4⟩:=at_x (xs:=xs) (n:=4) 00
  obtain⟨y5,e5⟩:=at_x (xs:=xs) (n:=5) 00
  obtain⟨y6,e6⟩:=at_x (xs:=xs) (n:=6) 00
  obtain⟨i,hi⟩:∃i:Nat,y4%3=i:=⟨(y4%3).toNat,00⟩
  obtain⟨j,hj⟩:∃j:Nat,(y4+1+y5%2)%3=j:=⟨((y4+1+y5%2)%3).toNat,00⟩
  have hi3:i<ws.length:=00
  have hj3:j<ws.length:=00
  have hij:i≠j:=00
  have aw:∀n (hn:n<ws.length),atI (ws.map IV.str) (n:Int)=Za (.str ws[n]):=λn hn=>JE<|by rw[Z4,Zb hn];rfl
  have A1:=aw i hi3
  have A2:=aw j hj3
  rw[<-hi]at A1
  rw[<-hj]at A2
  have n1:=hw _<|Zw hi3
  have n2:=hw _<|Zw hj3
  have ne:ws[i]≠ws[j]:=λe=>hij<|(ZcM nd).mp e
  refine xseq<|xset<|Je (ixlE rfl (modE (ixlE rfl rfl hX2 e4) rfl 01) hW2 A1) ?_
  refine xseq<|xset<|Je (ixlE rfl (modE (addE (addE (ixlE rfl rfl hX2 e4) rfl)<|modE (ixlE rfl rfl hX2 e5) rfl 01) rfl 01) hW2 A2) ?_
  refine WS.mono (Jzc (k:=k) (p0:=p0) (p1:=p1) (p2:=p2) (p3:=p3) (N:=λ_ _=>False) gP hX2 e6) (λ_ _ z=>z.elim) ?_
  rintro v h' ⟨q,n,rfl,lq,gq,x'⟩
  have:=xh.len
  exact⟨q,_,rfl,00,gq,J07 (len:=len) n n1 n2 ne a0 a1 a2 a3 a4,xh.trans x'⟩
end
end
section
seal L4.run
noncomputable abbrev tp5 (r:RH)(q:Nat):Tq:=[.int r.1.gap,.int r.1.len,.int r.1.due,.int r.1.late,.ref q]
structure F7(unit:Int)(r:RH):Prop where
 g1:unit<=r.1.gap
 g2:r.1.gap<8*unit
 l1:1<=r.1.len
 l2:r.1.len<=r.1.gap
 d1:1<=r.1.due
 d2:r.1.due<=r.1.gap
 t1:0<=r.1.late
 t2:r.1.late<=3*r.1.gap/2
 ok:HsOk r.1.len r.2
theorem J0t{ws:Tg}(hw:∀x∈ws,IsNm x):ZY (ws.map PyData.str)=Zh:=by
 induction ws with
 |nil=>rfl
 |cons x xs ih=>
  have q:=hw x<|Zy ..
  have e:ZaC (.str x)=Zh:=by
   simp only[ZaC]
   unfold PyData.strOk
   rw[<-Array.all_toList,Zbe]
   intro c hc
   have:=q.2.2 c hc
   simp only[decide_eq_true_eq]
   omega
  rw[Z1,ZY,e,ih λy hy=>hw y<|Zp _ hy]
  rfl
section
variable{k:Nat}{h:IH}
theorem Jn7{W j:Nat}{ws:Tg}(hW:h[W]?=Za (.lst<|ws.map .str))(hw:∀x∈ws,IsNm x)(hj:h[j]?=Za (.lst [])):cNe (.ref W) (.ref j) h=.ok (.bl (!ws.isEmpty)) h:=by
 have e1:toD h 6 (.ref W)=Za (.list<|ws.map PyData.str):=by
  rw[Jks hW,Jkc (g:=λv=>match v with|.str x=>.str x|_=>.none) λx hx=>?_]
  ·simp
  ·obtain⟨y,_,rfl⟩:=Zz.mp hx
   rfl
 have e2:toD h 6 (.ref j)=Za (.list []):=by
  rw[Jks hj]
  rfl
 have e3:Vx (.ref W) (.ref j) h=Za ws.isEmpty:=by
  unfold Vx
  rw[e1,e2]
  dsimp only
  rw[if_pos ⟨by rw[ZaC];exact J0t hw,by rw[ZaC,ZY]⟩,Zbv]
  cases ws with
  |nil=>rw[Zbi,ZcW];rfl
  |cons a as=>rw[Z1,ZcW];rfl;all_goals intros;simp_all
 unfold cNe
 have e4:Xq (.ref W) (.ref j)=Zc:=rfl
 rw[e4]
 dsimp only
 rw[e3]
theorem pk(xs:Tk)(hn:(xs.length:Int)=n)(h0:0<n):∃x∈xs,atI (xs.map IV.int) (y%n)=Za (.int x):=by
 have a:=ZP y (b:=n) 00
 have b:=ZL y h0
 have l:(y%n).toNat<xs.length:=00
 exact⟨xs[(y%n).toNat],Zw l,Jjg a<|by rw[Z4,Zb l];rfl⟩
theorem intE(ea:a σ h=.ok (.int i) h1)(eb:b σ h1=.ok (.int j) h2):eCB (on1 Y4) (Jb (Jc cGt a b) Jd) σ h=.ok (.int (if j<i then 1 else 0)) h2:=by
 rw[cbE<|arg1<|binE ea eb]
 show Res.ok (IV.int (if decide (j<i)=Zh then 1 else 0)) h2=_
 simp only[decide_eq_true_eq]
theorem pk2(x y:Int)(m:Int):∃K,atI [IV.int x,IV.int y] (if 5<m then 1 else 0)=Za (.int K)/\((K=x/\¬5<m)∨(K=y/\5<m)):=by
 by_cases l:5<m
 ·exact⟨y,by rw[if_pos l];rfl,.inr ⟨rfl,l⟩⟩
 ·exact⟨x,by rw[if_neg l];rfl,.inl ⟨rfl,l⟩⟩
theorem Jv7{c unit m:Int}{W:Nat}{ws:Tg}(hu:1<=unit)(hu2:unit<=10^40)(hW:h[W]?=Za (.lst<|ws.map .str))(hw:∀x∈ws,IsNm x)(nd:ws.Nodup)(lw:ws.length=3):
  WR (Jd7 (k+2) [.int c,.int unit,.ref W,.int m] h) λv h'=>Ex h h'/\∃r q,F7 unit r/\(5<m->r.1.gap<3*unit)/\v=.tup (tp5 r q)/\h.length<=q/\h'[q]?=Za (.lst<|r.2.map tupH):=by
 have hb:=J2
 rw[Jl0]
 refine xfin<|xseq<|xset<|xb<|Je (arg2 rfl rfl)<|WR.mono (Jtq (k:=k) (h:=h) c 15 01) ?_
 rintro _ h1 ⟨i,xs,rfl,_,hi,lx,hx,x1⟩
 have at_:∀n:Nat,n<15->∃x,0<=x/\atI (xs.map IV.int) (n:Int)=Za (.int x):=λn hn=>⟨xs[n],(hx _<|Zw _).1,JE<|by rw[Z4,Zb 00];rfl⟩
 obtain⟨y0,z0,e0⟩:=at_ 0 01
 obtain⟨y1,z1,e1⟩:=at_ 1 01
 obtain⟨y2,z2,e2⟩:=at_ 2 01
 obtain⟨y3,z3,e3⟩:=at_ 3 01
 obtain⟨y4,z4,e4⟩:=at_ 4 01
 obtain⟨y5,z5,e5⟩:=at_ 5 01
 obtain⟨y6,z6,e6⟩:=at_ 6 01
 obtain⟨y7,z7,e7⟩:=at_ 7 01
 clear at_ hx
 obtain⟨K,eK,hK⟩:=pk2 7 2 m
 have k0:=ZP y0 (b:=K) 00
 have k1:=ZL y0 (b:=K) 00
 have b1:unit*1<=unit*(1+y0%K):=ZaO 00 00
 have b2:unit*(1+y0%K)<=unit*7:=ZaO 00 00
 have b5:5<m->unit*(1+y0%K)<=unit*2:=λ_=>ZaO 00 00
 have b3:=ZP y1 (b:=1+unit/2) 00
 have b4:=ZL y1 (b:=1+unit/2) 00
 refine xseq<|xset<|Je (addE (mulE rfl (addE rfl (modE (ixlE rfl rfl hi e0) (pkE (arg2 rfl rfl) rfl (intE rfl rfl) eK) 00)) (.inr<|.inl 00))<|modE (ixlE rfl rfl (grow hi) e1) (addE rfl (Q2 rfl rfl 01 01)) 00) ?_
 obtain⟨g,eg,g1,g2,g3⟩:∃g,unit*(1+y0%K)+y1%(1+unit/2)=g/\unit<=g/\g<8*unit/\(5<m->g<3*unit):=⟨_,rfl,00,00,λl=>by have:=b5 l;omega⟩
 rw[eg]
 have x0:Ex h1 (h1++[IX.lst [IV.int 7,IV.int 2]]):=.one _ _
 generalize h1++[IX.lst [IV.int 7,IV.int 2]]=h1' at x0
 have hi:=x0.get hi
 have x1:=x1.trans x0
 clear x0
 revert hi x1
 generalize h1'=h1
 intro hi x1
 clear b5 k0 k1 hK eK
 clear eg b1 b2 b3 b4
 have pg':(0:Int)<g:=00
 have d1:=ZP y2 (b:=g) 00
 have d2:=ZL y2 pg'
 obtain⟨dd,hd,ed⟩:=pk (n:=2) (y:=y3) [0,y2%g] rfl 01
 have hd:0<=dd/\dd<g:=by simp only[Z6,ZF,or_false]at hd;omega
 refine xseq<|xset<|Je (subE rfl (pkE (arg2 rfl (modE (ixlE rfl rfl hi e2) rfl pg')) rfl (modE (ixlE rfl rfl (grow hi) e3) rfl 01) ed)) ?_
 have xA:Ex h1 (h1++[IX.lst [IV.int 0,IV.int<|y2%g]]):=.one _ _
 generalize h1++[IX.lst [IV.int 0,IV.int<|y2%g]]=hA at xA ⊢
 have hiA:=xA.get hi
 have t1:=ZP y4 (b:=1+g/3) 00
 have t2:=ZL y4 (b:=1+g/3) 00
 have t3:=ZP y4 (b:=1+3*g/2) 00
 have t4:=ZL y4 (b:=1+3*g/2) 00
 obtain⟨lt,hl,el⟩:=pk (n:=4) (y:=y5) [0,0,y4%(1+g/3),y4%(1+3*g/2)] rfl 01
 have hl:0<=lt/\lt<=3*g/2:=by simp only[Z6,ZF,or_false]at hl;omega
 refine xseq<|xset<|Je (pkE (arg4 rfl rfl (modE (ixlE rfl rfl hiA e4) (addE rfl (Q2 rfl rfl 01 01)) 00) (modE (ixlE rfl rfl hiA e4) (addE rfl (Q2 (mulE rfl rfl (.inl 01)) rfl 01 01)) 00)) rfl (modE (ixlE rfl rfl (grow hiA) e5) rfl 01) el) ?_
 have xB:Ex hA (hA++[IX.lst [IV.int 0,IV.int 0,IV.int<|y4%(1+g/3),IV.int<|y4%(1+3*g/2)]]):=.one _ _
 generalize hA++[IX.lst [IV.int 0,IV.int 0,IV.int<|y4%(1+g/3),IV.int<|y4%(1+3*g/2)]]=hB at xB ⊢
 have hiB:=xB.get hiA
 obtain⟨K,eK,hK⟩:=pk2 4 5 m
 have k0:=ZP y7 (b:=K) 00
 have k1:=ZL y7 (b:=K) 00
 obtain⟨dv,hv,ev⟩:=pk (n:=5) (y:=y7%K) [1,2,4,9,25] rfl 01
 rw[Int.emod_eq_of_lt k0 00]at ev
 have hv:0<dv/\dv<=25:=by simp only[Z6,ZF,or_false]at hv;omega
 obtain⟨M,eM,M1,M2⟩:∃M:Int,(if g/dv>1 then g/dv else 1)=M/\1<=M/\M<=g:=by
  have:g/dv<=g:=Int.ediv_le_self _ 00
  split
  ·exact⟨_,rfl,00,this⟩
  ·exact⟨_,rfl,00,00⟩
 have s1:=ZP y6 (b:=M) 00
 have s2:=ZL y6 (b:=M) 00
 refine xseq<|xset<|Je (addE rfl (modE (ixlE rfl rfl hiB e6) (okc (maxE rfl (Q2 rfl (ixlE (lstE (show Jb _ _ _ hB=.ok [IV.int 1,IV.int 2,IV.int 4,IV.int 9,IV.int 25] hB from rfl) rfl) (modE (ixlE rfl rfl (grow hiB) e7) (pkE (arg2 rfl rfl) rfl (intE rfl rfl) eK) 00) (grow Jm) ev) hv.1 (Jkb (b:=25) 00 01)))<|congrArg IV.int eM) 00)) ?_
 generalize hlen:1+y6%M=len
 have xC:Ex hB (hB++[IX.lst [IV.int 1,IV.int 2,IV.int 4,IV.int 9,IV.int 25]]++[IX.lst [IV.int 4,IV.int 5]]):=(Ex.one _ _).trans<|.one _ _
 generalize hB++[IX.lst [IV.int 1,IV.int 2,IV.int 4,IV.int 9,IV.int 25]]++[IX.lst [IV.int 4,IV.int 5]]=hC at xC ⊢
 have x1C:=((x1.trans xA).trans xB).trans xC
 have lC:=x1C.len
 have hiC:=(xB.trans xC).get hiA
 have xD:Ex hC (hC++[IX.lst []]++[IX.lst []]):=(Ex.one _ _).trans<|.one _ _
 have gE:(hC++[IX.lst []]++[IX.lst []])[hC.length]?=Za (.lst []):=grow Jm
 have base:∀hs:Tr,HsOk len hs->F7 unit (⟨⟨⟨#[]⟩,g,len,g-dd,lt⟩,hs⟩:RH):=λhs ok=>⟨g1,g2,by show 1<=len;omega,by show len<=g;omega,by show 1<=g-dd;omega,by show g-dd<=g;omega,hl.1,hl.2,ok⟩
 have tst:∀{σ:ISt}{a:E1},a σ (hC++[IX.lst []])=.ok (.ref W) (hC++[IX.lst []])->Ji asB (Jc cNe a<|J6 Jd) σ (hC++[IX.lst []])=.ok (!ws.isEmpty) (hC++[IX.lst []]++[IX.lst []]):=λea=>tofE<|(binE ea<|lstE rfl rfl).trans<|Jn7 (xD.get<|x1C.get hW) hw Jm
 refine xseq<|xset<|Je (lstE rfl rfl)<|xseq ?_
 have ne:ws.isEmpty=Zk:=by cases ws with|nil=>simp at lw|cons _ _=>rfl
 refine xift (okc (tst rfl)<|by rw[ne];rfl)<|xset<|xb<|xb ?_
 refine(Vr ..).mpr<|Je rfl (Je rfl (Je rfl ((Xx ..).mpr ⟨_,xD.get hiC,?_⟩)))
 rw[show(Za (8:Int))=Za ((8:Nat):Int)from rfl,Jju,<-ZeB]
 have xE:Ex (hC++[IX.lst []]++[IX.lst []]) (hC++[IX.lst []]++[IX.lst []]++[IX.lst<|(xs.drop 8).map IV.int]):=.one _ _
 refine xb (Je (arg2 rfl rfl)<|Je rfl (WR.mono (Jvb (k:=k) Jm (by rw[ZaF];omega) (xE.get<|xD.get<|x1C.get hW) lw hw nd 00) ?_))
 rintro _ h3 ⟨q,hs,rfl,hq,gq,ok,x3⟩
 have l1:=(xD.trans xE).len
 exact xret<|Je (tupE rfl rfl) ⟨(x1C.trans<|xD.trans xE).trans x3,⟨⟨⟨#[]⟩,g,len,g-dd,lt⟩,hs⟩,q,base hs ok,g3,rfl,00,gq⟩
end
end
section
seal L4.run L4.WS
abbrev tp6(r:RH)(q:Nat):IV:=.tup<|.str r.1.name::tp5 r q
structure RowT(h:IH)(lo:Nat)(ys:Tq)(rs:Ts):Prop where
 len:ys.length=rs.length
 at_:∀(i:Nat) y r,ys[i]?=Za y->rs[i]?=Za r->∃q,y=tp6 r q/\q≠lo/\h[q]?=Za (.lst<|r.2.map tupH)
theorem RowT.kpb(k:KpB lo h h')(w:RowT h lo ys rs):RowT h' lo ys rs:=⟨w.len,λi y r a b=>let ⟨q,e,n,g⟩:=w.at_ i y r a b;⟨q,e,n,k _ _ n g⟩⟩
theorem RowT.kp(k:Kp h h')(w:RowT h lo ys rs):RowT h' lo ys rs:=w.kpb λ_ _ _ q=>k _ _ q
theorem RowT.get{lo:Nat}(w:RowT h lo ys rs){n:Nat}(e:rs[n]?=Za r):∃q,ys[n]?=Za (tp6 r q)/\h[q]?=Za (.lst<|r.2.map tupH):=by
 have hn:n<ys.length:=by rw[w.len];exact(Zr.mp e).1
 obtain⟨q,e1,_,g⟩:=w.at_ n _ r (Zb hn) e
 exact⟨q,by rw[Zb hn,e1],g⟩
theorem RowT.snoc{r:RH}(w:RowT h lo ys rs)(n:q≠lo)(g:h[q]?=Za (.lst<|r.2.map tupH)):RowT h lo (ys++[tp6 r q]) (rs++[r]):=by
 have wl:=w.len
 refine⟨by simp[wl],λi y s a b=>?_⟩
 by_cases hi:i<ys.length
 ·rw[ZE hi]at a
  rw[ZE 00]at b
  exact w.at_ i y s a b
 ·have li:=(Zr.mp a).1
  rw[Zs,ZaP]at li
  obtain rfl:i=ys.length:=00
  rw[Z8<|Zm _,ZcF]at a
  rw[wl,Z8<|Zm _,ZcF]at b
  cases a
  cases b
  exact⟨q,rfl,n,g⟩
structure Dr(c unit:Int)(rs:Ts):Prop where
 u1:1<=unit
 u2:unit<=10^40
 f:∀r∈rs,F7 unit r
 nm:(rs.map λr=>r.1.name)=(ZM rs.length).map (wd c)
theorem F7.to8(f:F7 unit r)(hu:1<=unit)(hn:IsNm r.1.name):F8 unit r:=by
 have g1:=f.g1
 have g2:=f.g2
 have t2:=f.t2
 exact⟨hn,f.g1,00,f.l1,f.d1,f.d2,f.t1,00,f.ok⟩
theorem Dr.gd(D:Dr c unit rs)(hl:rs.length<=12)(sm:rs.length<=7∨∀r∈rs,r.1.gap<3*unit):Gd unit rs:=by
 refine⟨D.u1,D.u2,hl,sm,λr hr=>(D.f r hr).to8 D.u1 ?_,?_⟩
 ·have:r.1.name∈(ZM rs.length).map (wd c):=by rw[<-D.nm];exact List.mem_map_of_mem hr
  obtain⟨j,_,e⟩:=Zz.mp this
  rw[<-e]
  exact Jtz c j
 ·rw[D.nm,List.Nodup,ZcG]
  refine(ZdS (n:=rs.length)).imp_of_mem λ{a b} ha hb hne e=>hne ?_
  exact Jyf (by have:=Zay.mp ha;omega) (by have:=Zay.mp hb;omega) e
def SQ(h:IH)(v:IV)(h':IH):Prop:=Ex h h'/\∃S lo ys rs c unit,v=.ref S/\h.length<=S/\h'[S]?=Za (.lst ys)/\RowT h' lo ys rs/\Dr c unit rs/\rs.length<=12/\0<rs.length/\(rs.length<=5∨∀r∈rs,r.1.gap<3*unit)
def wOf(c:Int)(v:IV):IV:=match v with
 |.int q=>.str<|wd c q.toNat
 |_=>.non
section
variable{k:Nat}{h:IH}
theorem e15(σ:ISt)(h:IH):Jc JK (eC<|.int 10) (eC<|.int 15) σ h=.ok (.int<|10^15) h:=Js (by
 rw[VJ,Qw,Qw,Xe]
 exact⟨01,rfl,rfl⟩)
theorem e40(σ:ISt)(h:IH):Jc JK (eC<|.int 10) (eC<|.int 40) σ h=.ok (.int<|10^40) h:=Js (by
 rw[VJ,Qw,Qw,Xe]
 exact⟨01,rfl,rfl⟩)
def SmI(h hB:IH)(C:Nat)(x0 unit x1:Int)(m W n:Nat)(σ:ISt)(h':IH):Prop:=∃ys rs g a b,h'=hB++.lst ys::g/\σ=[Za<|.ref C,Za<|.bl Zh,Za<|.int x0,Za<|.int unit,Za<|.int x1,Za<|.int (m:Int),Za<|.ref W,Za<|.ref hB.length,a,b]/\RowT h' hB.length ys rs/\rs.length=n/\Dr (x1/7) unit rs/\(5<m->∀r∈rs,r.1.gap<3*unit)
theorem J0u{ns:Tk}(gC:h[C]?=Za (.lst<|ns.map .int))(m1:ns.getD 1 0%6≠0):WR (Jfu (k+4) [.ref C,.bl Zh] h) (SQ h):=by
 have hb:=J2
 rw[Jnj]
 have c0:=Jjr (k:=k+2) gC 0 01
 have c1:=λ(h':IH)(x:Ex h h')=>Jjr (k:=k+2) (x.get gC) 1 01
 have m1:ns.getD (Zc0 1) 0%6≠0:=m1
 generalize ns.getD (Zc0 0) 0=x0 at c0
 generalize ns.getD (Zc0 1) 0=x1 at c1 m1
 obtain⟨U,hU,eU⟩:=pk (n:=4) (y:=x0) [4,10^15,10^15,10^40] rfl 01
 have hU:0<U/\U<=10^40:=by
  simp only[Z6,ZF,or_false]at hU
  rcases hU with rfl|rfl|rfl|rfl<;>decide +kernel
 have u0:=ZP (x0/4) (b:=U) 00
 have u1:=ZL (x0/4) hU.1
 have hx:x0/4%U<10^40:=Int.lt_of_lt_of_le u1 hU.2
 have E:∀{σ:ISt}{hh:IH},Jb '4' (Jb (Jc JK (eC<|.int 10)<|eC<|.int 15)<|Jb (Jc JK (eC<|.int 10)<|eC<|.int 15)<|Jb (Jc JK (eC<|.int 10)<|eC<|.int 40) Jd) σ hh=.ok [IV.int 4,IV.int<|10^15,IV.int<|10^15,IV.int<|10^40] hh:=λ{σ hh}=>arg4 rfl (e15 σ hh) (e15 σ hh) (e40 σ hh)
 refine xfin<|xseq<|xset<|Je (JB (arg2 rfl rfl) c0)<|xseq<|xset ?_
 refine Je (addE rfl (modE (Q2 rfl rfl 01 01) (pkE E rfl (modE rfl rfl 01) eU) hU.1)) ?_
 refine xseq<|xset<|Je (JB (arg2 rfl rfl)<|c1 _<|.one _ _)<|xseq<|xset<|Je (modE rfl rfl 01)<|xseq ?_
 obtain⟨m,em,lm,pm⟩:∃m:Nat,(m:Int)=(if x1/6%8=5 then 6+x1/48%7 else x1%6)/\m<=12/\0<m:=by
  split
  ·exact⟨(6+x1/48%7).toNat,00,00,00⟩
  ·exact⟨(x1%6).toNat,00,00,00⟩
 suffices go:WS (Jgd (k+3) [Za<|.ref C,Za<|.bl Zh,Za<|.int x0,Za<|.int<|1+x0/4%U,Za<|.int x1,Za<|.int (m:Int),Zc,Zc,Zc,Zc]<|h++[IX.lst [IV.int 4,IV.int<|10^15,IV.int<|10^15,IV.int<|10^40]]) (λ_ h=>SQ h .non h) (SQ h) by
  have e:=em
  refine xifd (eqE (modE (Q2 rfl rfl 01 01) rfl 01) rfl) (λl=>?_) λl=>?_
  ·rw[if_pos l]at e
   refine xset<|Je (okc (addE rfl (modE (Q2 rfl rfl 01 01) rfl 01))<|congrArg IV.int e.symm) ?_
   exact WS.mono go (λ_ _ z=>z.2.elim λ_ z=>by obtain⟨_,_,_,_,_,z,_⟩:=z;cases z) λ_ _ z=>z
  ·rw[if_neg l]at e
   refine xnil ?_
   rw[<-e]
   exact WS.mono go (λ_ _ z=>z.2.elim λ_ z=>by obtain⟨_,_,_,_,_,z,_⟩:=z;cases z) λ_ _ z=>z
 refine xseq<|xset<|Je (lstE rfl rfl)<|xseq ?_
 generalize hu:1+x0/4%U=unit
 have hu1:1<=unit:=00
 have hu2:unit<=10^40:=by
  clear eU
  generalize (10:Int)^40=y at hx
  omega
 have xA:Ex h (h++[IX.lst [IV.int 4,IV.int<|10^15,IV.int<|10^15,IV.int<|10^40]]++[IX.lst []]):=(Ex.one _ _).trans<|.one _ _
 have gA:(h++[IX.lst [IV.int 4,IV.int<|10^15,IV.int<|10^15,IV.int<|10^40]]++[IX.lst []])[(h++[IX.lst [IV.int 4,IV.int<|10^15,IV.int<|10^15,IV.int<|10^40]]).length]?=Za (.lst []):=Jm
 have loop:∀(hB:IH)(W:Nat)(ws:Tg),Ex h hB->hB[W]?=Za (.lst<|ws.map .str)->(∀x∈ws,IsNm x)->ws.Nodup->ws.length=3->∀N:ISt->IH->Prop,
   WS (Jge (k+3) [Za<|.ref C,Za<|.bl Zh,Za<|.int x0,Za<|.int unit,Za<|.int x1,Za<|.int (m:Int),Za<|.ref W,Zc,Zc,Zc] hB) N (SQ h):=by
  intro hB W ws xB gW hw nd lw N
  refine xseq<|xset<|Je (lstE rfl rfl)<|xseq<|xrng (n:=m) rfl 00 ?_
  refine Qo (SmI h hB C x0 unit x1 m W) (λ_ _ _ _=>trivial) ?_ ?_ ⟨[],[],[],Zc,Zc,rfl,rfl,⟨rfl,λi y r a b=>by simp at a⟩,rfl,⟨hu1,hu2,03,rfl⟩,03⟩
  ·rintro n hn _ _ ⟨ys,rs,g,a,b,rfl,rfl,w,ln,D,h5⟩
   rw[Vk]
   rw[Qa]at hn
   have hn6:n<12:=00
   rw[show(0+(n:Int))=(n:Int) by omega]
   have gC':(hB++IX.lst ys::g)[C]?=Za (.lst<|ns.map .int):=grow<|xB.get gC
   have gW':(hB++IX.lst ys::g)[W]?=Za (.lst<|ws.map .str):=grow gW
   refine xnx rfl (xseq<|xset<|xb<|Je (arg4 (addE (JB (arg2 rfl (addE rfl (modE rfl rfl 01)))<|Jjr (k:=k+2) gC' (2+(n:Int)%5) 00)<|mulE rfl rfl (.inl 01)) rfl rfl rfl)<|WR.mono (Jv7 (k:=k+1) (m:=(m:Int)) hu1 hu2 gW' hw nd lw) ?_)
   rintro _ h3 ⟨⟨g3,rfl⟩,r,q,f,f5,rfl,hq,gq⟩
   have e3:hB++IX.lst ys::g++g3=hB++IX.lst ys::(g++g3):=03
   refine Qx (QK (i:=hB.length) rfl (by rw[e3];exact J4) X3 (xb<|xb<|xtup<|xb<|xb<|Je (arg2 (Q2 rfl rfl 01 01) rfl)<|WR.mono (Jt0 (k:=k+2) (x1/7) n) ?_))
   rintro _ _ ⟨rfl,g4,rfl⟩
   have e4:hB++IX.lst ys::g++g3++g4=hB++IX.lst ys::(g++g3++g4):=03
   have kB:KpB hB.length (hB++IX.lst ys::g) (hB++IX.lst ys::(g++g3++g4)):=λj o _ z=>by rw[<-e4];exact grow<|grow z
   have w4:=w.kpb kB
   have gq4:(hB++IX.lst ys::(g++g3++g4))[q]?=Za (.lst<|r.2.map tupH):=by rw[<-e4];exact grow gq
   have hq':q≠hB.length:=by rw[Zs,ZA]at hq;omega
   have ly:ys.length<=12:=by have:=w.len;omega
   rw[e4]
   have ea:Jl (.tup [.str<|wd (x1/7) n]) (.tup<|tp5 r q) (hB++IX.lst ys::(g++g3++g4))=.ok (tp6 ⟨{r.1 with name:=wd (x1/7) n},r.2⟩ q) (hB++IX.lst ys::(g++g3++g4)):=by
    simp only[Jl]
    rw[if_pos ⟨03,03,by simp;omega⟩]
    rfl
   refine xb (Je rfl (Je rfl ⟨by show(1:Nat)<=_;omega,xb<|Je rfl (Je ea<|xb<|Je rfl (Je rfl (xapp J4 00 ?_)))⟩))
   rw[XZ]
   refine⟨ys++[tp6 ⟨{r.1 with name:=wd (x1/7) n},r.2⟩ q],rs++[⟨{r.1 with name:=wd (x1/7) n},r.2⟩],g++g3++g4,_,_,rfl,rfl,?_,by simp[ln],⟨hu1,hu2,?_,?_⟩,?_⟩
   ·have kC:KpB hB.length (hB++IX.lst ys::(g++g3++g4)) (hB++IX.lst (ys++[tp6 ⟨{r.1 with name:=wd (x1/7) n},r.2⟩ q])::(g++g3++g4)):=λj o hj z=>by
     rw[<-XZ (IX.lst ys),ZT<|Zab hj]
     exact z
    exact(w4.kpb kC).snoc hq'<|kC _ _ hq' gq4
   ·intro s hs
    rw[ZK,Zx]at hs
    rcases hs with hs|rfl
    ·exact D.f s hs
    ·exact⟨f.g1,f.g2,f.l1,f.l2,f.d1,f.d2,f.t1,f.t2,f.ok⟩
   ·rw[Zat,D.nm,Zs,ZaP,Zei,Zat,ln]
    rfl
   ·intro z s hs
    rw[ZK,Zx]at hs
    rcases hs with hs|rfl
    ·exact h5 z s hs
    ·exact f5 00
  ·rintro _ _ ⟨ys,rs,g,a,b,rfl,rfl,w,ln,D,h5⟩
   rw[Qa]at ln
   have:=xB.len
   exact xret<|Je rfl ⟨xB.trans<|.cons _ _ _,_,_,ys,rs,x1/7,unit,rfl,this,J4,w,D,00,00,(if l:m<=5 then .inl 00 else .inr (h5 00))⟩
 refine xift (truE rfl) (xset<|WR.mono (Qe (h:=h++[IX.lst [IV.int 4,IV.int<|10^15,IV.int<|10^15,IV.int<|10^40]]++[IX.lst []]) (xs:=rngI 0 3) (chk:=λ_=>True) (f:=wOf<|x1/5) ?_ (by rw[Qa];omega) (λ_ _=>trivial) ?_) ?_)
 ·rw[VL]
  refine Je (arg1 rfl) ?_
  rw[Xw]
  exact⟨00,rfl,rfl,rfl⟩
 ·intro x hx h2 q
  obtain⟨n,hn,rfl⟩:=ZO.mp hx
  rw[Vk,show(0+(n:Int))=(n:Int) by omega]
  unfold Jdx
  refine xb<|Je (arg2 (Q2 rfl rfl 01 01) rfl)<|WR.mono (Jt0 (k:=k+2) (x1/5) n) ?_
  rintro _ h3 ⟨rfl,x3⟩
  exact⟨by simp[wOf],x3⟩
 ·rintro _ _ ⟨rfl,g,rfl⟩
  have em:(rngI 0 3).map (wOf<|x1/5)=((ZM 3).map<|wd<|x1/5).map IV.str:=by
   refine Zbz (by rw[Zg,Qa,Zg,Zg,ZbB];rfl) λi h1 h2=>?_
   rw[ZG,Vk,ZG,ZG,Zcw]
   simp[wOf]
  rw[em]
  refine loop _ _ ((ZM 3).map<|wd<|x1/5) (xA.trans<|.cons _ _ _) J4 (λx hx=>?_) ?_ 03 _
  ·obtain⟨j,_,rfl⟩:=Zz.mp hx
   exact Jtz _ j
  ·rw[List.Nodup,ZcG]
   refine(ZdS (n:=3)).imp_of_mem λ{a b} ha hb hne e=>hne ?_
   exact Jyf (by have:=Zay.mp ha;omega) (by have:=Zay.mp hb;omega) e
end
end
section
variable{k:Nat}{h h1:IH}{σ:ISt}
theorem J1a:WR (X9 σ h) Q=Q (.ref h.length) (h++[.dct []]):=rfl
theorem J1b(e:o σ h=.ok (.ref i) h1)(hl:h1[i]?=Za (.dct kvs))(hg:bmOf "dict" m n=Za g):WR (Jp P m n o a σ h) Q=WR (a σ h1) λvs h2=>WR (g (.ref i) vs h2) Q:=by
 unfold Jp
 rw[e]
 have hi:VU (.ref i) h1=Zk:=by simp[VU,hl]
 have ht:tyS (.ref i) h1="dict":=by simp[tyS,hl]
 dsimp only
 rw[hi,ht,hg]
 dsimp only
 rw[if_neg Zu]
 unfold eBm
 rw[e,Jv,VM]
 have:tyOk "dict" (.ref i) h1=Zh:=by simp[tyOk,hl]
 rw[if_pos this,Jv]
theorem Jrm:bmOf "dict" "setdefault" 2=Za VY:=02
theorem Jw7(hi:h[i]?=Za (.dct kvs))(e:valI kvs (.inr x)=Za w):WR (VY (.ref i) [.str x,v] h) Q=Q w h:=by
 unfold VY
 simp only[hi,keyI,e]
 rfl
theorem Jw6(hi:h[i]?=Za (.dct kvs))(e:valI kvs (.inr x)=Zc)(hl:kvs.length<sizeLine):WR (VY (.ref i) [.str x,v] h) Q=Q v (h.set i<|.dct<|kvs++[(.inr x,v)]):=by
 unfold VY
 simp only[hi,keyI,e,hl,if_true]
 rfl
end
theorem Jty(kvs:Wm)(k k':Key)(v:IV):valI (kvs++[(k,v)]) k'=match valI kvs k' with
  |some w=>Za w
  |none=>if k=k' then Za v else Zc:=by
 induction kvs with
 |nil=>
  by_cases e:k=k'
  ·rw[Zaw,QX e,if_pos e];rfl
  ·rw[Zaw,QI e,if_neg e];rfl
 |cons p r ih=>
  by_cases e:p.1=k'
  ·rw[Zaf,QX e,QX e]
  ·rw[Zaf,QI e,QI e,ih]
noncomputable def has (x:Str)(hs:Tr):Bool:=hs.any λa=>decide (a.1=x)
def fstK(hss:Wi)(x:Str):Ww:=hss.findIdx?<|has x
def fV(o:Ww):IV:=match o with
 |some i=>.int (i:Int)
 |none=>.non
theorem Jr7(hss:Wi)(hs:Tr)(x:Str):fstK (hss++[hs]) x=match fstK hss x with
  |some i=>Za i
  |none=>if has x hs=Zh then Za hss.length else Zc:=by
 unfold fstK
 rw[List.findIdx?_append]
 cases hss.findIdx? (has x)with
 |some i=>rfl
 |none=>
  by_cases e:has x hs=Zh
  ·simp[Zd2,e]
  ·simp[Zd2,e]
theorem Jou(x:Str)(hs:Tr)(a:Hd):has x (hs++[a])=(has x hs||decide (a.1=x)):=by simp[has]
section
variable{k:Nat}{h:IH}
theorem dls:(([("works",a)]:Wl)).lookup ("size":Str)=Zc:=02
theorem Jho(hD:h[D]?=Za (.ins "Duty"<|dfs vs)):Jd1 (k+1) [.ref D] h=.ok (.int vs.length) h:=by
 refine Js ?_
 rw[Jlt]
 simp![Jep,Qc hD,dl0]
def Told(kvs:Wm)(hss:Wi)(n:Nat)(hs:Tr):Prop:=∀x,valI kvs (.inr x)=match fstK hss x with
 |some i=>Za<|.int (i:Int)
 |none=>if has x hs=Zh then Za (.int (n:Int))else Zc
theorem Told.next(t:Told kvs hss n hs)(hn:hss.length=n):Told kvs (hss++[hs]) (n+1) []:=λx=>by
 subst hn
 rw[t x,Jr7]
 cases fstK hss x with
 |some i=>rfl
 |none=>
  by_cases e:has x hs=Zh
  ·simp only[e,if_true]
  ·simp only[e];rfl
theorem Told.old{a:Hd}(t:Told kvs hss n hs)(e:valI kvs (.inr a.1)=Za w):Told kvs hss n (hs++[a]):=λx=>by
 rw[t x]
 cases ef:fstK hss x with
 |some i=>rfl
 |none=>
  dsimp only
  rw[Jou]
  by_cases ea:a.1=x
  ·have:=t x
   rw[<-ea,e,ea,ef]at this
   dsimp only at this
   by_cases q:has x hs=Zh
   ·simp[q]
   ·rw[if_neg q]at this
    cases this
  ·simp[ea]
theorem Told.new{a:Hd}(t:Told kvs hss n hs)(e:valI kvs (.inr a.1)=Zc):Told (kvs++[(.inr a.1,.int (n:Int))]) hss n (hs++[a]):=λx=>by
 rw[Jty,t x]
 cases ef:fstK hss x with
 |some i=>rfl
 |none=>
  dsimp only
  rw[Jou]
  by_cases q:has x hs=Zh
  ·simp[q]
  ·by_cases ea:a.1=x
   ·simp[q,ea]
   ·have:¬((.inr a.1:Key)=.inr x):=λz=>ea<|Sum.inr.inj z
    simp[q,ea]
theorem Jhk{vs:Tq}{rs:Ts}{D:Nat}(hD:h[D]?=Za (.ins "Duty"<|dfs vs))(w:AllH h vs rs)(hl:rs.length<=12)(h6:∀r∈rs,r.2.length<=6):
  WR (Jdb (k+2) [.ref D] h) λv h'=>∃i kvs,v=.ref i/\h'[i]?=Za (.dct kvs)/\(∀x,(valI kvs<|.inr x).getD .non=fV (fstK (rs.map (·.2)) x))/\Ex h h':=by
 have hb:=J2
 have wl:=w.len
 rw[Jnf]
 simp![Jf8,Jf9,J1a]
 rw[Xd (i:=D) (h1:=h++[.dct []]) rfl (grow hD) dls (Jc9 _)]
 simp![Jho<|grow hD]
 refine⟨00,?_⟩
 refine Qo (λn σ h'=>∃kvs g a b,h'=h++IX.dct kvs::g/\σ=[Za<|.ref D,Za<|.ref h.length,a,b]/\kvs.length<=6*n/\Told kvs ((rs.map (·.2)).take n) n []) (λ_ _ _ _=>trivial) ?_ ?_ ⟨[],[],Zc,Zc,rfl,rfl,03,λx=>by simp[valI,fstK,has]⟩
 ·rintro n hn _ _ ⟨kvs,g,a,b,rfl,rfl,ln,td⟩
  rw[Vk]
  rw[Qa]at hn
  have hn':n<rs.length:=00
  have en:(0:Int)+(n:Int)=n:=00
  obtain⟨j,ej,gj⟩:=w.at_ n _ _ (Zb 00)<|Zb hn'
  have av:atI vs (n:Int)=Za (.ref j):=JE<|by rw[Zb 00,ej]
  have hl6:=h6 _<|Zw hn'
  have hm:n<(rs.map (·.2)).length:=by rw[Zg];exact hn'
  have tk:(rs.map (·.2)).take (n+1)=(rs.map (·.2)).take n++[(rs[n]).2]:=by rw[ZZ hm,ZG]
  rw[tk]
  generalize rs[n]=r at gj hl6
  simp![en,Jfm]
  have x1:Ex h (h++IX.dct kvs::g):=.cons _ _ _
  have ed:Jp (pg<|k+1) "work" 1 'a' (Jb 'c' Jd) [Za<|IV.ref D,Za<|IV.ref h.length,Za<|IV.int (n:Int),b] (h++IX.dct kvs::g)=.ok (.ref j) (h++IX.dct kvs::g):=by
   refine Js ?_
   rw[Xd (i:=D) (h1:=h++IX.dct kvs::g) rfl (x1.get hD) dlw (Jda _)]
   simp![Jhp (x1.get hD) av]
  rw[Xd (i:=j) (h1:=h++IX.dct kvs::g) ed (x1.get gj) flh<|Jbi _]
  simp![Jfr<|x1.get gj,JM,Jm]
  generalize r.2=hs at hl6
  refine Qo (λm σ h'=>∃kvs' b',h'=h++IX.dct kvs'::(g++[IX.lst<|hs.map tupH])/\σ=[Za<|.ref D,Za<|.ref h.length,Za<|.int (n:Int),b']/\kvs'.length<=6*n+m/\Told kvs' ((rs.map (·.2)).take n) n (hs.take m)) ?_ ?_ ?_ ⟨kvs,b,by rw[Zac,Zaf],rfl,00,td⟩
  ·rintro _ _ _ ⟨kvs',b',rfl,_⟩
   rw[show h++IX.dct kvs'::(g++[IX.lst<|hs.map tupH])=(h++IX.dct kvs'::g)++[IX.lst<|hs.map tupH] by rw[Zac,Zaf],
    show(h++IX.dct kvs::g).length=(h++IX.dct kvs'::g).length by simp]
   exact Jm
  ·rintro m hm _ _ ⟨kvs',b',rfl,rfl,lm,tm⟩
   have hm':m<hs.length:=by simpa using hm
   rw[ZG,ZZ hm']
   generalize hs[m]=a at *
   simp![Jfl]
   rw[J1b (i:=h.length) (h1:=h++IX.dct kvs'::(g++[IX.lst<|hs.map tupH])) rfl J4 Jrm]
   simp![tupH]
   cases ev:valI kvs' (.inr a.1)with
   |some w'=>
    rw[Jw7 J4 ev]
    exact⟨kvs',_,rfl,rfl,00,tm.old ev⟩
   |none=>
    rw[Jw6 J4 ev 00,XZ]
    exact⟨_,_,rfl,rfl,by rw[Zs,ZaP];omega,tm.new ev⟩
  ·rintro _ _ ⟨kvs',b',rfl,rfl,lm,tm⟩
   rw[Zg]at lm tm
   rw[Za1<|Zm _]at tm
   have ltn:((rs.map (·.2)).take n).length=n:=by rw[Zaa];omega
   exact⟨kvs',_,_,_,rfl,rfl,00,tm.next ltn⟩
 ·rintro _ _ ⟨kvs,g,a,b,rfl,rfl,ln,td⟩
  simp![Jga]
  refine⟨_,kvs,rfl,J4,λx=>?_,.cons _ _ _⟩
  have:=td x
  rw[Qa,Za1<|by rw[Zg];omega]at this
  rw[this]
  cases fstK (rs.map (·.2)) x with
  |some i=>rfl
  |none=>simp[has,fV]
theorem Jph(kvs:Wm)(k k':Key)(v:IV):valI (putD kvs k v) k'=if k=k' then Za v else valI kvs k':=by
 unfold putD
 have any_iff:∀l:Wm,(l.any λkv=>decide (kv.1=k))=(valI l k).isSome:=by
  intro l
  induction l with
  |nil=>rfl
  |cons p r ih=>
   rw[ZbF,ih]
   by_cases e:p.1=k
   ·rw[QX e];simp[e]
   ·rw[QI e];simp[e]
 split
 ·rename_i ha
  have key:∀l:Wm,valI (l.map λkv=>if kv.1=k then(kv.1,v)else kv) k'=if k=k' then(if (valI l k).isSome then Za v else Zc)else valI l k':=by
   intro l
   induction l with
   |nil=>by_cases e:k=k'<;>simp[valI]
   |cons p r ih=>
    rw[Z1]
    by_cases e:p.1=k
    ·rw[if_pos e]
     by_cases e2:k=k'
     ·rw[QX (by rw[<-e2];exact e),if_pos e2,QX e];rfl
     ·rw[QI (by rw[e];exact e2),ih,if_neg e2,if_neg e2,QI<|by rw[e];exact e2]
    ·rw[if_neg e]
     by_cases e2:p.1=k'
     ·have:¬k=k':=λz=>e<|e2.trans z.symm
      rw[QX e2,if_neg this,QX e2]
     ·rw[QI e2,ih,QI e,QI e2]
  rw[key,<-any_iff,ha]
  simp
 ·rename_i ha
  have hn:valI kvs k=Zc:=by
   have:=any_iff kvs
   cases q:valI kvs k with
   |none=>rfl
   |some z=>rw[q]at this;exact absurd this ha
  have key:∀l:Wm,valI (l++[(k,v)]) k'=match valI l k' with
    |some w=>Za w
    |none=>if k=k' then Za v else Zc:=by
   intro l
   induction l with
   |nil=>
    by_cases e:k=k'
    ·rw[Zaw,QX e,if_pos e];rfl
    ·rw[Zaw,QI e,if_neg e];rfl
   |cons p r ih=>
    by_cases e:p.1=k'
    ·rw[Zaf,QX e,QX e]
    ·rw[Zaf,QI e,QI e,ih]
  rw[key]
  by_cases e:k=k'
  ·subst e;rw[hn,if_pos rfl]
  ·rw[if_neg e,if_neg e];cases valI kvs k'<;>rfl
theorem Jyg(hi:h[i]?=Za (.dct kvs)):WR (cInD (.int x) (.ref i) h) Q=Q (.bl (valI kvs<|.inl x).isSome) h:=by
 unfold cInD
 simp only[hi,keyI]
 rfl
theorem Jyh(hi:h[i]?=Za (.dct kvs))(e:valI kvs (.inl x)=Za v):WR (Vi (.ref i) (.int x) h) Q=Q v h:=by
 unfold Vi
 simp only[hi,keyI,e]
 rfl
theorem Jum(o i:E1)(v:IV):WS (gSbD o i v σ h) N R=WR (o σ h) λov h1=>WR (i σ h1) λiv h2=>WS (YI ov iv v σ h2) N R:=by
 unfold gSbD
 rw[QJ]
 congr 1
 funext ov h1
 rw[QJ]
theorem Jpw(hi:h[i]?=Za (.dct kvs))(hl:kvs.length<sizeLine):WS (YI (.ref i) (.int x) v σ h) N R=N σ (h.set i<|.dct<|putD kvs (.inl x) v):=by
 unfold YI
 simp only[hi,keyI,hl,if_true]
 rfl
end
section
seal L4.run
theorem Jyo{α:Type}{x y z u v w:α}{xs:List α}:atI (x::y::z::u::v::w::xs) 5=Za w:=JE (n:=5) rfl
structure Cm where
 at_:Nat
 come:Int
 late:Int
 len:Int
abbrev _root_.Tt:=List Cm
noncomputable abbrev tupC (c:Cm):IV:=.tup [.int c.at_,.int c.come,.int c.late,.int c.len]
structure COk(rs:Ts)(c:Cm):Prop where
 at_:c.at_<rs.length
 come:0<=c.come
 l0:0<=c.late
 l1:c.late<=(rs[c.at_]).1.late
 n1:1<=c.len
 n2:c.len<=(rs[c.at_]).1.len
structure Legal(rs:Ts)(cs:Tt):Prop where
 ok:∀c∈cs,COk rs c
 far:∀(i j:Nat)(a b:Cm),i<j->cs[i]?=Za a->cs[j]?=Za b->a.at_=b.at_->∀r,rs[a.at_]?=Za r->a.come+r.1.gap<=b.come
theorem Ju4{h h':IH}(k:Kp h h'):Ex h h':=by
 refine⟨h'.drop h.length,Zca λi=>?_⟩
 by_cases hi:i<h.length
 ·rw[ZE hi,Zb hi]
  exact k i _<|Zb hi
 ·rw[Z8 00,Zd3]
  congr 1
  omega
section
variable{k:Nat}{h:IH}
theorem J1m{i:Nat}{ms:Tk}{Q:IV->IH->Prop}(hi:h[i]?=Za (.lst<|ms.map .int))(hm:ms≠[]):WR (Vg (.ref i) h) Q=Q (.int<|JJ (λi=>ms.getD i 0) ms.length) h:=by
 unfold Vg
 simp only[hi,Vy,hm,if_false]
 rfl
end
end
theorem Jxp(q:IsNm x):ZaC (.str x)=Zh:=by
 rw[ZaC]
 unfold PyData.strOk
 rw[<-Array.all_toList,Zbe]
 intro c hc
 have:=q.2.2 c hc
 simp only[decide_eq_true_eq]
 omega
def dS(v:IV):Zdg:=match v with
 |.str x=>.str x
 |_=>.none
section
variable{k:Nat}{h:IH}
theorem Jzl{zs:Tg}(hi:h[i]?=Za (.lst<|zs.map .str))(hz:∀z∈zs,IsNm z)(hx:IsNm x):cIn (.str x) (.ref i) h=.ok (.bl<|zs.any λa=>decide (a=x)) h:=by
 have e1:toD h 6 (.ref i)=Za (.list<|(zs.map IV.str).map dS):=by
  rw[Jks hi,Jkc (g:=dS) λv hv=>?_]
  ·rfl
  ·obtain⟨z,_,rfl⟩:=Zz.mp hv
   rfl
 have e2:toD h 6 (.str x)=Za (.str x):=rfl
 have c1:ZY ((zs.map IV.str).map dS)=Zh:=Jst λv hv=>by
  obtain⟨z,q,rfl⟩:=Zz.mp hv
  exact Jxp<|hz z q
 have e3:inI (.str x) (.ref i) h=Za (zs.any λa=>decide (a=x)):=by
  unfold inI
  rw[e1,e2]
  dsimp only
  rw[if_pos ⟨c1,Jxp hx⟩]
  clear c1 e1 hi hz
  congr 1
  induction zs with
  |nil=>rfl
  |cons z zs ih=>
   rw[Z1,Z1,ZbF,ZbF,ih]
   rfl
 unfold cIn
 rw[e3]
end
noncomputable def actv (d:Int)(a:Hd):Bool:=decide (a.2.1<d)&&decide (d<a.2.2)
def act(hs:Tr)(d:Int):Tg:=(hs.filter<|actv d).map (·.1)
noncomputable def avV (d:Int)(v:IV):Bool:=match v with
 |.tup [.str _,.int s,.int e]=>decide (s<d)&&decide (d<e)
 |_=>Zk
theorem avE:avV d (.tup [.str x,.int s,.int e])=(decide (s<d)&&decide (d<e)):=rfl
noncomputable def frs (v:IV):IV:=match v with
 |.tup (x::_)=>x
 |_=>.non
theorem Jq7(d:Int):∀hs:Tr,((hs.map tupH).filter<|avV d).map frs=(act hs d).map IV.str
 |[]=>rfl
 |a::hs=>by
  have ih:=Jq7 d hs
  unfold act at *
  rw[Z1]
  by_cases q:actv d a=Zh
  ·have q':avV d (tupH a)=Zh:=q
   rw[ZdT q',ZdT q,Z1,Z1,Z1,ih]
   rfl
  ·have q':¬avV d (tupH a)=Zh:=q
   rw[ZdU q',ZdU q,ih]
theorem Jyl(hs:Tr)(d:Int):(act hs d).length<=hs.length:=by
 unfold act
 rw[Zg]
 exact Za6 ..
theorem Jym(h:x∈act hs d):∃a∈hs,a.1=x:=by
 unfold act at h
 obtain⟨a,ha,rfl⟩:=Zz.mp h
 exact⟨a,(Za3.mp ha).1,rfl⟩
theorem Yr(f:Nat->Int):∀(n j:Nat),j<n->QE f n<=f j
 |0,j,h=>00
 |1,j,h=>by
  have:j=0:=00
  subst this
  exact ZJ _
 |n+2,j,h=>by
  rw[Jf0 f (by omega:0<n+1)]
  by_cases e:j=n+1
  ·subst e
   split<;>omega
  ·have:=Yr f (n+1) j 00
   split<;>omega
theorem Jnb(f:Nat->Int):∀(n:Nat),0<n->∃j,j<n/\QE f n=f j
 |0,h=>00
 |1,_=>⟨0,00,rfl⟩
 |n+2,_=>by
  rw[Jf0 f (by omega:0<n+1)]
  obtain⟨j,hj,e⟩:=Jnb f (n+1) 00
  split
  ·exact⟨n+1,00,rfl⟩
  ·exact⟨j,00,e⟩
def fZ(hss:Wi)(x:Str):Int:=match fstK hss x with
 |some j=>(j:Int)
 |none=>0
def rkNs(hss:Wi)(zs:Tg)(a:Nat):Tk:=(a:Int)::zs.map (fZ hss)
def rk(hss:Wi)(zs:Tg)(a:Nat):Int:=QE (λi=>(rkNs hss zs a).getD i 0) (rkNs hss zs a).length
def fstV(hss:Wi)(v:IV):IV:=match v with
 |.str t=>.int<|fZ hss t
 |_=>.non
noncomputable def stT (v:IV):ISt:=match v with
 |.tup [x,y,z]=>[Za x,Za y,Za z]
 |_=>[Zc,Zc,Zc]
section
variable{k:Nat}{h:IH}
theorem Juc{ns:Tk}(hi:h[i]?=Za (.lst<|ns.map .int))(hn:ns≠[]):WR (Xn (.ref i) h) Q=Q (.int<|QE (λi=>ns.getD i 0) ns.length) h:=by
 unfold Xn
 simp only[hi,Vy]
 rw[if_neg hn]
 rfl
theorem Jt9(hi:h[i]?=Za (.dct kvs))(e:valI kvs (.inr x)=Za v):WR (Vi (.ref i) (.str x) h) Q=Q v h:=by
 unfold Vi
 simp only[hi,keyI,e]
 rfl
theorem Jm4{gap len due late d:Int}{hs:Tr}(hw:h[w]?=Za (.ins "Work"<|wfs name gap len due late<|hs.map tupH))(l6:hs.length<=6):
  WR (Jas (k+2) [.ref w,.int d] h) λv h'=>∃i,v=.ref i/\h.length<=i/\h'[i]?=Za (.lst<|(act hs d).map .str)/\Ex h h':=by
 have hb:=J2
 rw[Jir]
 simp![Jcz]
 refine WR.mono (YU (h:=h++[IX.lst<|hs.map tupH]) (xs:=hs.map tupH) (chk:=λh'=>h'[h.length]?=Za (.lst<|hs.map tupH)) (p:=avV d) (f:=frs) ?_ (by rw[Zg];omega) (λh2 q=>q _ _ Jm) ?_ ?_) ?_
 ·rw[JU,Xd (i:=w) (h1:=h) rfl hw flh (Jbi _)]
  simp![Jfr hw,JM,Jm]
 ·intro v hv h2 q
  obtain⟨a,_,rfl⟩:=Zz.mp hv
  simp only[Z1,Zbi,Za8,Za9,ZbN]
  simp![Jbr,tupH,avE,decide_eq_true_eq,decide_eq_false_iff_not]
  exact⟨λz=>⟨by simp[z],.refl _⟩,λz=>⟨by simp[z],.refl _⟩⟩
 ·intro v hv _ h2 q
  obtain⟨a,_,rfl⟩:=Zz.mp hv
  simp![Jbq,tupH,frs]
  exact .refl _
 ·rintro _ _ ⟨rfl,g,rfl⟩
  rw[Jq7]
  exact⟨_,rfl,by rw[Zs];omega,J4,(Ex.one _ _).trans<|.cons _ _ _⟩
theorem Jsx{a i t:Nat}{zs:Tg}(gi:h[i]?=Za (.lst<|zs.map .str))(gt:h[t]?=Za (.dct kvs))(tv:∀x,(valI kvs<|.inr x).getD .non=fV (fstK hss x))(hz:∀z∈zs,fstK hss z≠Zc)(la:zs.length<=6):
  WR (Jjc (k+1) [.int (a:Int),.ref i,.ref t] h) λv h'=>v=.int (rk hss zs a)/\Ex h h':=by
 have hb:=J2
 rw[Jr8]
 simp![Ji3,ZA,ZaD]
 refine⟨00,?_⟩
 have x3:Ex h (h++[IX.lst [IV.int (a:Int)]]):=.one _ _
 have gA:(h++[IX.lst [IV.int (a:Int)]])[h.length]?=Za (.lst<|[(a:Int)].map IV.int):=Jm
 generalize h.length=A at gA
 generalize h++[IX.lst [IV.int (a:Int)]]=h3 at x3 gA
 refine WR.mono (Qe (h:=h3) (xs:=zs.map IV.str) (chk:=λh'=>h'[i]?=Za (.lst<|zs.map IV.str)) (f:=fstV hss) ?_ (by rw[Zg];omega) (λh4 q=>q _ _<|x3.get gi) ?_) ?_
 ·simp![JM,x3.get gi]
 ·intro v hv h4 q
  obtain⟨x,hx,rfl⟩:=Zz.mp hv
  have e1:=tv x
  have ne:=hz x hx
  cases ef:fstK hss x with
  |none=>exact absurd ef ne
  |some jj=>
   rw[ef]at e1
   have e2:valI kvs (.inr x)=Za (.int (jj:Int)):=by
    cases ev:valI kvs (.inr x)with
    |none=>rw[ev]at e1;cases e1
    |some v=>rw[ev]at e1;rw[show v=.int (jj:Int)from e1]
   simp only[Z1,Zbi,Za8,Za9,ZbN]
   simp![Jgf]
   rw[Jt9 (q _ _<|x3.get gt) e2]
   exact⟨by simp only[fstV,fZ,ef],.refl _⟩
 ·rintro _ _ ⟨rfl,g,rfl⟩
  have em:(zs.map IV.str).map (fstV hss)=(zs.map<|fZ hss).map IV.int:=by
   rw[Zai,Zai]
   rfl
  rw[em]
  have x4:Ex h3 (h3++IX.lst ((zs.map<|fZ hss).map IV.int)::g):=.cons _ _ _
  simp![Jkw,x4.get gA,J4,Zg,ZA,ZaD]
  refine⟨00,?_⟩
  rw[<-Zat]
  rw[show[(a:Int)]++zs.map (fZ hss)=rkNs hss zs a from rfl,Juc (ns:=rkNs hss zs a) Jm<|by simp[rkNs]]
  exact⟨rfl,(x3.trans x4).trans<|.one _ _⟩
theorem Jyk{rs:Ts}{a:Nat}(ha:a<rs.length){d:Int}:∀z∈act (rs[a]).2 d,fstK (rs.map (·.2)) z≠Zc:=λz q=>by
 obtain⟨b,hb',rfl⟩:=Jym q
 intro e
 unfold fstK at e
 rw[Zb7]at e
 have:=e (rs[a]).2 (Zz.mpr ⟨rs[a],Zw ha,rfl⟩)
 unfold has at this
 have t2:((rs[a]).2.any λx=>decide (x.1=b.1))=Zh:=Zbf.mpr ⟨b,hb',03⟩
 rw[t2]at this
 cases this
abbrev ofs(D T:Nat):Wl:=[("duty",.ref D),("tops",.ref T)]
abbrev ofs1(D:Nat):Wl:=[("duty",.ref D)]
theorem op0:putI "duty" a ([]:Wl)=([("duty",a)]:Wl):=02
theorem op1:putI "tops" b ([("duty",a)]:Wl)=([("duty",a),("tops",b)]:Wl):=02
theorem ol0{D T:Nat}:(ofs D T).lookup ("duty":Str)=Za (.ref D):=02
theorem ol1{D T:Nat}:(ofs D T).lookup ("tops":Str)=Za (.ref T):=02
theorem olr{D T:Nat}:(ofs D T).lookup ("rank_of":Str)=Zc:=02
theorem olh{D T:Nat}:(ofs D T).lookup ("holds":Str)=Zc:=02
def IsOr(h:IH)(O:Nat)(rs:Ts):Prop:=∃D,IsDu h D rs/\∃T kvs,h[O]?=Za (.ins "ByRank"<|ofs D T)/\h[T]?=Za (.dct kvs)/\∀x,(valI kvs<|.inr x).getD .non=fV (fstK (rs.map (·.2)) x)
theorem IsOr.kp(k:Kp h h')(o:IsOr h O rs):IsOr h' O rs:=by
 obtain⟨D,d,T,kvs,b,c,e⟩:=o
 exact⟨D,d.kp k,T,kvs,k _ _ b,k _ _ c,e⟩
theorem Jqq(hO:h[O]?=Za (.ins c [])):Jcp (k+1) [.ref O,.ref D] h=.ok .non (h.set O<|.ins c<|ofs1 D):=by
 refine Js ?_
 rw[Jj1]
 simp![Jds,Xf]
 refine⟨_,_,_,rfl,hO,01,?_⟩
 rw[op0]
theorem Jtb(d:IsDu h D rs)(hl:rs.length<=12)(h6:∀r∈rs,r.2.length<=6):WR (Jar (k+4) [.ref h.length,.ref D]<|h++[.ins "ByRank" []]) λv h'=>v=.non/\Ex h h'/\IsOr h' h.length rs:=by
 rw[Jin]
 simp![Jcu,Jcv,Jqq (k:=k+2) (h:=h++[.ins "ByRank" []]) Jm,Xr,Xf]
 have x1:Ex h (h++[IX.ins "ByRank"<|ofs1 D]):=.one _ _
 have d1:=d.kp x1.kp
 obtain⟨vs,gD,w⟩:=id d1
 refine WR.mono (Jhk (k:=k+1) gD w hl h6) ?_
 rintro _ _ ⟨t,kvs,rfl,gt,tv,g,rfl⟩
 refine⟨_,_,_,rfl,grow Jm,by show(1:Nat)<1000;decide,?_⟩
 rw[op1]
 have e:(h++[IX.ins "ByRank"<|ofs1 D]++g).set h.length (.ins "ByRank"<|ofs D t)=h++.ins "ByRank" (ofs D t)::g:=by
  rw[Zac,Zaf,Zaw,XZ]
 rw[e]
 have kb:KpB h.length (h++[IX.ins "ByRank"<|ofs1 D]++g) (h++IX.ins "ByRank" (ofs D t)::g):=λj o hj z=>by
  rw[<-e,ZT<|Zab hj]
  exact z
 have ht:t≠h.length:=λz=>by
  rw[z]at gt
  have:(h++[IX.ins "ByRank"<|ofs1 D]++g)[h.length]?=Za (.ins "ByRank"<|ofs1 D):=grow Jm
  rw[this]at gt
  cases gt
 exact⟨.cons _ _ _,D,d.kp (Ex.cons _ _ _).kp,t,kvs,J4,kb _ _ ht gt,tv⟩
end
section
seal L4.run L4.WS
section
variable{k:Nat}{h:IH}
theorem argC(ea:a σ h=.ok x h1)(eb:b σ h1=.ok xs h2):Jb a b σ h=.ok (x::xs) h2:=by
 show(a σ h).bind (λx h1=>(b σ h1).bind λxs h2=>.ok (x::xs) h2)=_
 rw[ea]
 show(b σ h1).bind _=_
 rw[eb]
 rfl
theorem wkE(hD:h[D]?=Za (.ins "Duty"<|dfs vs))(eo:o σ h=.ok (.ref D) h)(ee:e σ h=.ok (.int n) h)(av:atI vs n=Za (.ref j)):Jp (pg<|k+1) "work" 1 o (Jb e Jd) σ h=.ok (.ref j) h:=dotE eo hD dlw (Jda _) (arg1 ee)<|Jhp hD av
theorem Jrn{O D T:Nat}{rs:Ts}{kvs:Wm}{c:Cm}{d:Int}(hd:IsDu h D rs)(gO:h[O]?=Za (.ins "ByRank"<|ofs D T))(gT:h[T]?=Za (.dct kvs))(tv:∀x,(valI kvs<|.inr x).getD .non=fV (fstK (rs.map (·.2)) x))(ha:c.at_<rs.length)(l6:∀r∈rs,r.2.length<=6):
  WR (Jao (k+3) [.ref O,tupC c,.int d] h) λv h'=>v=.int (rk (rs.map (·.2)) (act (rs[c.at_]).2 d) c.at_)/\Ex h h':=by
 obtain⟨vs,gD,w⟩:=hd
 obtain⟨j,ej,gj⟩:=w.get<|Zb ha
 have av:atI vs (c.at_:Int)=Za (.ref j):=JE ej
 have hz:=Jyk ha (d:=d)
 have l:=l6 _<|Zw ha
 generalize rs[c.at_]=r at gj hz l
 rw[Jf2]
 refine xfin<|xret<|xb<|xb ?_
 refine Je (ixtE rfl rfl Qb)<|xb<|xb<|xb<|Je (arg2 (wkE gD (fldE rfl gO ol0) (ixtE rfl rfl Qb) av) rfl)<|WR.mono (Jm4 (k:=k) gj l) ?_
 rintro _ h1 ⟨i,rfl,li,gi,x1⟩
 have la:=Jyl r.2 d
 refine xb<|Je (arg1<|fldE rfl (x1.get gO) ol1)<|Je rfl (Je rfl (WR.mono (Jsx (k:=k+1) gi (x1.get gT) tv hz 00) ?_))
 rintro _ h2 ⟨rfl,x2⟩
 exact⟨rfl,x1.trans x2⟩
theorem Jlh{O D T:Nat}{c:Cm}{d:Int}(hd:IsDu h D rs)(gO:h[O]?=Za (.ins "ByRank"<|ofs D T))(ha:c.at_<rs.length)(l6:∀r∈rs,r.2.length<=6):
  WR (Jbk (k+3) [.ref O,tupC c,.int d] h) λv h'=>v=.bl (!(act (rs[c.at_]).2 d).isEmpty)/\Ex h h':=by
 obtain⟨vs,gD,w⟩:=hd
 obtain⟨j,ej,gj⟩:=w.get<|Zb ha
 have av:atI vs (c.at_:Int)=Za (.ref j):=JE ej
 have l:=l6 _<|Zw ha
 generalize rs[c.at_]=r at gj l
 rw[Jht]
 obtain⟨_,h1,e1,i,rfl,li,gi,x1⟩:=(Jm4 (k:=k) (d:=d) gj l).eq
 refine xfin<|xret<|Je ((binE (lenE (JB (arg2 (wkE gD (fldE rfl gO ol0) (ixtE rfl rfl Qb) av) rfl) e1) gi) rfl).trans rfl) ⟨?_,x1⟩
 rw[Zg]
 cases act r.2 d<;>simp
def Yo(rs:Ts)(c:Cm)(d:Int):Int:=rk (rs.map (·.2)) (act (rs.getD c.at_ rd).2 d) c.at_
def X2(rs:Ts)(c:Cm)(d:Int):Bool:=!(act (rs.getD c.at_ rd).2 d).isEmpty
theorem Qm{rs:Ts}(hn:n<rs.length):rs.getD n rd=rs[n]:=by rw[Zi,Zb hn];rfl
theorem Js8(o:IsOr h O rs):∃Du,IsDu h Du rs/\∀(e:E1) (σ:ISt),e σ h=.ok (.ref O) h->Jq "duty" e σ h=.ok (.ref Du) h:=by
 obtain⟨D,hd,T,kvs,gO,_⟩:=o
 exact⟨D,hd,λe σ he=>fldE he gO ol0⟩
theorem Jp0{O:Nat}{d:Int}{oe e1 e2:E1}(o:IsOr h O rs)(ho:oe σ h=.ok (.ref O) h)(h1:e1 σ h=.ok (tupC c) h)(h2:e2 σ h=.ok (.int d) h)(ha:c.at_<rs.length)(l6:∀r∈rs,r.2.length<=6):
  WR (Jp (pg<|k+3) "rank_of" 2 oe (Jb e1<|Jb e2 Jd) σ h) λv h'=>v=.int (Yo rs c d)/\Ex h h':=by
 obtain⟨D,hd,T,kvs,gO,gT,tv⟩:=o
 refine Yi ho gO olr (Jf1 _)<|Je (arg2 h1 h2)<|WR.mono (Jrn (k:=k) hd gO gT tv ha l6) ?_
 rintro _ h3 ⟨rfl,x3⟩
 exact⟨by rw[Yo,Qm ha],x3⟩
theorem Jm7(o:IsOr h O rs)(ho:oe σ h=.ok (.ref O) h)(h1:e1 σ h=.ok (tupC c) h)(h2:e2 σ h=.ok (.int d) h)(ha:c.at_<rs.length)(l6:∀r∈rs,r.2.length<=6):
  WR (Jp (pg<|k+3) "holds" 2 oe (Jb e1<|Jb e2 Jd) σ h) λv h'=>v=.bl (X2 rs c d)/\Ex h h':=by
 obtain⟨D,hd,T,kvs,gO,gT,tv⟩:=o
 refine Yi ho gO olh (Jhn _)<|Je (arg2 h1 h2)<|WR.mono (Jlh (k:=k) hd gO ha l6) ?_
 rintro _ h3 ⟨rfl,x3⟩
 exact⟨by rw[X2,Qm ha],x3⟩
end
end
def cd:Cm:=⟨0,0,0,0⟩
def keyN(rs:Ts)(cs:Tt)(ds:Tk)(n:Nat):Tk:=[Yo rs (cs.getD n cd)<|ds.getD n 0,if X2 rs (cs.getD n cd) (ds.getD n 0)=Zh then 0 else 1,(n:Int)]
def keyV(rs:Ts)(cs:Tt)(ds:Tk)(v:IV):Tk:=match v with
 |.int x=>keyN rs cs ds x.toNat
 |_=>[0,0,0]
theorem Jxs:∀{a b:Tk},a.length=b.length->ltL a b=Zk->ltL b a=Zk->a=b
 |[],[],_,_,_=>rfl
 |a::as,b::bs,l,h1,h2=>by
  unfold ltL at h1 h2
  by_cases e:a=b
  ·subst e
   rw[if_pos rfl]at h1 h2
   rw[Jxs (by simpa using l) h1 h2]
  ·rw[if_neg e,decide_eq_false_iff_not]at h1
   rw[if_neg<|Zab e,decide_eq_false_iff_not]at h2
   omega
 |[],_::_,l,_,_=>by simp at l
 |_::_,[],l,_,_=>by simp at l
section
variable{k:Nat}{h:IH}
theorem J08(hx:xs≠[])(hy:ys≠[])(hl:xs.length+ys.length<=sizeLine):WR (Jl (.tup xs) (.tup ys) h) Q=Q (.tup<|xs++ys) h:=by
 unfold Jl
 dsimp only
 rw[if_pos ⟨hx,hy,hl⟩]
 rfl
theorem ols{D T:Nat}:(ofs D T).lookup ("standing":Str)=Zc:=02
theorem olp{D T:Nat}:(ofs D T).lookup ("pick":Str)=Zc:=02
abbrev stv(rs:Ts)(c:Cm)(d:Int):IV:=.tup [.int<|Yo rs c d,.int (if X2 rs c d=Zh then 0 else 1)]
theorem Jn5{c:Cm}{d:Int}(o:IsOr h O rs)(ha:c.at_<rs.length)(l6:∀r∈rs,r.2.length<=6):
  WR (Jap (k+4) [.ref O,tupC c,.int d] h) λv h'=>v=stv rs c d/\Ex h h':=by
 have hb:=J2
 rw[Jf3]
 simp![Ja9]
 refine WR.mono (Jp0 (k:=k) (c:=c) (d:=d) o rfl rfl rfl ha l6) ?_
 rintro _ h1 ⟨rfl,x1⟩
 refine WR.mono (Jm7 (k:=k) (c:=c) (d:=d) (o.kp x1.kp) rfl rfl rfl ha l6) ?_
 rintro _ h2 ⟨rfl,x2⟩
 have x:=x1.trans x2
 simp![ZA,ZaD,stv]
 cases X2 rs c d with
 |true=>exact⟨λ_=>⟨00,rfl,x⟩,λz=>by cases z⟩
 |false=>exact⟨(λz=>by cases z),λ_=>⟨00,rfl,x⟩⟩
theorem Jic{O:Nat}{d:Int}{oe e1 e2:E1}(o:IsOr h O rs)(ho:oe σ h=.ok (.ref O) h)(h1:e1 σ h=.ok (tupC c) h)(h2:e2 σ h=.ok (.int d) h)(ha:c.at_<rs.length)(l6:∀r∈rs,r.2.length<=6):
  WR (Jp (pg<|k+4) "standing" 2 oe (Jb e1<|Jb e2 Jd) σ h) λv h'=>v=stv rs c d/\Ex h h':=by
 have so:=Jn5 (k:=k) (d:=d) o ha l6
 obtain⟨D,hd,T,kvs,gO,gT,tv⟩:=o
 rw[Xd (i:=O) (h1:=h) ho gO ols<|Jfi _]
 simp![h1,h2]
 exact so
theorem J0d{O R W N:Nat}{ps:Tl}{ds:Tk}(h0:h[0]?=Za (.tab "Order.pick"))(o:IsOr h O rs)(l6:∀r∈rs,r.2.length<=6)(hc:∀c∈cs,c.at_<rs.length)
  (gR:h[R]?=Za (.lst<|cs.map tupC))(gW:h[W]?=Za (.lst (ps.map λp:Nat=>.int p)))(gN:h[N]?=Za (.lst<|ds.map .int))(ld:ds.length=cs.length)(ne:ps≠[])(hp:∀p∈ps,p<cs.length):
  WR (Ja8 (k+5) [.ref O,.ref R,.ref W,.ref N] h) λv h'=>∃p∈ps,v=.int (p:Int)/\(∀p'∈ps,ltL (keyN rs cs ds p') (keyN rs cs ds p)=Zk)/\Ex h h':=by
 have hb:=J2
 rw[Jj2]
 simp![Jdt]
 rw[J1n h0 rfl]
 refine WR.mono (Jua (kf:=keyV rs cs ds) (n:=3) gW (by simpa using ne) ?_ ?_) ?_
 ·intro y hy h1 x1
  obtain⟨p,hp',rfl⟩:=Zz.mp hy
  have lp:=hp p hp'
  have ac:atI (cs.map tupC) (p:Int)=Za (tupC cs[p]):=JE<|by rw[Z4,Zb lp];rfl
  have ad:atI (ds.map IV.int) (p:Int)=Za (.int<|ds[p]' 00):=JE<|by rw[Z4,Zb];rfl
  have ek:keyV rs cs ds (.int (p:Int))=[Yo rs cs[p]<|ds[p]' 00,if X2 rs cs[p] (ds[p]' 00)=Zh then 0 else 1,(p:Int)]:=by
   show keyN rs cs ds (Zc0 (p:Int))=_
   rw[ZaZ]
   unfold keyN
   rw[Zi,Zi,Zb lp,Zb<|show p<ds.length by omega]
   rfl
  have hc':=hc _<|Zw lp
  rw[ek]
  generalize cs[p]=c at ac hc'
  generalize ds[p]' 00=d at ad
  simp only[Z1,Zbi,Za8,Za9,ZbN]
  generalize hσ:([Za<|.int (p:Int),Za<|.ref N,Za<|.ref R,Za<|.ref O]:ISt)=σ
  have e1:Jc Jf 'c' 'a' σ h1=.ok (tupC c) h1:=Js<|by subst hσ;simp![Jpp,x1.get gR,ac]
  have e2:Jc Jf 'b' 'a' σ h1=.ok (.int d) h1:=Js<|by subst hσ;simp![Jpp,x1.get gN,ad]
  simp![Jcm]
  refine WR.mono (Jic (k:=k) (o.kp x1.kp) (by subst hσ;rfl) e1 e2 hc' l6) ?_
  rintro _ h2 ⟨rfl,x2⟩
  subst hσ
  simp![stv,ZA,ZaD]
  refine⟨00,?_⟩
  rw[J08 03 03<|by simp;omega]
  exact⟨rfl,x2⟩
 ·intro y hy
  obtain⟨p,hp',rfl⟩:=Zz.mp hy
  rfl
 ·rintro v h1 ⟨hv,le,x1⟩
  obtain⟨p,hp',rfl⟩:=Zz.mp hv
  refine⟨p,hp',rfl,λp' q=>?_,x1⟩
  have:=le _<|Zz.mpr ⟨p',q,rfl⟩
  simpa only[keyV,ZaZ]using this
theorem Jpz{O:Nat}{oe:E1}{a:A1}{v1 v2 v3:IV}(o:IsOr h O rs)(ho:oe σ h=.ok (.ref O) h)(h1:a σ h=.ok [v1,v2,v3] h)(q:WR (Ja8 k [.ref O,v1,v2,v3] h) P):
  WR (Jp (pg k) "pick" 3 oe a σ h) P:=by
 obtain⟨D,hd,T,kvs,gO,gT,tv⟩:=o
 rw[Xd (i:=O) (h1:=h) ho gO olp<|Jil _,h1]
 simp![true_and]
 exact q
end
section
seal L4.run L4.WS
noncomputable def rdC (c:Cm):Int:=c.come+c.late
section
variable{k:Nat}{h:IH}
theorem chL(ea:a σ h=.ok (.int i) h1)(eb:b σ h1=.ok (.int j) h2)(ec:c σ h2=.ok (.int l) h3)(t1:i<=j)(t2:j<=l):JO cLe cLe a b c σ h=.ok (.bl Zh) h3:=by
 unfold JO
 rw[ea]
 dsimp only[Res.bind]
 rw[eb]
 show(match IV.bl (decide (i<=j))with|.bl Zh=>_|.bl Zk=>_|_=>_)=_
 rw[decide_eq_true t1]
 show(c σ h2).bind _=_
 rw[ec]
 show Res.ok (IV.bl<|decide (j<=l)) h3=_
 rw[decide_eq_true t2]
theorem Jvn(hd:IsDu h D rs)(ok:COk rs c):WR (Jd4 (k+3) [.ref D,tupC c] h) λv h'=>v=.bl Zh/\Ex h h':=by
 have hb:=J2
 obtain⟨vs,hD,w⟩:=hd
 have wl:=w.len
 obtain⟨a,b,c,d⟩:=c
 obtain⟨q1,q2,q3,q4,q5,q6⟩:=ok
 have q1:a<rs.length:=q1
 obtain⟨j,ev,gj⟩:=w.get<|Zb q1
 have av:=JE ev
 have q4:c<=(rs[a]).1.late:=q4
 have q6:d<=(rs[a]).1.len:=q6
 generalize rs[a]=r at gj q4 q6
 rw[Jlx]
 refine xfin<|xseq<|xiff rfl (xnil<|xseq ?_)
 obtain⟨_,_,ec,rfl,g,rfl⟩:=(Qe (it:=Ju 'b') (e:=Ja6<|k+2) (js:=[]) (σ:=[Za<|.ref D,Za<|tupC ⟨a,b,c,d⟩,Zc]) (h0:=h) (h:=h) (xs:=[IV.int (a:Int),IV.int b,IV.int c,IV.int d]) (chk:=λ_=>True) (f:=λ_=>.bl Zh) ⟨rfl,rfl,rfl⟩ (by simp;omega) (λ_ _=>trivial) (by
  intro v hv h2 q
  obtain⟨i,rfl⟩:∃i,v=.int i:=by
   simp only[Z6,ZF,or_false]at hv
   rcases hv with rfl|rfl|rfl|rfl<;>exact⟨_,rfl⟩
  unfold Ja6
  exact Je (JB (arg1 rfl)<|Jgg _) ⟨rfl,.refl _⟩)).eq
 refine xiff (notE (c:=Zh)<|truE<|(cbE<|arg1 ec).trans<|all_map (f:=λ_=>Zh) J4)<|xnil ?_
 have x1:Ex h (h++IX.lst ([IV.int (a:Int),IV.int b,IV.int c,IV.int d].map λ_=>.bl Zh)::g):=.cons _ _ _
 generalize h++IX.lst ([IV.int (a:Int),IV.int b,IV.int c,IV.int d].map λ_=>.bl Zh)::g=h1 at x1
 have D1:=x1.get hD
 refine xseq (xiff (orF (notE<|tofE<|chT rfl (ixtE rfl rfl Qb) (dotE rfl D1 dls (Jc9 _) rfl (Jho D1)) (ZbT a) (by rw[wl];omega))<|okc (ltE (ixtE rfl rfl JN) rfl)<|decide_eq_false<|Int.not_lt.mpr q2)<|xnil<|xseq<|xset<|Je (wkE D1 rfl (ixtE rfl rfl Qb) av) ?_)
 exact xret<|Je (Jy6 (chL rfl (ixtE rfl rfl Qk) (fldE rfl (x1.get gj) fl4) q3 q4)<|chL rfl (ixtE rfl rfl QO) (fldE rfl (x1.get gj) fl2) q5 q6) ⟨rfl,x1⟩
theorem Jy7{cs:Tt}(hd:IsDu h D rs)(gR:h[R]?=Za (.lst<|cs.map tupC))(L:Legal rs cs)(hl:cs.length<=1000):
  WR (Jbw (k+4) [.ref D,.ref R] h) λv h'=>v=.non/\Ex h h':=by
 have hb:=J2
 obtain⟨vs,hD,w⟩:=id hd
 rw[Jio]
 refine xfin<|xseq<|xset<|Je rfl (xseq<|xfor ?_)
 rw[VL]
 refine Je (arg1 rfl)<|(Jt5 _).mpr ⟨_,grow gR,?_⟩
 refine Qo (λn σ h'=>∃kvs g a b c,h'=h++IX.dct kvs::g/\σ=[Za<|.ref D,Za<|.ref R,Za<|.ref h.length,a,b,c]/\kvs.length<=n/\∀(a:Nat) v,valI kvs (.inl (a:Int))=Za v->∃i c,i<n/\cs[i]?=Za c/\c.at_=a/\v=.int c.come) ?_ ?_ ?_ ⟨[],[],Zc,Zc,Zc,rfl,rfl,Zm _,λa v e=>by cases e⟩
 ·rintro _ _ _ ⟨kvs,g,a,b,c,rfl,_⟩
  exact grow gR
 ·rintro n hn _ _ ⟨kvs,g,a,b,c,rfl,rfl,ln,td⟩
  rw[Jr3]
  have hc:n<cs.length:=by simpa[XB]using hn
  have x1:Ex h (h++IX.dct kvs::g):=.cons _ _ _
  rw[ZG]
  have ec:cs[n]?=Za cs[n]:=Zb hc
  have ok:=L.ok _<|Zw hc
  generalize cs[n]=ci at ec ok
  obtain⟨_,_,e2,rfl,g2,rfl⟩:=(Jvn (k:=k) (c:=ci) (hd.kp x1.kp) ok).eq
  refine xnx rfl (xseq<|xiff (notE<|truE<|JB (arg2 rfl rfl) e2)<|xnil<|xseq<|xset<|Je (ixtE rfl rfl Qb)<|xseq ?_)
  have eh:h++IX.dct kvs::g++g2=h++IX.dct kvs::(g++g2):=by rw[Zac,Zaf]
  rw[eh]
  have x2:Ex h (h++IX.dct kvs::(g++g2)):=.cons _ _ _
  have hat:=ok.at_
  have er:=Zb hat
  obtain⟨j,ev,gj⟩:=w.get er
  have av:=JE ev
  generalize rs[ci.at_]=r at er gj
  have fin:∀{σ:ISt}(a b c),σ=[Za<|.ref D,Za<|.ref R,Za<|.ref h.length,a,b,c]->∃kvs_1 g_1 a b c,List.set (h++IX.dct kvs::(g++g2)) h.length (IX.dct<|putD kvs (.inl (ci.at_:Int))<|.int ci.come)=h++IX.dct kvs_1::g_1/\σ=[Za<|.ref D,Za<|.ref R,Za<|.ref h.length,a,b,c]/\kvs_1.length<=n+1/\∀(a:Nat) v,valI kvs_1 (.inl (a:Int))=Za v->∃i c,i<n+1/\cs[i]?=Za c/\c.at_=a/\v=.int c.come:=by
   intro σ a b c hσ
   refine⟨_,_,_,_,_,XZ _ _ _,hσ,?_,λa v e=>?_⟩
   ·unfold putD
    split
    ·rw[Zg];omega
    ·rw[Zs,ZaP];omega
   ·rw[Jph]at e
    split at e
    ·rename_i z
     cases e
     exact⟨n,ci,00,ec,by have:=Sum.inl.inj z;omega,rfl⟩
    ·obtain⟨i,c,h1,h2⟩:=td a v e
     exact⟨i,c,00,h2⟩
  have key:∀{σ:ISt}(a b:Tb),σ=[Za<|.ref D,Za<|.ref R,Za<|.ref h.length,a,Za<|tupC ci,Za<|.int (ci.at_:Int)]->∀P,WS (sAsg (Jc Jf 'e' '1') (gSbD 'c' 'f') σ<|h++IX.dct kvs::(g++g2)) (λσ h'=>∃kvs g a b c,h'=h++IX.dct kvs::g/\σ=[Za<|.ref D,Za<|.ref R,Za<|.ref h.length,a,b,c]/\kvs.length<=n+1/\∀(a:Nat) v,valI kvs (.inl (a:Int))=Za v->∃i c,i<n+1/\cs[i]?=Za c/\c.at_=a/\v=.int c.come) P:=by
   rintro σ a b rfl P
   refine(Xy ..).mpr<|Je (ixtE rfl rfl JN) ?_
   rw[Jum]
   refine Je rfl (Je rfl ?_)
   rw[Jpw (J4 (h:=h))<|show kvs.length<sizeLine by omega]
   exact fin _ _ _ rfl
  have ei:∀{σ:ISt}(a b:Tb),σ=[Za<|.ref D,Za<|.ref R,Za<|.ref h.length,a,Za<|tupC ci,Za<|.int (ci.at_:Int)]->Ji asB (Jc cInD 'f' 'c') σ (h++IX.dct kvs::(g++g2))=.ok (valI kvs<|.inl (ci.at_:Int)).isSome (h++IX.dct kvs::(g++g2)):=by
   rintro σ a b rfl
   exact tofE ((binE rfl rfl).trans<|Js<|by rw[Jyg J4];exact⟨rfl,rfl⟩)
  cases el:valI kvs (.inl (ci.at_:Int))with
  |none=>exact xiff (andF<|(ei _ Zc rfl).trans<|by rw[el];rfl)<|xnil<|key _ Zc rfl _
  |some l=>
   obtain⟨i,c0,hi,e0,ea,rfl⟩:=td _ _ el
   have far:=L.far i n c0 ci hi e0 ec ea r<|by rw[ea];exact er
   exact xiff (andT ((ei _ Zc rfl).trans<|by rw[el];rfl)<|okc (ltE (subE (ixtE rfl rfl JN)<|(binE rfl rfl).trans<|Js<|by rw[Jyh J4 el];exact⟨rfl,rfl⟩)<|fldE (wkE (x2.get hD) rfl rfl av) (x2.get gj) fl1)<|decide_eq_false 00)<|xnil<|key _ Zc rfl _
 ·rintro _ _ ⟨kvs,g,a,b,c,rfl,rfl,_⟩
  exact xret<|Je rfl ⟨rfl,.cons _ _ _⟩
theorem J12{cs:Tt}(hd:IsDu h D rs)(gR:h[R]?=Za (.lst<|cs.map tupC))(L:Legal rs cs)(hl:cs.length<=200):
  WR (Jg2 (k+5) [.ref D,.ref R] h) λv h'=>v=.non/\Ex h h':=by
 rw[Jp6]
 refine xfin (xseq<|xiff (okc (gtE (lenE rfl gR) rfl)<|decide_eq_false<|by rw[Zg];omega)<|xnil<|xseq<|xset<|xb<|Je (arg2 rfl rfl)<|WR.mono (Jy7 (k:=k) hd gR L 00) ?_)
 rintro _ h1 ⟨rfl,x1⟩
 exact xiff rfl (xnil ⟨rfl,x1⟩)
theorem Jo1:Jjd (k+1) [tupC c] h=.ok (.int<|rdC c) h:=Js<|by rw[Ju8];exact xfin<|xret<|Je (addE (ixtE rfl rfl JN)<|ixtE rfl rfl Qk) ⟨rfl,rfl⟩
end
end
theorem Jk6{t:T1}{b:S1}{σ:ISt}{h:IH}{N:ISt->IH->Prop}{R:IV->IH->Prop}(I:Nat->ISt->IH->Prop)
  (turn:∀m σ h,I m σ h->WR (t σ h) λc h1=>(c=Zh->∃m',m=m'+1/\WS (b σ h1) (I m') R)/\(c=Zk->N σ h1)){m:Nat}(hm:m<1000000)(start:I m σ h):WS (XY t b σ h) N R:=by
 have key:∀(n m:Nat)(σ:ISt)(h:IH),m<n->I m σ h->WS (V3 t b n σ h) N R:=by
  intro n
  induction n with
  |zero=>intro m σ h hn _;omega
  |succ n ih=>
   intro m σ h hn hI
   obtain⟨c,h1,e,q1,q2⟩:=(turn m σ h hI).eq
   unfold V3
   rw[e]
   cases c with
   |false=>exact q2 rfl
   |true=>
    obtain⟨m',rfl,w⟩:=q1 rfl
    simp only[if_true]
    cases eb:b σ h1 with
    |next σ2 h2=>rw[eb]at w;exact ih m' σ2 h2 00 w
    |ret v h2=>rw[eb]at w;exact w
    |_=>rw[eb]at w;exact w.elim
 have et:Xb=1000000:=by unfold Xb;rfl
 rw[Jmk]
 exact key _ m σ h (by rw[et];exact hm) start
structure Bs where
 ds:Tk
 lr:Tl
 wa:Tl
 t:Int
 sr:Wa
def rdN(cs:Tt)(p:Nat):Int:=rdC<|cs.getD p cd
def lnN(cs:Tt)(p:Nat):Int:=(cs.getD p cd).len
def hsN(rs:Ts)(cs:Tt)(p:Nat):Tr:=(rs.getD (cs.getD p cd).at_ rd).2
def pops(cs:Tt)(t:Int):Tl->Tl->List Nat×Tl
 |[],wa=>([],wa)
 |p::lr,wa=>if rdN cs p<=t then pops cs t lr (wa++[p])else(p::lr,wa)
def tIn(cs:Tt)(s:Bs):Int:=match s.wa,s.lr with
 |[],p::_=>if rdN cs p>s.t then rdN cs p else s.t
 |_,_=>s.t
def letM(cs:Tt)(s:Bs):Bs:=⟨s.ds,(pops cs (tIn cs s) s.lr s.wa).1,(pops cs (tIn cs s) s.lr s.wa).2,tIn cs s,s.sr⟩
def Vs(rs:Ts)(cs:Tt)(ds:Tk)(wa:Tl)(p:Nat):Prop:=p∈wa/\∀q∈wa,ltL (keyN rs cs ds q) (keyN rs cs ds p)=Zk
def XO(rs:Ts)(cs:Tt)(ds:Tk)(wa:Tl):Nat:=(wa.find? λp=>wa.all λq=>!ltL (keyN rs cs ds q) (keyN rs cs ds p)).getD 0
theorem Vs.uniq(a:Vs rs cs ds wa p)(b:Vs rs cs ds wa q):p=q:=by
 have:=Jxs (a:=keyN rs cs ds p) (b:=keyN rs cs ds q) rfl (b.2 p a.1) (a.2 q b.1)
 simp only[keyN,Zbw,and_true]at this
 omega
theorem Vs.eq(a:Vs rs cs ds wa p):XO rs cs ds wa=p:=by
 unfold XO
 cases e:wa.find? λp=>wa.all λq=>!ltL (keyN rs cs ds q) (keyN rs cs ds p)with
 |none=>
  have:=List.find?_eq_none.mp e p a.1
  simp only[Zbe,ZaN,Bool.not_eq_true]at this
  exact absurd a.2 this
 |some q=>
  have h1:=List.find?_some e
  simp only[Zbe,ZaN]at h1
  exact Vs.uniq ⟨List.mem_of_find?_eq_some e,h1⟩ a
noncomputable def Qv (hs:Tr)(d len:Int):Tk:=len::(hs.filter λa=>decide (d<a.2.2)).map (·.2.2)
def QV(hs:Tr)(d len:Int):Int:=QE (λi=>(Qv hs d len).getD i 0) (Qv hs d len).length
def Qd(rs:Ts)(cs:Tt)(s:Bs)(p:Nat):Int:=match s.lr with
 |[]=>QV (hsN rs cs p) (s.ds.getD p 0) (lnN cs p)-s.ds.getD p 0
 |q::_=>if rdN cs q-s.t<QV (hsN rs cs p) (s.ds.getD p 0) (lnN cs p)-s.ds.getD p 0 then rdN cs q-s.t else QV (hsN rs cs p) (s.ds.getD p 0) (lnN cs p)-s.ds.getD p 0
noncomputable def Vp (p:Nat)(t u:Int):Wa->Wa
 |[]=>[(p,t,u)]
 |a::r=>if a.1=p then(p,a.2.1,u)::r else(p,t,u)::a::r
def doM(rs:Ts)(cs:Tt)(s:Bs)(p:Nat)(n:Int):Bs:=⟨s.ds.set p<|s.ds.getD p 0+n,s.lr,if s.ds.getD p 0+n=lnN cs p then s.wa.erase p else s.wa,s.t+n,Vp p s.t (s.t+n) s.sr⟩
def goM(rs:Ts)(cs:Tt)(s:Bs):Bs:=doM rs cs s (XO rs cs s.ds s.wa)<|Qd rs cs s<|XO rs cs s.ds s.wa
def QU(rs:Ts)(cs:Tt)(s:Bs):Bs:=goM rs cs<|letM cs s
def runM(rs:Ts)(cs:Tt):Nat->Bs->Bs
 |0,s=>s
 |m+1,s=>if s.lr=[]/\s.wa=[]then s else runM rs cs m (QU rs cs s)
def lr0(cs:Tt):Tl:=(ordK (cs.map rdC).reverse cs.length).map λi=>cs.length-1-i
def s0(cs:Tt):Bs:=⟨cs.map λ_=>0,lr0 cs,[],0,[]⟩
def finM(rs:Ts)(cs:Tt):Bs:=runM rs cs (8*cs.length)<|s0 cs
theorem Jpb(hs:Tr)(d len:Int):QV hs d len=len∨∃a∈hs,d<a.2.2/\QV hs d len=a.2.2:=by
 obtain⟨j,hj,e⟩:=Jnb (λi=>(Qv hs d len).getD i 0) (Qv hs d len).length<|by simp[Qv]
 unfold QV
 rw[e]
 cases j with
 |zero=>exact .inl rfl
 |succ j=>
  refine .inr ?_
  have hj':j<(hs.filter λa=>decide (d<a.2.2)).length:=by simpa[Qv]using hj
  have m:=Zw hj'
  rw[Za3]at m
  refine⟨_,m.1,of_decide_eq_true m.2,?_⟩
  simp[Qv,Zi,Zb hj']
theorem Jn6(hs:Tr)(d len:Int):QV hs d len<=len:=Yr (λi=>(Qv hs d len).getD i 0) _ 0<|by simp[Qv]
theorem J0y(h:d<len):d<QV hs d len:=by
 rcases Jpb hs d len with e|⟨a,_,l,e⟩<;>omega
structure Wf(cs:Tt)(s:Bs):Prop where
 ld:s.ds.length=cs.length
 mem:∀p∈s.lr++s.wa,p<cs.length
 nd:(s.lr++s.wa).Nodup
 srt:s.lr.Pairwise λp q=>rdN cs p<=rdN cs q
 z:∀p∈s.lr++s.wa,0<=s.ds.getD p 0/\s.ds.getD p 0<lnN cs p
 dn:∀p,p<cs.length->p∉s.lr++s.wa->s.ds.getD p 0=lnN cs p
 z0:∀p∈s.lr,s.ds.getD p 0=0
 rw:∀p∈s.wa,rdN cs p<=s.t
theorem Jh3(cs:Tt)(t:Int):∀(lr wa:Tl),((pops cs t lr wa).1++(pops cs t lr wa).2).Perm (lr++wa)
 |[],wa=>.refl _
 |p::lr,wa=>by
  unfold pops
  split
  ·refine(Jh3 cs t lr<|wa++[p]).trans ?_
   rw[<-Zac]
   exact List.perm_append_singleton p<|lr++wa
  ·exact .refl _
theorem YF(cs:Tt)(t:Int):∀(lr wa:Tl),∃a,lr=a++(pops cs t lr wa).1/\(pops cs t lr wa).2=wa++a/\(∀p∈a,rdN cs p<=t)/\∀q r,(pops cs t lr wa).1=q::r->t<rdN cs q
 |[],wa=>⟨[],rfl,by simp[pops],03,by simp[pops]⟩
 |p::lr,wa=>by
  unfold pops
  split
  ·rename_i c
   obtain⟨a,e1,e2,e3,e4⟩:=YF cs t lr<|wa++[p]
   exact⟨p::a,congrArg (p:: ·) e1,by rw[e2];simp,λq hq=>by rcases Z6.mp hq with rfl|hq;exact c;exact e3 q hq,e4⟩
  ·rename_i c
   exact⟨[],rfl,03,03,λq r e=>by cases e;omega⟩
theorem Jtu(cs:Tt)(s:Bs):s.t<=tIn cs s:=by
 unfold tIn
 split
 ·split<;>omega
 ·omega
theorem Wf.let(w:Wf cs s):Wf cs (letM cs s):=by
 obtain⟨a,e1,e2,e3,e4⟩:=YF cs (tIn cs s) s.lr s.wa
 have pm:=Jh3 cs (tIn cs s) s.lr s.wa
 have tg:=Jtu cs s
 refine⟨w.ld,λp hp=>w.mem p<|pm.mem_iff.mp hp,pm.nodup_iff.mpr w.nd,?_,λp hp=>w.z p<|pm.mem_iff.mp hp,λp l hp=>w.dn p l λz=>hp<|pm.mem_iff.mpr z,λp hp=>w.z0 p ?_,λp hp=>?_⟩
 ·have:=w.srt
  rw[e1]at this
  exact(Zbo.mp this).2.1
 ·rw[e1]
  exact Zl _ hp
 ·have hp:p∈(pops cs (tIn cs s) s.lr s.wa).2:=hp
  rw[e2]at hp
  rcases ZK.mp hp with hp|hp
  ·have:=w.rw p hp
   exact Zee this tg
  ·exact e3 p hp
theorem Jsv{s:Bs}(ne:¬(s.lr=[]/\s.wa=[])):(letM cs s).wa≠[]:=by
 obtain⟨a,e1,e2,e3,e4⟩:=YF cs (tIn cs s) s.lr s.wa
 intro e
 have e:(pops cs (tIn cs s) s.lr s.wa).2=[]:=e
 rw[e2]at e
 obtain⟨ew,ea⟩:=List.append_eq_nil_iff.mp e
 cases el:s.lr with
 |nil=>exact ne ⟨el,ew⟩
 |cons p r=>
  have:=e4 p r<|by rw[<-el];simpa[ea]using e1.symm
  have ht:tIn cs s=if rdN cs p>s.t then rdN cs p else s.t:=by unfold tIn;rw[ew,el]
  rw[ht]at this
  split at this<;>omega
theorem Jsu(w:Wf cs s):∀q∈(letM cs s).lr,(letM cs s).t<rdN cs q:=by
 obtain⟨a,e1,e2,e3,e4⟩:=YF cs (tIn cs s) s.lr s.wa
 have ws:=w.let.srt
 show ∀q∈(pops cs (tIn cs s) s.lr s.wa).1,tIn cs s<rdN cs q
 have ws:((pops cs (tIn cs s) s.lr s.wa).1).Pairwise _:=ws
 cases e:(pops cs (tIn cs s) s.lr s.wa).1 with
 |nil=>simp
 |cons p r=>
  have:=e4 p r e
  rw[e]at ws
  intro q hq
  rcases Z6.mp hq with rfl|hq
  ·exact this
  ·have:=(ZbS.mp ws).1 q hq
   omega
theorem Jh9{s:Bs}(gt:∀q∈s.lr,s.t<rdN cs q)(l:s.ds.getD p 0<lnN cs p):0<Qd rs cs s p/\s.ds.getD p 0+Qd rs cs s p<=QV (hsN rs cs p) (s.ds.getD p 0) (lnN cs p):=by
 have:=J0y (hs:=hsN rs cs p) l
 unfold Qd
 split
 ·omega
 ·rename_i q r e
  have:=gt q<|by rw[e];simp
  split<;>omega
theorem XD{α:Type}{l:List α}{i j:Nat}{x z:α}:(l.set i x).getD j z=if i=j/\j<l.length then x else l.getD j z:=by
 simp only[Zi,List.getElem?_set]
 by_cases e:i=j
 ·subst e
  by_cases l':i<l.length
  ·simp[l']
  ·simp[l',ZaQ<|ZcP l']
 ·simp[e]
theorem Wf.do{rs:Ts}{cs:Tt}{s:Bs}(w:Wf cs s){p:Nat}(hp:p∈s.wa){n:Int}(n0:0<n)(nl:s.ds.getD p 0+n<=lnN cs p):Wf cs (doM rs cs s p n):=by
 have lp:=w.mem p<|Zl _ hp
 have sub:(s.lr++(doM rs cs s p n).wa).Sublist (s.lr++s.wa):=by
  refine List.Sublist.append_left ?_ _
  show List.Sublist (if _ then _ else _) _
  split
  ·exact List.erase_sublist
  ·exact List.Sublist.refl _
 have nl':∀q∈s.lr,q≠p:=λq hq e=>(Zbo.mp w.nd).2.2 q hq p hp e
 have nw:s.wa.Nodup:=(Zbo.mp w.nd).2.1
 have g:∀q,(doM rs cs s p n).ds.getD q 0=if p=q then s.ds.getD p 0+n else s.ds.getD q 0:=λq=>by
  show(s.ds.set p _).getD q 0=_
  rw[XD]
  by_cases e:p=q
  ·subst e;rw[if_pos ⟨rfl,by rw[w.ld];exact lp⟩,if_pos rfl]
  ·rw[if_neg λz=>e z.1,if_neg e]
 refine⟨by show(s.ds.set _ _).length=_;rw[Zbu];exact w.ld,λq hq=>w.mem q<|sub.subset hq,w.nd.sublist sub,w.srt,λq hq=>?_,λq lq hq=>?_,λq hq=>?_,λq hq=>?_⟩
 ·have:=w.z q<|sub.subset hq
  rw[g]
  split
  ·rename_i e
   subst e
   refine⟨00,?_⟩
   rcases ZK.mp hq with hq|hq
   ·exact absurd rfl (nl' p hq)
   ·have hq:p∈if s.ds.getD p 0+n=lnN cs p then s.wa.erase p else s.wa:=hq
    split at hq
    ·exact absurd hq<|List.Nodup.not_mem_erase nw
    ·omega
  ·exact this
 ·rw[g]
  split
  ·rename_i e
   subst e
   have hq:p∉s.lr++if s.ds.getD p 0+n=lnN cs p then s.wa.erase p else s.wa:=hq
   split at hq
   ·assumption
   ·exact absurd (Zl _ hp) hq
  ·rename_i ne
   refine w.dn q lq λz=>hq ?_
   show q∈s.lr++if s.ds.getD p 0+n=lnN cs p then s.wa.erase p else s.wa
   split
   ·rcases ZK.mp z with z|z
    ·exact ZQ _ z
    ·exact Zl _<|(List.mem_erase_of_ne<|Zab ne).mpr z
   ·exact z
 ·rw[g,if_neg<|Zab<|nl' q hq]
  exact w.z0 q hq
 ·have:=w.rw q (by
   have hq:q∈if s.ds.getD p 0+n=lnN cs p then s.wa.erase p else s.wa:=hq
   split at hq
   ·exact List.mem_of_mem_erase hq
   ·exact hq)
  show _<=s.t+n
  omega
theorem Jnt:∀{wa:Tl},wa≠[]->∃p,Vs rs cs ds wa p
 |[],h=>absurd rfl h
 |[p],_=>⟨p,03,λq hq=>by rw[Zx.mp hq];exact Y6 _⟩
 |p::q::r,_=>by
  obtain⟨m,hm,lm⟩:=Jnt (rs:=rs) (cs:=cs) (ds:=ds) (wa:=q::r) 03
  cases c:ltL (keyN rs cs ds p) (keyN rs cs ds m)with
  |true=>
   refine⟨p,03,λx hx=>?_⟩
   rcases Z6.mp hx with rfl|hx
   ·exact Y6 _
   ·cases z:ltL (keyN rs cs ds x) (keyN rs cs ds p)with
    |false=>rfl
    |true=>exact absurd (Jh0 z c)<|by rw[lm x hx];exact Zu
  |false=>
   refine⟨m,Zp _ hm,λx hx=>?_⟩
   rcases Z6.mp hx with rfl|hx
   ·exact c
   ·exact lm x hx
def VS(rs:Ts)(cs:Tt)(ds:Tk)(p:Nat):Nat:=((hsN rs cs p).filter λa=>decide (ds.getD p 0<a.2.2)).length
def mea(rs:Ts)(cs:Tt)(s:Bs):Nat:=(s.lr++s.wa).length+((ZM cs.length).map<|VS rs cs s.ds).sum+(s.lr.filter λp=>decide (s.t<rdN cs p)).length
theorem Y2{α:Type}{f g:α->Bool}:∀{l:List α},(∀x∈l,f x=Zh->g x=Zh)->(l.filter f).length<=(l.filter g).length
 |[],_=>03
 |x::l,h=>by
  have ih:=Y2 (l:=l) λy hy=>h y<|Zp _ hy
  have:=h x 03
  simp only[ZbO]
  split
  ·rename_i c
   rw[if_pos<|this c]
   simpa using ih
  ·split
   ·simp only[ZA];omega
   ·exact ih
theorem Jne{α:Type}{f g:α->Bool}{a:α}:∀{l:List α},a∈l->f a=Zk->g a=Zh->(∀x∈l,f x=Zh->g x=Zh)->(l.filter f).length<(l.filter g).length
 |x::l,ha,fa,ga,h=>by
  have le:=Y2 (l:=l) λy hy=>h y<|Zp _ hy
  have hx:=h x 03
  rcases Z6.mp ha with rfl|ha
  ·simp only[ZbO,fa,ga,if_true,Zae,if_false,ZA];omega
  ·have ih:=Jne ha fa ga λy hy=>h y<|Zp _ hy
   simp only[ZbO]
   split
   ·rename_i c
    rw[if_pos<|hx c]
    simpa using ih
   ·split
    ·simp only[ZA];omega
    ·exact ih
theorem Jo7{f g:Nat->Nat}:∀{l:Tl},(∀x∈l,f x<=g x)->(l.map f).sum<=(l.map g).sum
 |[],_=>Zm _
 |x::l,h=>by
  have:=h x 03
  have:=Jo7 (l:=l) λy hy=>h y<|Zp _ hy
  simp only[Z1,Zbk]
  omega
theorem Jx3{f g:Nat->Nat}{a:Nat}:∀{l:Tl},a∈l->f a<g a->(∀x∈l,f x<=g x)->(l.map f).sum<(l.map g).sum
 |x::l,ha,la,h=>by
  have hx:=h x 03
  have le:=Jo7 (l:=l) λy hy=>h y<|Zp _ hy
  simp only[Z1,Zbk]
  rcases Z6.mp ha with rfl|ha
  ·omega
  ·have:=Jx3 ha la λy hy=>h y<|Zp _ hy
   omega
theorem Jz0(rs:Ts)(cs:Tt)(s:Bs):mea rs cs (letM cs s)<=mea rs cs s:=by
 obtain⟨a,e1,e2,e3,e4⟩:=YF cs (tIn cs s) s.lr s.wa
 have pm:=(Jh3 cs (tIn cs s) s.lr s.wa).length_eq
 have tg:=Jtu cs s
 show((pops cs (tIn cs s) s.lr s.wa).1++(pops cs (tIn cs s) s.lr s.wa).2).length+_+((pops cs (tIn cs s) s.lr s.wa).1.filter λp=>decide (tIn cs s<rdN cs p)).length<=_
 rw[pm]
 unfold mea
 have h1:=Y2 (f:=λp=>decide (tIn cs s<rdN cs p)) (g:=λp=>decide (s.t<rdN cs p)) (l:=(pops cs (tIn cs s) s.lr s.wa).1) λx _ c=>decide_eq_true<|Int.lt_of_le_of_lt tg<|of_decide_eq_true c
 have h2:(s.lr.filter λp=>decide (s.t<rdN cs p)).length=(a.filter λp=>decide (s.t<rdN cs p)).length+((pops cs (tIn cs s) s.lr s.wa).1.filter λp=>decide (s.t<rdN cs p)).length:=by
  conv=>lhs;rw[e1]
  rw[List.filter_append,Zs]
 have h3:((ZM cs.length).map<|VS rs cs (letM cs s).ds).sum=((ZM cs.length).map<|VS rs cs s.ds).sum:=rfl
 omega
theorem J27(w:Wf cs s)(gt:∀q∈s.lr,s.t<rdN cs q){p:Nat}(hp:p∈s.wa):mea rs cs (doM rs cs s p<|Qd rs cs s p)<mea rs cs s:=by
 have lp:=w.mem p<|Zl _ hp
 obtain⟨n0,nl⟩:=Jh9 (rs:=rs) gt (w.z p<|Zl _ hp).2
 have sl:=Jn6 (hsN rs cs p) (s.ds.getD p 0)<|lnN cs p
 have hn:∀n,n=Qd rs cs s p->0<n/\s.ds.getD p 0+n<=lnN cs p:=λn e=>by rw[e];exact⟨n0,00⟩
 have cases3:(s.ds.getD p 0+Qd rs cs s p=lnN cs p)∨(∃a∈hsN rs cs p,s.ds.getD p 0<a.2.2/\s.ds.getD p 0+Qd rs cs s p=a.2.2)∨∃q∈s.lr,s.t+Qd rs cs s p=rdN cs q:=by
  unfold Qd
  have:=Jpb (hsN rs cs p) (s.ds.getD p 0)<|lnN cs p
  split
  ·rcases this with e|⟨a,ha,l,e⟩
   ·exact .inl 00
   ·exact .inr<|.inl ⟨a,ha,l,00⟩
  ·rename_i q r e
   split
   ·exact .inr (.inr ⟨q,by rw[e];simp,00⟩)
   ·rcases this with e|⟨a,ha,l,e⟩
    ·exact .inl 00
    ·exact .inr<|.inl ⟨a,ha,l,00⟩
 generalize Qd rs cs s p=n at n0 nl cases3
 have gd:∀q,(s.ds.set p<|s.ds.getD p 0+n).getD q 0=if p=q then s.ds.getD p 0+n else s.ds.getD q 0:=λq=>by
  rw[XD]
  by_cases e:p=q
  ·subst e;rw[if_pos ⟨rfl,by rw[w.ld];exact lp⟩,if_pos rfl]
  ·rw[if_neg λz=>e z.1,if_neg e]
 have m2:∀q∈ZM cs.length,VS rs cs (s.ds.set p<|s.ds.getD p 0+n) q<=VS rs cs s.ds q:=λq _=>Y2 λx _ c=>by
  have c:=of_decide_eq_true c
  rw[gd]at c
  refine decide_eq_true ?_
  split at c
  ·rename_i e;subst e;omega
  ·exact c
 have m3:∀x∈s.lr,decide (s.t+n<rdN cs x)=Zh->decide (s.t<rdN cs x)=Zh:=λx _ c=>decide_eq_true (by have:=of_decide_eq_true c;omega)
 have l2:=Jo7 m2
 have l3:=Y2 m3
 have lw:(s.lr++if s.ds.getD p 0+n=lnN cs p then s.wa.erase p else s.wa).length<=(s.lr++s.wa).length:=by
  rw[Zs,Zs]
  split
  ·have:=ZdF hp
   omega
  ·omega
 show(s.lr++if s.ds.getD p 0+n=lnN cs p then s.wa.erase p else s.wa).length+((ZM cs.length).map<|VS rs cs<|s.ds.set p<|s.ds.getD p 0+n).sum+(s.lr.filter λx=>decide (s.t+n<rdN cs x)).length<(s.lr++s.wa).length+((ZM cs.length).map<|VS rs cs s.ds).sum+(s.lr.filter λx=>decide (s.t<rdN cs x)).length
 rcases cases3 with e|⟨a,ha,la,e⟩|⟨q,hq,e⟩
 ·rw[if_pos e,Zs,Zs]
  have:=ZdF hp
  have:=List.length_pos_of_mem hp
  omega
 ·have:=Jx3 (Zay.mpr lp) (Jne (a:=a) (f:=λa=>decide ((s.ds.set p<|s.ds.getD p 0+n).getD p 0<a.2.2)) (g:=λa=>decide (s.ds.getD p 0<a.2.2)) ha (decide_eq_false<|by rw[gd,if_pos rfl];omega) (decide_eq_true la) λx _ c=>by
   have c:=of_decide_eq_true c
   rw[gd,if_pos rfl]at c
   exact decide_eq_true 00) m2
  omega
 ·have:=Jne (a:=q) (f:=λx=>decide (s.t+n<rdN cs x)) (g:=λx=>decide (s.t<rdN cs x)) hq (decide_eq_false 00) (decide_eq_true<|gt q hq) m3
  omega
section
seal L4.run
abbrev nI(n:Nat):IV:=.int (n:Int)
noncomputable abbrev tupS (a:Nat×Int×Int):IV:=.tup [.int (a.1:Int),.int a.2.1,.int a.2.2]
noncomputable def bfs (O R D L W:Nat)(t:Int)(S:Nat):Wl:=[("order",.ref O),("row",.ref R),("dones",.ref D),("later",.ref L),("waiting",.ref W),("turn",.int t),("stretches",.ref S)]
section
variable{O R D L W S:Nat}{t u:Int}
theorem bf0:(bfs O R D L W t S).lookup ("order":Str)=Za (.ref O):=02
theorem bf1:(bfs O R D L W t S).lookup ("row":Str)=Za (.ref R):=02
theorem bf2:(bfs O R D L W t S).lookup ("dones":Str)=Za (.ref D):=02
theorem bf3:(bfs O R D L W t S).lookup ("later":Str)=Za (.ref L):=02
theorem bf4:(bfs O R D L W t S).lookup ("waiting":Str)=Za (.ref W):=02
theorem bf5:(bfs O R D L W t S).lookup ("turn":Str)=Za (.int t):=02
theorem bf6:(bfs O R D L W t S).lookup ("stretches":Str)=Za (.ref S):=02
theorem bn0:(bfs O R D L W t S).lookup ("next_ready":Str)=Zc:=02
theorem bn1:(bfs O R D L W t S).lookup ("let_in":Str)=Zc:=02
theorem bn2:(bfs O R D L W t S).lookup ("turns_for":Str)=Zc:=02
theorem bn3:(bfs O R D L W t S).lookup ("tell":Str)=Zc:=02
theorem bn4:(bfs O R D L W t S).lookup ("go_on":Str)=Zc:=02
theorem bft:putI "turn" (.int u) (bfs O R D L W t S)=bfs O R D L W u S:=02
end
structure Bg(h0:IH)(rs:Ts)(cs:Tt)(O R:Nat):Prop where
 o:IsOr h0 O rs
 r:h0[R]?=Za (.lst<|cs.map tupC)
 c:∀c∈cs,c.at_<rs.length
 l6:∀r∈rs,r.2.length<=6
 p1:h0[0]?=Za (.tab "Order.pick")
 n:cs.length<=200
structure Bn(h0 h:IH)(B O R D L W S:Nat)(s:Bs):Prop where
 x:Ex h0 h
 ap:h0.length<=B/\B<D/\D<L/\L<W/\W<S
 b:h[B]?=Za (.ins "Bench"<|bfs O R D L W s.t S)
 d:h[D]?=Za (.lst<|s.ds.map .int)
 l:h[L]?=Za (.lst<|s.lr.reverse.map nI)
 w:h[W]?=Za (.lst<|s.wa.map nI)
 s:h[S]?=Za (.lst<|s.sr.reverse.map tupS)
theorem VC{h0 h:IH}{i:Nat}{o:IX}(x:Ex h0 h)(l:h0.length<=i):Ex h0 (h.set i o):=by
 obtain⟨g,rfl⟩:=x
 exact⟨g.set (i-h0.length) o,by rw[ZcK _ _ l]⟩
theorem J9{h:IH}{i j:Nat}{o o':IX}(e:h[j]?=Za o)(n:i≠j):(h.set i o')[j]?=Za o:=by rw[ZT n];exact e
theorem Qu{h:IH}{i:Nat}{o o':IX}(e:h[i]?=Za o):(h.set i o')[i]?=Za o':=ZX<|JF e
section
variable{h0 h h':IH}{B O R D L W S:Nat}{s:Bs}
theorem Bn.ex(b:Bn h0 h B O R D L W S s)(x:Ex h h'):Bn h0 h' B O R D L W S s:=⟨b.x.trans x,b.ap,x.get b.b,x.get b.d,x.get b.l,x.get b.w,x.get b.s⟩
theorem Bn.setT(b:Bn h0 h B O R D L W S s)(u:Int):Bn h0 (h.set B<|.ins "Bench"<|bfs O R D L W u S) B O R D L W S ⟨s.ds,s.lr,s.wa,u,s.sr⟩:=
 have ap:=b.ap
 ⟨VC b.x 00,ap,Qu b.b,J9 b.d 00,J9 b.l 00,J9 b.w 00,J9 b.s 00⟩
theorem Bn.setD(b:Bn h0 h B O R D L W S s)(ds:Tk):Bn h0 (h.set D<|.lst<|ds.map .int) B O R D L W S ⟨ds,s.lr,s.wa,s.t,s.sr⟩:=
 have ap:=b.ap
 ⟨VC b.x 00,ap,J9 b.b 00,Qu b.d,J9 b.l 00,J9 b.w 00,J9 b.s 00⟩
theorem Bn.setL(b:Bn h0 h B O R D L W S s)(lr:Tl):Bn h0 (h.set L<|.lst<|lr.reverse.map nI) B O R D L W S ⟨s.ds,lr,s.wa,s.t,s.sr⟩:=
 have ap:=b.ap
 ⟨VC b.x 00,ap,J9 b.b 00,J9 b.d 00,Qu b.l,J9 b.w 00,J9 b.s 00⟩
theorem Bn.setW(b:Bn h0 h B O R D L W S s)(wa:Tl):Bn h0 (h.set W<|.lst<|wa.map nI) B O R D L W S ⟨s.ds,s.lr,wa,s.t,s.sr⟩:=
 have ap:=b.ap
 ⟨VC b.x 00,ap,J9 b.b 00,J9 b.d 00,J9 b.l 00,Qu b.w,J9 b.s 00⟩
theorem Bn.setS(b:Bn h0 h B O R D L W S s)(sr:Wa):Bn h0 (h.set S<|.lst<|sr.reverse.map tupS) B O R D L W S ⟨s.ds,s.lr,s.wa,s.t,sr⟩:=
 have ap:=b.ap
 ⟨VC b.x 00,ap,J9 b.b 00,J9 b.d 00,J9 b.l 00,J9 b.w 00,Qu b.s⟩
end
theorem Jrg{α:Type}{f:α->IV}{p:α}{lr:List α}:atI ((p::lr).reverse.map f) (-1)=Za (f p):=by
 have e:(-1+((lr.length:Int)+1)).toNat=lr.length:=00
 have l:(1:Int)<=(lr.length:Int)+1:=00
 simp[atI,ixN,e,l]
theorem Yp{cs:Tt}{p:Nat}(lp:p<cs.length):atI (cs.map tupC) (p:Int)=Za (tupC<|cs.getD p cd):=JE<|by rw[Z4,Zi,Zb lp];rfl
theorem Jyp{ds:Tk}{p:Nat}(lp:p<ds.length):atI (ds.map IV.int) (p:Int)=Za (.int<|ds.getD p 0):=JE<|by rw[Z4,Zi,Zb lp];rfl
section
variable{k:Nat}{h0 h:IH}{rs:Ts}{cs:Tt}{B O R D L W S:Nat}{s:Bs}{P:IV->IH->Prop}
theorem J5o(g:Bg h0 rs cs O R)(b:Bn h0 h B O R D L W S s){p:Nat}{lr:Tl}(e:s.lr=p::lr)(lp:p<cs.length):Jae (k+2) [.ref B] h=.ok (.int<|rdN cs p) h:=by
 have bl:=b.l
 rw[e]at bl
 refine Js ?_
 rw[Jef]
 exact xfin<|xret<|Je (JB (arg1<|ixlE (fldE rfl b.b bf1) (ixlE (fldE rfl b.b bf3) rfl bl Jrg) (b.x.get g.r)<|Yp lp) Jo1) ⟨rfl,rfl⟩
theorem nrE{Pn:List (Tb)}(g:Bg h0 rs cs O R)(b:Bn h0 h B O R D L W S s){p:Nat}{lr:Tl}(e:s.lr=p::lr)(lp:p<cs.length):Jp (pg<|k+2) "next_ready" 0 'a' Jd (Za (.ref B)::Pn) h=.ok (.int<|rdN cs p) h:=
 dotE rfl b.b bn0 (Jee _) rfl (J5o g b e lp)
theorem Js9{cs:Tt}{t:Int}{p:Nat}{lr wa:Tl}:pops cs t (p::lr) wa=if rdN cs p<=t then pops cs t lr (wa++[p])else(p::lr,wa):=rfl
theorem Jxq(g:Bg h0 rs cs O R)(ml:∀p∈s.lr,p<cs.length)(hl:s.lr.length+s.wa.length<=1000)(b:Bn h0 h B O R D L W S s):
  WS (Jcl (k+2) [Za<|.ref B] h) (λ_ h'=>Bn h0 h' B O R D L W S ⟨s.ds,(pops cs s.t s.lr s.wa).1,(pops cs s.t s.lr s.wa).2,s.t,s.sr⟩) P:=by
 have hb:=J2
 refine Jk6 (λm σ h'=>∃lr wa,σ=[Za<|.ref B]/\Bn h0 h' B O R D L W S ⟨s.ds,lr,wa,s.t,s.sr⟩/\lr.length=m/\lr.length+wa.length<=1000/\(∀p∈lr,p<cs.length)/\pops cs s.t lr wa=pops cs s.t s.lr s.wa) ?_ (show s.lr.length<1000000 by omega) ⟨s.lr,s.wa,rfl,b,rfl,hl,ml,rfl⟩
 rintro m _ h1 ⟨lr,wa,rfl,b,lm,l2,ml,ep⟩
 refine J4q<|Je (gtE (lenE (fldE rfl b.b bf3) b.l) rfl)<|xdec (λc=>?_) λc=>?_
 ·cases lr with
  |nil=>exact absurd c 03
  |cons p lr=>
   rw[Js9]at ep
   refine Je (leE (nrE g b rfl (ml p 03))<|fldE rfl b.b bf5)<|xdec (λc=>?_) λc=>?_
   ·refine⟨lr.length,by simpa using lm.symm,?_⟩
    refine Qx<|QK (fldE rfl b.b bf4) b.w X3<|xb<|QK (fldE rfl b.b bf3) b.l Jrk<|Je rfl (xpop (y:=nI p) b.l 03 ?_)
    have e:(((p::lr).reverse.map nI).dropLast)=lr.reverse.map nI:=03
    rw[e]
    have b1:=b.setL lr
    refine xb (Je rfl (Je rfl (xapp b1.w (by simp at l2 ⊢;omega) ⟨lr,wa++[p],rfl,?_,rfl,by simp at l2 ⊢;omega,λq hq=>ml q<|Zp _ hq,by rw[<-ep,if_pos c]⟩)))
    have:=b1.setW<|wa++[p]
    rw[Zat]at this
    exact this
   ·rw[if_neg c]at ep
    rw[<-ep]
    exact b
 ·cases lr with
  |nil=>exact⟨(λz=>by cases z),λ_=>by rw[<-ep];exact b⟩
  |cons p lr=>exact absurd 03 c
theorem J5m(g:Bg h0 rs cs O R)(ml:∀p∈s.lr,p<cs.length)(hl:s.lr.length+s.wa.length<=1000)(ne:¬(s.lr=[]/\s.wa=[]))(b:Bn h0 h B O R D L W S s):
  WR (Jbj (k+3) [.ref B] h) λv h'=>v=.non/\Bn h0 h' B O R D L W S (letM cs s):=by
 rw[Jhs]
 refine xfin<|xseq<|xifd (eqE (lenE (fldE rfl b.b bf4) b.w) rfl) (λc=>?_) λc=>?_
 ·have ew:s.wa=[]:=Zc1.mp<|by simpa using c
  cases el:s.lr with
  |nil=>exact absurd ⟨el,ew⟩ ne
  |cons p lr=>
   have et:tIn cs s=if rdN cs p>s.t then rdN cs p else s.t:=by unfold tIn;rw[ew,el]
   refine V4 (maxE (fldE rfl b.b bf5)<|nrE g b el<|ml p<|by rw[el];simp) rfl b.b (by show(7:Nat)<1000;decide) ?_
   rw[bft]
   have b1:=b.setT (if rdN cs p>s.t then rdN cs p else s.t)
   refine WS.mono (Jxq (s:=⟨s.ds,s.lr,s.wa,if rdN cs p>s.t then rdN cs p else s.t,s.sr⟩) g ml hl b1) (λ_ h' q=>⟨rfl,?_⟩) λ_ _ z=>z
   unfold letM
   rw[et]
   exact q
 ·have et:tIn cs s=s.t:=by
   unfold tIn
   split
   ·rename_i e _
    rw[e]at c
    exact absurd rfl c
   ·rfl
  refine xnil<|WS.mono (Jxq g ml hl b) (λ_ h' q=>⟨rfl,?_⟩) λ_ _ z=>z
  unfold letM
  rw[et]
  exact q
end
end
section
seal L4.run
noncomputable def enP (d:Int):IV->Bool
 |.tup [_,_,.int e]=>decide (d<e)
 |_=>Zk
noncomputable def enF:IV->IV
 |.tup [_,_,e]=>e
 |_=>.non
theorem J17(hs:Tr)(d:Int):((hs.map tupH).filter<|enP d).map enF=((hs.filter λa=>decide (d<a.2.2)).map (·.2.2)).map .int:=by
 induction hs with
 |nil=>rfl
 |cons a hs ih=>
  simp only[Z1,ZbO]
  rw[show enP d (tupH a)=decide (d<a.2.2)from rfl]
  split
  ·simp only[Z1,ih];rfl
  ·exact ih
section
variable{k:Nat}{h0 h:IH}{rs:Ts}{cs:Tt}{B O R D L W S:Nat}{s:Bs}{P:IV->IH->Prop}
theorem J5p{gap ln due late d len:Int}{hs:Tr}(hw:h[w]?=Za (.ins "Work"<|wfs name gap ln due late<|hs.map tupH))(l6:hs.length<=6):
  WR (Jea (k+2) [.ref w,.int d,.int len] h) λv h'=>v=.int (QV hs d len)/\Ex h h':=by
 have hb:=J2
 rw[Jl4]
 have x1:Ex h (h++[.lst [.int len]]):=.one _ _
 refine xfin (xret<|xb<|xb<|xb<|xlst<|Je (arg1 rfl) ⟨by simp;omega,xb ?_⟩)
 refine WR.mono (YU (h:=h++[.lst [.int len]]++[.lst<|hs.map tupH]) (xs:=hs.map tupH) (chk:=λh'=>h'[(h++[IX.lst [IV.int len]]).length]?=Za (.lst<|hs.map tupH)) (p:=enP d) (f:=enF) ?_ (by rw[Zg];omega) (λh2 q=>q _ _ Jm) ?_ ?_) ?_
 ·rw[JU]
  exact Je (dotE rfl (x1.get hw) flh (Jbi _) rfl (Jfr<|x1.get hw))<|(JM _).mpr ⟨_,Jm,rfl,rfl,rfl⟩
 ·intro v hv h2 q
  obtain⟨a,_,rfl⟩:=Zz.mp hv
  exact Je (gtE (ixtE rfl rfl Qk) rfl) ⟨rfl,.refl _⟩
 ·intro v hv _ h2 q
  obtain⟨a,_,rfl⟩:=Zz.mp hv
  exact Je (ixtE rfl rfl Qk) ⟨rfl,.refl _⟩
 ·rintro _ _ ⟨rfl,g,rfl⟩
  rw[J17]
  have lf:=Za6 (λa:Hd=>decide (d<a.2.2)) hs
  have x2:Ex (h++[.lst [.int len]]) (h++[.lst [.int len]]++[.lst<|hs.map tupH]++.lst (((hs.filter λa=>decide (d<a.2.2)).map (·.2.2)).map .int)::g):=(Ex.one _ _).trans<|.cons _ _ _
  refine(Jkw ..).mpr ⟨_,x2.get Jm,_,J4,by simp;omega,?_⟩
  refine xb<|Je rfl (Je rfl ?_)
  rw[Yh,show[IV.int len]++((hs.filter λa=>decide (d<a.2.2)).map (·.2.2)).map .int=(Qv hs d len).map .int from rfl,Juc Jm<|by simp[Qv]]
  exact⟨rfl,(x1.trans x2).trans<|.one _ _⟩
theorem J6k(g:Bg h0 rs cs O R)(ml:∀p∈s.lr,p<cs.length)(b:Bn h0 h B O R D L W S s)(lp:p<cs.length)(ld:s.ds.length=cs.length):
  WR (Jai (k+3) [.ref B,nI p] h) λv h'=>v=.int (Qd rs cs s p)/\Ex h h':=by
 obtain⟨Du,⟨vs,gD,w⟩,fd⟩:=Js8<|g.o.kp b.x.kp
 have ca:(cs.getD p cd).at_<rs.length:=g.c _<|by rw[Zi,Zb lp];exact Zw lp
 have l6:=g.l6 _<|Zw ca
 obtain⟨j,ej,gj⟩:=w.get<|Zb ca
 have av:atI vs ((cs.getD p cd).at_:Int)=Za (.ref j):=JE ej
 have hh:hsN rs cs p=(rs[(cs.getD p cd).at_]).2:=by unfold hsN;rw[Qm ca]
 rw[<-hh]at l6
 rw[Jfj]
 refine xfin<|xseq<|xset<|Je (ixlE (fldE rfl b.b bf1) rfl (b.x.get g.r) (Yp lp))<|xseq<|xset<|Je (ixlE (fldE rfl b.b bf2) rfl b.d (Jyp 00)) ?_
 refine xseq<|xset<|xb<|xb<|xb<|Je (dotE (fd _ _<|fldE rfl b.b bf0) gD dlw (Jda _) (arg1<|ixtE rfl rfl Qb)<|Jhp gD av)<|xb<|Je (arg2 rfl (ixtE rfl rfl QO))<|Je rfl ?_
 have gj:h[j]?=Za (.ins "Work"<|wfs _ _ _ _ _<|(rs[(cs.getD p cd).at_]).2.map tupH):=gj
 rw[<-hh]at gj
 refine WR.mono (J5p (k:=k) gj l6) ?_
 rintro _ h1 ⟨rfl,x1⟩
 have b1:=b.ex x1
 refine xb<|Je rfl (Je rfl (xseq<|xifd (gtE (lenE (fldE rfl b1.b bf3) b1.l) rfl) (λc=>?_) λc=>?_))
 ·cases el:s.lr with
  |nil=>rw[el]at c;exact absurd c 03
  |cons q lr=>
   refine xset (Je (minE rfl (subE (nrE g b1 el<|ml q<|by rw[el];simp)<|fldE rfl b1.b bf5))<|xret<|Je rfl ⟨?_,x1⟩)
   unfold Qd
   rw[el]
   rfl
 ·refine xnil<|xret<|Je rfl ⟨?_,x1⟩
  have el:s.lr=[]:=by
   cases el:s.lr with
   |nil=>rfl
   |cons q lr=>rw[el]at c;exact absurd 03 c
  unfold Qd
  rw[el]
  rfl
theorem J6j(b:Bn h0 h B O R D L W S s)(sl:s.sr.length<100000):WR (Jco (k+1) [.ref B,nI p,.int u] h) λv h'=>v=.non/\Bn h0 h' B O R D L W S ⟨s.ds,s.lr,s.wa,s.t,Vp p s.t u s.sr⟩:=by
 have hb:=J2
 have fin:∀{h1:IH}{bg:Int}{r:Wa},Bn h0 h1 B O R D L W S ⟨s.ds,s.lr,s.wa,s.t,r⟩->r.length<=s.sr.length->Vp p s.t u s.sr=(p,bg,u)::r ->
   WS (Jdr k [Za<|.ref B,Za<|nI p,Za<|.int u,Za<|.int bg] h1) (λ_ h'=>IV.non=.non/\Bn h0 h' B O R D L W S ⟨s.ds,s.lr,s.wa,s.t,Vp p s.t u s.sr⟩) λv h'=>v=.non/\Bn h0 h' B O R D L W S ⟨s.ds,s.lr,s.wa,s.t,Vp p s.t u s.sr⟩:=by
  intro h1 bg r b1 lr et
  refine Qx (QK (fldE rfl b1.b bf6) b1.s X3<|xb<|xtup<|xb<|Je rfl (xb<|Je (arg2 rfl rfl)<|Je rfl ⟨by simp;omega,xb<|Je rfl (Je rfl (xapp b1.s (by simp;omega) ⟨rfl,?_⟩))⟩))
  have:=b1.setS<|(p,bg,u)::r
  rw[ZaM,Zat]at this
  rw[et]
  exact this
 rw[Jj0]
 refine xfin<|xseq<|xset<|Je (fldE rfl b.b bf5)<|xseq<|xif<|J4q<|Je (gtE (lenE (fldE rfl b.b bf6) b.s) rfl)<|xdec (λc=>?_) λc=>?_
 ·cases es:s.sr with
  |nil=>rw[es]at c;exact absurd c 03
  |cons a r=>
   have bs:=b.s
   rw[es]at bs
   refine Je (eqE (ixtE (ixlE (fldE rfl b.b bf6) rfl bs Jrg) rfl Qb) rfl)<|xdec (λc=>?_) λc=>?_
   ·refine xset<|xb<|QK (fldE rfl b.b bf6) bs Jrk<|Je rfl (xpop (y:=tupS a) bs 03<|xb<|Je rfl (xixt JN ?_))
    have e:((a::r).reverse.map tupS).dropLast=r.reverse.map tupS:=03
    rw[e]
    rw[<-es]
    refine fin (r:=r) (b.setS r) (by rw[es];simp) ?_
    rw[es]
    exact if_pos 00
   ·refine xnil ?_
    rw[<-es]
    refine fin (r:=s.sr) b (Zm _) ?_
    rw[es]
    exact if_neg λz=>c<|by rw[z]
 ·refine⟨(λz=>by cases z),λ_=>xnil<|fin (r:=s.sr) b (Zm _) ?_⟩
  cases es:s.sr with
  |nil=>rfl
  |cons a r=>rw[es]at c;exact absurd 03 c
theorem Js0{α β:Type}{f:α->β}:∀(l:List α)(j:Nat),(l.map f).eraseIdx j=(l.eraseIdx j).map f
 |[],_=>rfl
 |_::_,0=>rfl
 |a::l,j+1=>congrArg (f a:: ·)<|Js0 l j
theorem Jr4{wa:Tl}{p j:Nat}(e:(wa.map λn:Nat=>(n:Int)).findIdx? (· ==(p:Int))=Za j):wa.eraseIdx j=wa.erase p:=by
 rw[List.findIdx?_map]at e
 have e:wa.findIdx? (· ==p)=Za j:=by
  rw[<-e]
  congr 1
  funext x
  show(x==p)=((x:Int)==(p:Int))
  rw[Zcp,beq_iff_eq,beq_iff_eq]
  omega
 rw[List.erase_eq_eraseIdx,show List.idxOf? p wa=Za j from e]
theorem J49(g:Bg h0 rs cs O R)(w:Wf cs s)(ne:¬(s.lr=[]/\s.wa=[]))(sl:s.sr.length<100000)(b:Bn h0 h B O R D L W S s):WR (Jbt (k+6) [.ref B] h) λv h'=>v=.non/\Bn h0 h' B O R D L W S (QU rs cs s):=by
 have ll:(s.lr++s.wa).length<=cs.length:=by
  have:=w.nd.length_le_of_subset (l₂:=ZM cs.length) λp hp=>Zay.mpr<|w.mem p hp
  rwa [ZbB]at this
 rw[Zs]at ll
 have cn:=g.n
 have w1:=w.let
 have n1:=Jsv (cs:=cs) ne
 rw[Jim]
 refine xfin<|xseq<|Qx<|Yi rfl b.b bn1 (Jhm _) (Je rfl (WR.mono (J5m (k:=k+2) g (λp hp=>w.mem p<|ZQ _ hp) 00 ne b) ?_))
 rintro _ h1 ⟨rfl,b1⟩
 have o1:=g.o.kp b1.x.kp
 unfold QU
 have hsl:(letM cs s).sr.length<100000:=sl
 generalize letM cs s=s1 at *
 refine xseq (xset<|Jpz o1 (fldE rfl b1.b bf0) (by rw[show ∀(a b c:E1)(σ:ISt),Jb a (Jb b<|Jb c Jd) σ h1=(a σ h1).bind λx h1=>((Jb b<|Jb c Jd) σ h1).bind λxs h2=>.ok (x::xs) h2 from λ_ _ _ _=>rfl,fldE rfl b1.b bf1];exact congrArg (λr=>Res.bind r _)<|arg2 (fldE rfl b1.b bf4)<|fldE rfl b1.b bf2)<|WR.mono (J0d (k:=k) (b1.x.get g.p1) o1 g.l6 g.c (b1.x.get g.r) b1.w b1.d w1.ld n1 λp hp=>w1.mem p<|Zl _ hp) ?_)
 rintro _ h2 ⟨p,hp,rfl,lm,x2⟩
 have ep:=Vs.eq ⟨hp,lm⟩
 have lp:=w1.mem p<|Zl _ hp
 have ld:=w1.ld
 have b2:=b1.ex x2
 refine xseq<|xset<|Yi rfl b2.b bn2 (Jfh _) (Je (arg1 rfl)<|WR.mono (J6k (k:=k+2) g (λq hq=>w1.mem q<|ZQ _ hq) b2 lp ld) ?_)
 rintro _ h3 ⟨rfl,x3⟩
 have b3:=b2.ex x3
 unfold goM
 rw[ep]
 generalize Qd rs cs s1 p=n
 refine xseq<|Qx<|Yi rfl b3.b bn3 (Jjx _) (Je (arg2 rfl (addE (fldE rfl b3.b bf5) rfl))<|WR.mono (J6j (k:=k+4) b3 hsl) ?_)
 rintro _ h4 ⟨rfl,b4⟩
 refine xseq (J6v rfl b4.b bf5 rfl b4.b (by show(7:Nat)<1000;decide) ?_)
 rw[bft]
 have b5:Bn h0 _ B O R D L W S ⟨s1.ds,s1.lr,s1.wa,s1.t+n,Vp p s1.t (s1.t+n) s1.sr⟩:=b4.setT<|s1.t+n
 refine xseq (J6w (fldE rfl b5.b bf2) rfl b5.d (Jyp (by show p<s1.ds.length;omega)) 00 rfl b5.d (j:=p) (by rw[Zg];simp[ixN];omega) ?_)
 have b6:Bn h0 _ B O R D L W S ⟨s1.ds.set p<|s1.ds.getD p 0+n,s1.lr,s1.wa,s1.t+n,Vp p s1.t (s1.t+n) s1.sr⟩:=b5.setD<|s1.ds.set p<|s1.ds.getD p 0+n
 rw[<-List.map_set]
 refine xifd (eqE (ixlE (fldE rfl b6.b bf2) rfl b6.d (Jyp<|by rw[Zbu];omega))<|ixtE (ixlE (fldE rfl b6.b bf1) rfl (b6.x.get g.r) (Yp lp)) rfl QO) (λc=>?_) λc=>?_
 ·rw[XD,if_pos ⟨rfl,00⟩]at c
  have eN:s1.wa.map nI=(s1.wa.map λn:Nat=>(n:Int)).map .int:=by rw[Zai];rfl
  have gw:=b6.w
  obtain⟨j,hj⟩:∃j,(s1.wa.map λn:Nat=>(n:Int)).findIdx? (· ==(p:Int))=Za j:=by
   cases z:(s1.wa.map λn:Nat=>(n:Int)).findIdx? (· ==(p:Int))with
   |none=>
    have:=Zb7.mp z p<|Zz.mpr ⟨p,hp,rfl⟩
    simp at this
   |some j=>exact⟨j,rfl⟩
  refine Qx (QK (fldE rfl b6.b bf4) gw Jrl<|Je (arg1 rfl)<|xrem (ns:=s1.wa.map λn:Nat=>(n:Int)) (by rw[<-eN];exact gw) hj ⟨rfl,?_⟩)
  have b7:=b6.setW<|s1.wa.erase p
  unfold doM
  rw[if_pos<|show _=lnN cs p from c,<-eN,Js0,Jr4 hj]
  exact b7
 ·rw[XD,if_pos ⟨rfl,00⟩]at c
  refine xnil ⟨rfl,?_⟩
  unfold doM
  rw[if_neg<|show ¬_=lnN cs p from c]
  exact b6
end
end
section
seal L4.run
section
variable{O R D L W S:Nat}
theorem bp0:putI "order" (.ref O) ([]:Wl)=(bfs O 0 0 0 0 0 0).take 1:=02
theorem bp1:putI "row" (.ref R) ((bfs O 0 0 0 0 0 0).take 1)=(bfs O R 0 0 0 0 0).take 2:=02
theorem bp2:putI "dones" (.ref D) ((bfs O R 0 0 0 0 0).take 2)=(bfs O R D 0 0 0 0).take 3:=02
theorem bp3:putI "later" (.ref L) ((bfs O R D 0 0 0 0).take 3)=(bfs O R D L 0 0 0).take 4:=02
theorem bp4:putI "waiting" (.ref W) ((bfs O R D L 0 0 0).take 4)=(bfs O R D L W 0 0).take 5:=02
theorem bp5:putI "turn" (.int 0) ((bfs O R D L W 0 0).take 5)=(bfs O R D L W 0 0).take 6:=02
theorem bp6:putI "stretches" (.ref S) ((bfs O R D L W 0 0).take 6)=bfs O R D L W 0 S:=02
end
theorem Jsp:∀{ys:Tq}{ks:Tk},(∀y∈ys,mk y h=.ok (.int<|kf y) h)->QS mk ys ks h=.ok (ks++ys.map kf) h
 |[],ks,_=>by simp[QS]
 |y::ys,ks,q=>by
  unfold QS
  rw[q y 03]
  show QS mk ys (ks++[kf y]) h=_
  rw[Jsp λz hz=>q z<|Zp _ hz]
  simp
theorem Jxr:∀p∈lr0 cs,p<cs.length:=λp hp=>by
 obtain⟨i,hi,rfl⟩:=Zz.mp hp
 have:=YE _ i hi
 omega
theorem J23(cs:Tt):(ordK (cs.map rdC).reverse cs.length).map (λi=>(rngI 0 (cs.length:Int)).reverse.getD i .non)=(lr0 cs).map nI:=by
 unfold lr0
 rw[Zai]
 refine Zdm λi hi=>?_
 have li:=YE _ i hi
 rw[XS]
 have l2:i<(((ZM cs.length).map λk=>((k:Nat):Int)).map IV.int).reverse.length:=by simpa using li
 show List.getD (((ZM<|Zc0 (cs.length:Int)).map λk=>((k:Nat):Int)).map IV.int).reverse i .non=IV.int ((cs.length-1-i:Nat):Int)
 rw[ZaZ,Zi,Zb l2,Zde]
 simp
theorem Jov(cs:Tt):(lr0 cs).Perm (ZM cs.length):=by
 by_cases n0:cs.length=0
 ·unfold lr0
  rw[n0,Jgx]
  exact .refl _
 have:=(Jh2 (cs.map rdC).reverse<|Nat.pos_of_ne_zero n0).map λi=>cs.length-1-i
 refine this.trans ?_
 have e:(ZM cs.length).map (λi=>cs.length-1-i)=(ZM cs.length).reverse:=by
  refine Zbz 03 λi h1 h2=>?_
  simp[Zde]
 rw[e]
 exact List.reverse_perm _
theorem Jzx(cs:Tt):(lr0 cs).Pairwise λp q=>rdN cs p<=rdN cs q:=by
 unfold lr0
 rw[ZcG]
 refine(Jv5 (cs.map rdC).reverse cs.length).imp_of_mem λ{i j} hi hj h=>?_
 have li:=YE _ i hi
 have lj:=YE _ j hj
 have e:∀i,i<cs.length->(cs.map rdC).reverse.getD i 0=rdN cs (cs.length-1-i):=λi li=>by
  have l2:i<(cs.map rdC).reverse.length:=by simpa using li
  unfold rdN
  rw[Zi,Zb l2,Zde,Zi,Zb<|show cs.length-1-i<cs.length by omega]
  simp
 rwa [e i li,e j lj]at h
theorem wf0(l1:∀c∈cs,1<=c.len):Wf cs (s0 cs):=by
 have zr:∀p,((s0 cs).ds.getD p 0:Int)=0:=λp=>by
  show(cs.map λ_=>(0:Int)).getD p 0=0
  rw[Zi,Z4]
  cases cs[p]?<;>rfl
 have pm:=Jov cs
 refine⟨by simp[s0],λp hp=>?_,?_,Jzx cs,λp hp=>?_,λp lp hp=>?_,λp hp=>zr p,λp hp=>?_⟩
 ·rw[show(s0 cs).lr++(s0 cs).wa=lr0 cs from Zam _]at hp
  exact Jxr p hp
 ·rw[show(s0 cs).lr++(s0 cs).wa=lr0 cs from Zam _]
  exact pm.nodup_iff.mpr ZdS
 ·rw[show(s0 cs).lr++(s0 cs).wa=lr0 cs from Zam _]at hp
  have lp:=Jxr p hp
  rw[zr]
  have:1<=lnN cs p:=l1 _<|by rw[Zi,Zb lp];exact Zw lp
  omega
 ·rw[show(s0 cs).lr++(s0 cs).wa=lr0 cs from Zam _]at hp
  exact absurd (pm.mem_iff.mpr<|Zay.mpr lp) hp
 ·cases hp
theorem Wf.step(w:Wf cs s)(ne:¬(s.lr=[]/\s.wa=[])):Wf cs (QU rs cs s)/\mea rs cs (QU rs cs s)<mea rs cs s:=by
 have w1:=w.let
 have gt:=Jsu w
 have le:=Jz0 rs cs s
 obtain⟨p,ip⟩:=Jnt (rs:=rs) (cs:=cs) (ds:=(letM cs s).ds)<|Jsv (cs:=cs) ne
 unfold QU goM
 rw[ip.eq]
 obtain⟨a,b⟩:=Jh9 (rs:=rs) gt (w1.z p<|Zl _ ip.1).2
 have sl:=Jn6 (hsN rs cs p) ((letM cs s).ds.getD p 0)<|lnN cs p
 exact⟨w1.do ip.1 a 00,ZH (J27 w1 gt ip.1) le⟩
theorem Jwv(p:Nat)(t u:Int)(sr:Wa):(Vp p t u sr).length<=sr.length+1:=by
 unfold Vp
 split
 ·simp
 ·split<;>simp
theorem Jo4{s:Bs}(h:s.lr=[]/\s.wa=[]):runM rs cs m s=s:=by
 cases m with
 |zero=>rfl
 |succ m=>exact if_pos h
theorem mea0(l6:∀r∈rs,r.2.length<=6)(hc:∀c∈cs,c.at_<rs.length):mea rs cs (s0 cs)<=8*cs.length:=by
 have e1:((ZM cs.length).map<|VS rs cs (s0 cs).ds).sum<=((ZM cs.length).map λ_=>6).sum:=Jo7 λp hp=>by
  have lp:=Zay.mp hp
  have ca:(cs.getD p cd).at_<rs.length:=hc _<|by rw[Zi,Zb lp];exact Zw lp
  have:=l6 _<|Zw ca
  refine ZW (Za6 _ _) ?_
  unfold hsN
  rw[Qm ca]
  exact this
 have e2:=Za6 (λp=>decide ((s0 cs).t<rdN cs p)) (s0 cs).lr
 have e3:(s0 cs).lr.length=cs.length:=by have:=(Jov cs).length_eq;rwa [ZbB]at this
 have e4:((s0 cs).lr++(s0 cs).wa).length=cs.length:=by rw[show(s0 cs).lr++(s0 cs).wa=(s0 cs).lr from Zam _];exact e3
 rw[List.map_const',List.sum_replicate_nat,ZbB]at e1
 unfold mea
 omega
theorem ds0(cs:Tt)(p:Nat):(s0 cs).ds.getD p 0=0:=by
 show(cs.map λ_=>(0:Int)).getD p 0=0
 rw[Zi,Z4]
 cases cs[p]?<;>rfl
section
variable{k:Nat}{h:IH}{rs:Ts}{cs:Tt}{O R:Nat}
theorem Jzm(g:Bg h rs cs O R)(t0:h[1]?=Za (.tab "Bench.__init__"))(n64:cs.length<64):WR (Jcn (k+2) [.ref h.length,.ref O,.ref R]<|h++[.ins "Bench" []]) λv h'=>v=.non/\∃D L W S,Bn h h' h.length O R D L W S (s0 cs):=by
 have hb:=J2
 rw[Jjz]
 refine xfin<|xseq<|V4 rfl rfl Jm 01 ?_
 rw[bp0,Xr]
 refine xseq (V4 rfl rfl Jm (by show(1:Nat)<1000;decide) ?_)
 rw[bp1,Xr]
 have x1:Ex h (h++[.ins "Bench"<|(bfs O R 0 0 0 0 0).take 2]):=.one _ _
 have g1:(h++[IX.ins "Bench"<|(bfs O R 0 0 0 0 0).take 2])[h.length]?=Za (.ins "Bench"<|(bfs O R 0 0 0 0 0).take 2):=Jm
 generalize h++[IX.ins "Bench"<|(bfs O R 0 0 0 0 0).take 2]=h1 at x1 g1
 refine xseq ?_
 rw[Xf]
 refine WR.mono (Qe (h:=h1) (xs:=cs.map tupC) (chk:=λh'=>h'[R]?=Za (.lst<|cs.map tupC)) (f:=λ_=>.int 0) ?_ (by rw[Zg];omega) (λh2 q=>q _ _<|x1.get g.r) λv hv h2 q=>Je rfl ⟨rfl,.refl _⟩) ?_
 ·rw[JU]
  exact Je rfl ((JM _).mpr ⟨_,x1.get g.r,rfl,rfl,rfl⟩)
 rintro _ _ ⟨rfl,gg,rfl⟩
 have lt1:=JF g1
 refine Je rfl ⟨_,_,_,rfl,grow g1,by show(2:Nat)<1000;decide,?_⟩
 rw[bp2]
 have x2:=VC (i:=h.length) (o:=.ins "Bench"<|(bfs O R h1.length 0 0 0 0).take 3) (x1.trans<|Ex.cons h1 (.lst<|(cs.map tupC).map λ_=>.int 0) gg)<|Zm _
 have g2:=Qu (o':=.ins "Bench"<|(bfs O R h1.length 0 0 0 0).take 3)<|grow g1 (g:=.lst ((cs.map tupC).map λ_=>.int 0)::gg)
 have d2:=J9 (i:=h.length) (o':=.ins "Bench"<|(bfs O R h1.length 0 0 0 0).take 3) (J4 (h:=h1) (o:=.lst<|(cs.map tupC).map λ_=>.int 0) (g:=gg)) 00
 generalize h1.length=D at *
 generalize (h1++IX.lst ((cs.map tupC).map λ_=>.int 0)::gg).set h.length (.ins "Bench"<|(bfs O R D 0 0 0 0).take 3)=h2 at x2 g2 d2
 have ks:QS (λv h'=>X4 (k+1) [Za v,Za<|.ref R] h') (rngI 0 (cs.length:Int)) [] h2=.ok (cs.map rdC) h2:=by
  have:=Jsp (mk:=λv h'=>X4 (k+1) [Za v,Za<|.ref R] h') (kf:=λv=>match v with|.int p=>rdN cs p.toNat|_=>0) (h:=h2) (ys:=rngI 0 (cs.length:Int)) (ks:=[]) λy hy=>by
   rw[XS,ZaZ,Zai]at hy
   obtain⟨p,hp,rfl⟩:=Zz.mp hy
   have lp:=Zay.mp hp
   show X4 (k+1) [Za<|nI p,Za<|.ref R] h2=.ok (.int<|rdN cs<|Zc0 (p:Int)) h2
   rw[ZaZ]
   exact JB (arg1<|ixlE rfl rfl (x2.get g.r) (Yp lp)) Jo1
  rw[this,Zaw,XS,ZaZ,Zai,Zai]
  congr 1
  refine Zbz 03 λi h1 h2=>?_
  have li:i<cs.length:=by simpa using h2
  simp only[ZG,Zcw,Function.comp,ZaZ,rdN]
  rw[Zi,Zb li]
  rfl
 have es:Y1 "Bench.__init__" 1 [2] (Jb (eCB (on1 lenI)<|Jb 'c' Jd) Jd) (X4<|k+1) [Za<|.ref h.length,Za<|.ref O,Za<|.ref R] h2=.ok (.ref h2.length) (h2++[.lst<|(lr0 cs).reverse.map nI]):=by
  unfold Y1
  rw[arg1<|lenE rfl (x2.get g.r),Zg]
  show(match [IV.int (cs.length:Int)],h2[1]? with|[.int n],Za (.tab q')=>_|_,_=>_)=_
  rw[x2.get t0]
  show(if _ then _ else _)=_
  rw[if_pos ⟨rfl,00,00⟩]
  show(QS (λv h'=>X4 (k+1) [Za v,Za<|.ref R] h') (rngI 0 (cs.length:Int)) [] h2).bind _=_
  rw[ks]
  show YJ Zh (rngI 0 (cs.length:Int)).reverse (cs.map rdC).reverse h2=_
  unfold YJ
  rw[show(rngI 0 (cs.length:Int)).reverse.length=cs.length by rw[Zdl,XS];simp,J23,List.map_reverse]
  rfl
 refine xseq (V4 es rfl (grow g2) (by show(3:Nat)<1000;decide) ?_)
 rw[bp3]
 have lt2:=JF d2
 have x3:=VC (i:=h.length) (o:=.ins "Bench"<|(bfs O R D h2.length 0 0 0).take 4) (x2.trans<|Ex.one h2<|.lst<|(lr0 cs).reverse.map nI)<|Zm _
 have g3:=Qu (o':=.ins "Bench"<|(bfs O R D h2.length 0 0 0).take 4)<|grow g2 (g:=[.lst<|(lr0 cs).reverse.map nI])
 have d3:=J9 (i:=h.length) (o':=.ins "Bench"<|(bfs O R D h2.length 0 0 0).take 4) (grow d2 (g:=[.lst<|(lr0 cs).reverse.map nI])) 00
 have l3:=J9 (i:=h.length) (o':=.ins "Bench"<|(bfs O R D h2.length 0 0 0).take 4) (Jm (h:=h2) (o:=.lst<|(lr0 cs).reverse.map nI)) 00
 generalize h2.length=L at *
 generalize (h2++[IX.lst<|(lr0 cs).reverse.map nI]).set h.length (.ins "Bench"<|(bfs O R D L 0 0 0).take 4)=h3 at x3 g3 d3 l3
 have lt3:=JF l3
 refine xseq ?_
 rw[Xf]
 refine xlst (Je rfl ⟨ZR _,Je rfl ⟨_,_,_,rfl,grow g3,by show(4:Nat)<1000;decide,?_⟩⟩)
 rw[bp4]
 refine xseq (V4 rfl rfl (Qu<|grow g3) (by show(5:Nat)<1000;decide) ?_)
 rw[bp5,Zeg]
 unfold Jdq
 rw[Xf]
 refine xlst (Je rfl ⟨ZR _,Je rfl ⟨_,_,_,rfl,grow<|Qu<|grow g3,by show(6:Nat)<1000;decide,rfl,?_⟩⟩)
 rw[bp6]
 have sw:=Jm (h:=h3) (o:=.lst [])
 have lw:=JF sw
 rw[Zs,ZaP]at lw
 have ln:(List.set (h3++[IX.lst []]) h.length<|.ins "Bench"<|(bfs O R D L h3.length 0 0).take 6).length=h3.length+1:=by rw[Zbu,Zs,ZaP]
 refine⟨D,L,h3.length,_,VC ((VC (x3.trans<|.one _ _)<|Zm _).trans<|.one _ _)<|Zm _,⟨Zm _,00,00,00,00⟩,Qu<|grow<|Qu<|grow g3,J9 (grow<|J9 (grow ?_) 00) 00,J9 (grow<|J9 (grow l3) 00) 00,J9 (grow<|J9 sw 00) 00,J9 Jm 00⟩
 rw[d3]
 simp[s0]
theorem J3v(g:Bg h rs cs O R)(t0:h[1]?=Za (.tab "Bench.__init__"))(L:Legal rs cs)(n64:cs.length<64):
  WR (Jyi (k+7) [.ref O,.ref R] h) λv h'=>∃j,v=.ref j/\h.length<=j/\h'[j]?=Za (.lst<|(finM rs cs).sr.reverse.map tupS)/\Ex h h':=by
 obtain⟨Du,du,fd⟩:=Js8 g.o
 have w0:Wf cs (s0 cs):=wf0 λc hc=>(L.ok c hc).n1
 rw[J2d]
 refine xfin<|xseq<|Qx<|xb<|Je (arg2 (fd _ _ rfl) rfl)<|WR.mono (J12 (k:=k+1) du g.r L g.n) ?_
 rintro _ h1 ⟨rfl,x1⟩
 have g1:Bg h1 rs cs O R:=⟨g.o.kp x1.kp,x1.get g.r,g.c,g.l6,x1.get g.p1,g.n⟩
 refine xseq<|xset ?_
 rw[Xu]
 refine Je (arg2 rfl rfl)<|WR.mono (Jzm (k:=k+4) g1 (x1.get t0) n64) ?_
 rintro _ h2 ⟨rfl,D,La,W,S,b0⟩
 refine⟨rfl,xseq ?_⟩
 have m0:=mea0 g.l6 g.c
 have cn:=g.n
 refine Jk6 (λm σ h'=>∃s,σ=[Za<|.ref O,Za<|.ref R,Za<|.ref h1.length]/\Bn h1 h' h1.length O R D La W S s/\Wf cs s/\mea rs cs s<=m/\s.sr.length+m<=8*cs.length/\runM rs cs m s=finM rs cs) ?_ (show 8*cs.length<1000000 by omega) ⟨s0 cs,rfl,b0,w0,m0,by simp[s0],rfl⟩
 rintro m _ h3 ⟨s,rfl,b,w,lm,ls,er⟩
 refine Je (gtE (addE (lenE (fldE rfl b.b bf3) b.l)<|lenE (fldE rfl b.b bf4) b.w) rfl)<|xdec (λc=>?_) λc=>?_
 ·have ne:¬(s.lr=[]/\s.wa=[]):=λ⟨a,z⟩=>by rw[a,z]at c;exact absurd c 03
  obtain⟨w1,lt⟩:=w.step (rs:=rs) ne
  cases m with
  |zero=>omega
  |succ m=>
   refine⟨m,rfl,Qx<|Yi rfl b.b bn4 (Jik _) (Je rfl (WR.mono (J49 (k:=k) g1 w ne 00 b) ?_))⟩
   rintro _ h4 ⟨rfl,b4⟩
   refine⟨_,rfl,b4,w1,00,?_,?_⟩
   ·have:=Jwv (XO rs cs (letM cs s).ds (letM cs s).wa) (letM cs s).t ((letM cs s).t+Qd rs cs (letM cs s) (XO rs cs (letM cs s).ds (letM cs s).wa)) s.sr
    have:(QU rs cs s).sr.length<=s.sr.length+1:=this
    omega
   ·rw[<-er]
    exact(if_neg ne).symm
 ·have ne:s.lr=[]/\s.wa=[]:=by
   simp only[Zg,Zdl]at c
   exact⟨Zc1.mp 00,Zc1.mp 00⟩
  rw[Jo4 ne]at er
  refine xret<|Je (fldE rfl b.b bf6) ⟨S,rfl,?_,?_,x1.trans b.x⟩
  ·have:=b.ap
   have:=JF b0.b
   obtain⟨gg,rfl⟩:=x1
   rw[Zs]at *
   omega
  ·rw[<-er]
   exact b.s
end
end
abbrev St3:=Nat×Int×Int
abbrev _root_.Tn:=List St3
theorem Jo2:rk hss zs a<=a:=Yr (λi=>(rkNs hss zs a).getD i 0) _ 0<|by simp[rkNs]
theorem J59(hz:z∈zs):rk hss zs a<=fZ hss z:=by
 obtain⟨i,hi,rfl⟩:=ZO.mp hz
 have e:(rkNs hss zs a).getD (i+1) 0=fZ hss zs[i]:=by simp[rkNs,hi]
 unfold rk
 rw[<-e]
 exact Yr (λi=>(rkNs hss zs a).getD i 0) (rkNs hss zs a).length (i+1)<|by simp[rkNs,hi]
def atN(cs:Tt)(p:Nat):Int:=((cs.getD p cd).at_:Int)
def acN(rs:Ts)(cs:Tt)(ds:Tk)(p:Nat):Tg:=act (hsN rs cs p)<|ds.getD p 0
def rkN(rs:Ts)(cs:Tt)(ds:Tk)(p:Nat):Int:=rk (rs.map (·.2)) (acN rs cs ds p) (cs.getD p cd).at_
theorem J1v{ds:Tk}(hx:x∈hsN rs cs p)(h1:x.2.1<ds.getD p 0)(h2:ds.getD p 0<x.2.2):x.1∈acN rs cs ds p:=Zz.mpr ⟨x,Za3.mpr ⟨hx,by show(decide _&&decide _)=Zh;rw[decide_eq_true h1,decide_eq_true h2];rfl⟩,rfl⟩
theorem Jnu(ip:Vs rs cs ds wa p)(hq:q∈wa):rkN rs cs ds p<=rkN rs cs ds q/\(rkN rs cs ds q=rkN rs cs ds p->acN rs cs ds p=[]->acN rs cs ds q=[]):=by
 have h:=ip.2 q hq
 change ltL [rkN rs cs ds q,if (!(acN rs cs ds q).isEmpty)=Zh then 0 else 1,(q:Int)] [rkN rs cs ds p,if (!(acN rs cs ds p).isEmpty)=Zh then 0 else 1,(p:Int)]=Zk at h
 unfold ltL at h
 by_cases e:rkN rs cs ds q=rkN rs cs ds p
 ·refine⟨00,λ_ a=>?_⟩
  rw[if_pos e,a]at h
  cases b:acN rs cs ds q with
  |nil=>rfl
  |cons z l=>
   rw[b]at h
   cases h
 ·rw[if_neg e,decide_eq_false_iff_not]at h
  exact⟨00,λz=>absurd z e⟩
theorem J6a(l:rk hss zs a<a):∃z∈zs,rk hss zs a=fZ hss z:=by
 obtain⟨j,hj,e⟩:=Jnb (λi=>(rkNs hss zs a).getD i 0) (rkNs hss zs a).length<|by simp[rkNs]
 have e:rk hss zs a=(rkNs hss zs a).getD j 0:=e
 cases j with
 |zero=>
  rw[e]at l
  exact absurd l<|ZeC _
 |succ j=>
  have lj:j<zs.length:=by simpa[rkNs]using hj
  refine⟨zs[j],Zw lj,?_⟩
  rw[e]
  simp[rkNs,lj]
theorem Jm3(hx:x∈hs)(l:d<x.2.2):QV hs d len<=x.2.2:=by
 have m:x.2.2∈(hs.filter λa=>decide (d<a.2.2)).map (·.2.2):=Zz.mpr ⟨x,Za3.mpr ⟨hx,decide_eq_true l⟩,rfl⟩
 obtain⟨i,hi,e⟩:=ZO.mp m
 have b:=Yr (λi=>(Qv hs d len).getD i 0) (Qv hs d len).length (i+1)<|by simpa[Qv]using hi
 have q:(Qv hs d len).getD (i+1) 0=x.2.2:=by
  rw[<-e,Zi]
  show(((hs.filter λa=>decide (d<a.2.2)).map (·.2.2))[i]?).getD 0=_
  rw[Zb hi]
  rfl
 rw[<-q]
 exact b
theorem Jwx{s:Bs}(w:s.lr.Pairwise λp q=>rdN cs p<=rdN cs q)(hq:q∈s.lr):Qd rs cs s p<=rdN cs q-s.t:=by
 unfold Qd
 cases e:s.lr with
 |nil=>rw[e]at hq;cases hq
 |cons a r=>
  rw[e]at hq w
  have:rdN cs a<=rdN cs q:=by
   rcases Z6.mp hq with rfl|hq
   ·exact ZJ _
   ·exact(ZbS.mp w).1 q hq
  dsimp only
  split<;>omega
theorem Jte(I:Bs->Prop)(step:∀s,Wf cs s->¬(s.lr=[]/\s.wa=[])->I s->I (QU rs cs s)):∀(m:Nat)(s:Bs),Wf cs s->mea rs cs s<=m->I s->Wf cs (runM rs cs m s)/\(runM rs cs m s).lr=[]/\(runM rs cs m s).wa=[]/\I (runM rs cs m s)
 |m,s,w,lm,i=>by
  by_cases ne:s.lr=[]/\s.wa=[]
  ·rw[Jo4 ne]
   exact⟨w,ne.1,ne.2,i⟩
  ·obtain⟨w1,lt⟩:=w.step (rs:=rs) ne
   cases m with
   |zero=>omega
   |succ m=>
    rw[show runM rs cs (m+1) s=runM rs cs m (QU rs cs s)from if_neg ne]
    exact Jte I step m _ w1 00<|step s w ne i
def sR(n:Nat)(f:Nat->Int):Int:=((ZM n).map f).sum
theorem Vm:sR (n+1) f=sR n f+f n:=by simp[sR,Zei]
theorem VX:∀{n:Nat},(∀q,q<n->f q<=g q)->sR n f<=sR n g
 |0,_=>ZJ _
 |n+1,h=>by
  have:=VX (n:=n) λq hq=>h q 00
  have:=h n 00
  rw[Vm,Vm]
  omega
theorem J3z:∀{n:Nat},(∀q,q<n->f q<=g q)->p<n->f p<g p->sR n f<sR n g
 |n+1,h,hp,lt=>by
  rw[Vm,Vm]
  by_cases e:p=n
  ·subst e
   have:=VX (n:=p) λq hq=>h q 00
   omega
  ·have:=J3z (n:=n) (λq hq=>h q 00) 00 lt
   have:=h n 00
   omega
theorem Jti:∀{n:Nat},(∀q,q≠p->g q=f q)->p<n->sR n g=sR n f+(g p-f p)
 |n+1,h,hp=>by
  rw[Vm,Vm]
  by_cases e:p=n
  ·subst e
   have h1:=VX (n:=p) (f:=f) (g:=g) λq hq=>by rw[h q 00];exact ZJ _
   have h2:=VX (n:=p) (f:=g) (g:=f) λq hq=>by rw[h q 00];exact ZJ _
   omega
  ·rw[Jti (n:=n) h 00,h n<|Zab e]
   omega
theorem YH:∀{n:Nat},(∀q,q<n->f q=0)->sR n f=0
 |0,_=>rfl
 |n+1,h=>by rw[Vm,YH λq hq=>h q 00,h n 00];rfl
def dM(cs:Tt)(a:Nat)(b T:Int):Int:=sR cs.length λp=>if atN cs p<=a/\b<=rdN cs p/\rdN cs p<T then lnN cs p else 0
theorem J0x(w:Wf cs s)(ne:¬(s.lr=[]/\s.wa=[])):∃p n,Vs rs cs s.ds (letM cs s).wa p/\QU rs cs s=doM rs cs (letM cs s) p n/\p<cs.length/\0<n/\s.ds.getD p 0+n<=QV (hsN rs cs p) (s.ds.getD p 0) (lnN cs p)/\(∀q∈(letM cs s).lr,n<=rdN cs q-tIn cs s)/\(0<=s.ds.getD p 0/\s.ds.getD p 0<lnN cs p)/\rdN cs p<=tIn cs s /\
  ∀q,(doM rs cs (letM cs s) p n).ds.getD q 0=if p=q then s.ds.getD p 0+n else s.ds.getD q 0:=by
 have w1:=w.let
 have gt:=Jsu w
 obtain⟨p,ip⟩:=Jnt (rs:=rs) (cs:=cs) (ds:=(letM cs s).ds)<|Jsv (cs:=cs) ne
 have hp:=ip.1
 have zp:=w1.z p<|Zl _ hp
 have lp:=w1.mem p<|Zl _ hp
 obtain⟨n0,n1⟩:=Jh9 (rs:=rs) gt zp.2
 refine⟨p,Qd rs cs (letM cs s) p,ip,by unfold QU goM;rw[ip.eq],lp,n0,n1,λq hq=>Jwx (rs:=rs) (p:=p) w1.srt (q:=q) hq,zp,w1.rw p hp,λq=>?_⟩
 have ld:=w.ld
 show(s.ds.set p _).getD q 0=_
 rw[XD]
 by_cases e:p=q
 ·subst e;rw[if_pos ⟨rfl,00⟩,if_pos rfl];rfl
 ·rw[if_neg λz=>e z.1,if_neg e]
def endP(p:Nat):Tn->Wv
 |[]=>Zc
 |a::l=>match endP p l with
  |some e=>Za e
  |none=>if a.1=p then Za a.2.2 else Zc
theorem VR:∀{l:Tn},endP p (l++[a])=if a.1=p then Za a.2.2 else endP p l
 |[]=>by simp[endP]
 |b::l=>by
  rw[Zaf,endP,VR,endP]
  by_cases e:a.1=p
  ·rw[if_pos e,if_pos e]
  ·rw[if_neg e,if_neg e]
theorem Jr1{l:Tn}{n p:Nat}(e:l[n]?=Za a):endP p (l.take<|n+1)=if a.1=p then Za a.2.2 else endP p (l.take n):=by
 have hn:=(Zr.mp e).1
 rw[ZZ hn,VR,(Zr.mp e).2]
structure Hard(rs:Ts)(cs:Tt)(a P:Nat)(T g B:Int):Prop where
 lp:P<cs.length
 ap:atN cs P=a
 rp:rdN cs P=T
 g0:0<=g
 b0:0<=B
 tg:g<=T
 st:∀q,q<cs.length->atN cs q<=a->T<=rdN cs q
 one:∀q,q<cs.length->atN cs q=a->q=P
 pe:∀x∈hsN rs cs P,x.2.2<lnN cs P
 wk:(g=0/\B=0/\∀q,q<cs.length->atN cs q<=a)∨∃H,H<cs.length/\(a:Int)<atN cs H/\(∀q,q<cs.length->(a:Int)<atN cs q->q=H)/\rdN cs H=T-g/\g+B<lnN cs H/\∃x∈hsN rs cs H,fZ (rs.map (·.2)) x.1<=a/\x.2.1+1=g/\x.2.2=g+B/\∀y∈hsN rs cs H,fZ (rs.map (·.2)) y.1<=a->y.2.2-y.2.1-1<=B/\(x.2.1<y.2.1->y.2.1<x.2.2->y.2.2<=x.2.2)
section
variable{rs:Ts}{cs:Tt}{a P:Nat}{T g B:Int}
def fF(cs:Tt)(a:Nat)(T g B τ:Int)(q:Nat):Int:=(if atN cs q<=a/\T<=rdN cs q/\rdN cs q<τ then lnN cs q else 0)+if (a:Int)<atN cs q then g+B else 0
theorem Jx0{f g:Nat->Int}:∀{n:Nat},sR n (λp=>f p+g p)=sR n f+sR n g
 |0=>rfl
 |n+1=>by rw[Vm,Vm,Vm,Jx0];omega
theorem Jth(h:H<n)(c:Int):sR n (λq=>if q=H then c else 0)=c:=by
 rw[Jti (f:=λ_=>0) (p:=H) (λq z=>if_neg z) h,YH λ_ _=>rfl,if_pos rfl]
 omega
theorem J0l{f g:Nat->Int}{n:Nat}(h:∀q,q<n->f q=g q):sR n f=sR n g:=Int.le_antisymm (VX λq l=>ZeM<|h q l)<|VX λq l=>ZeM (h q l).symm
theorem Hard.sum(h:Hard rs cs a P T g B)(τ:Int):sR cs.length (fF cs a T g B τ)=dM cs a T τ+(g+B):=by
 unfold fF
 rw[Jx0]
 show dM cs a T τ+_=_
 congr 1
 rcases h.wk with⟨e1,e2,al⟩|⟨H,lH,aH,uq,_⟩
 ·rw[YH λq lq=>if_neg (by have:=al q lq;omega)]
  omega
 ·refine Eq.trans (J0l λq lq=>?_)<|Jth lH<|g+B
  by_cases e:q=H
  ·rw[e,if_pos aH,if_pos rfl]
  ·rw[if_neg λz=>e<|uq q lq z,if_neg e]
theorem Hard.low(h:Hard rs cs a P T g B){ds:Tk}(hτ:T<τ)(eq:τ-(T-g)=sR cs.length λq=>ds.getD q 0)(le:∀q,q<cs.length->ds.getD q 0<=lnN cs q)(rd:∀q,q<cs.length->0<ds.getD q 0->rdN cs q<τ)(hP:ds.getD P 0<lnN cs P)(hH:∀q,q<cs.length->(a:Int)<atN cs q->ds.getD q 0<=g+B):τ-T<B+dM cs a T τ:=by
 have s:=h.sum τ
 have ap:=h.ap
 have rp:=h.rp
 have lt:sR cs.length (λq=>ds.getD q 0)<sR cs.length (fF cs a T g B τ):=by
  refine J3z (p:=P) (λq lq=>?_) h.lp ?_
  ·have h1:=le q lq
   have h2:=rd q lq
   have h3:=hH q lq
   have h4:=h.st q lq
   unfold fF
   by_cases c:atN cs q<=a
   ·rw[if_neg<|show ¬(a:Int)<atN cs q by omega]
    by_cases c2:rdN cs q<τ
    ·rw[if_pos ⟨c,h4 c,c2⟩]
     omega
    ·rw[if_neg λz=>c2 z.2.2]
     omega
   ·rw[if_pos (show(a:Int)<atN cs q by omega),if_neg λz=>c z.1]
    have:=h3 00
    omega
  ·unfold fF
   rw[if_pos ⟨00,00,00⟩,if_neg 00]
   omega
 omega
structure Fx(cs:Tt)(a:Nat)(T B e:Int):Prop where
 t:T<e
 lo:∀t,1<=t->T+t<e->t<B+dM cs a T (T+t)
 eq:e-T=B+dM cs a T e
structure Hq(rs:Ts)(cs:Tt)(a P:Nat)(T g B:Int)(s:Bs):Prop where
 nn:∀q,q<cs.length->0<=s.ds.getD q 0
 rd:∀q,q<cs.length->0<s.ds.getD q 0->rdN cs q<s.t
 pr:s.ds.getD P 0<lnN cs P->(T-g<=s.t->s.t-(T-g)=sR cs.length λq=>s.ds.getD q 0)/\(∀q,q<cs.length->(a:Int)<atN cs q->s.ds.getD q 0<=g+B/\(T<=s.t->g<=s.ds.getD q 0))/\∀t,1<=t->T+t<=s.t->t<B+dM cs a T (T+t)
 po:lnN cs P<=s.ds.getD P 0->∃e,endP P s.sr.reverse=Za e/\Fx cs a T B e
theorem J4f(w:Wf cs s)(lq:q<cs.length)(dq:s.ds.getD q 0<lnN cs q)(rq:rdN cs q<=s.t):tIn cs s=s.t:=by
 have m:q∈s.lr++s.wa:=Zan λm=>by rw[w.dn q lq m]at dq;omega
 have sr:=w.srt
 unfold tIn
 split
 ·rename_i _ _ c r ew el
  rw[ew,el,Zam]at m
  rw[el]at sr
  have:rdN cs c<=rdN cs q:=by
   rcases Z6.mp m with rfl|m
   ·exact ZJ _
   ·exact(ZbS.mp sr).1 q m
  rw[if_neg 00]
 ·rfl
theorem J4g(w:Wf cs s)(lq:q<cs.length)(dq:s.ds.getD q 0<lnN cs q)(rq:rdN cs q=b)(al:∀p,p<cs.length->b<=rdN cs p)(lt:s.t<b):tIn cs s=b:=by
 have m:q∈s.lr++s.wa:=Zan λm=>by rw[w.dn q lq m]at dq;omega
 have ew:s.wa=[]:=by
  cases e:s.wa with
  |nil=>rfl
  |cons p r=>
   have h1:=w.rw p<|by rw[e];exact Zy ..
   have h2:=al p (w.mem p<|Zl _<|by rw[e];exact Zy ..)
   omega
 have sr:=w.srt
 unfold tIn
 rw[ew]
 rw[ew,Zam]at m
 cases el:s.lr with
 |nil=>rw[el]at m;cases m
 |cons c r=>
  rw[el]at m sr
  have h1:rdN cs c<=rdN cs q:=by
   rcases Z6.mp m with rfl|m
   ·exact ZJ _
   ·exact(ZbS.mp sr).1 q m
  have h2:=al c (w.mem c<|ZQ _<|by rw[el];exact Zy ..)
  show(if rdN cs c>s.t then rdN cs c else s.t)=b
  rw[if_pos 00]
  omega
theorem Jr2{p:Nat}{t u:Int}{l:Tn}(ne:p≠P):endP P (Vp p t u l).reverse=endP P l.reverse:=by
 cases l with
 |nil=>
  show endP P ([]++[(p,t,u)])=_
  rw[VR,if_neg ne]
  rfl
 |cons c r=>
  show endP P (if c.1=p then(p,c.2.1,u)::r else(p,t,u)::c::r).reverse=_
  split
  ·rename_i e
   rw[ZaM,ZaM,VR,VR,if_neg ne,if_neg<|by rw[e];exact ne]
  ·rw[ZaM,VR,if_neg ne]
theorem Ju3{t u:Int}{l:Tn}:endP P (Vp P t u l).reverse=Za u:=by
 cases l with
 |nil=>
  show endP P ([]++[(P,t,u)])=_
  rw[VR,if_pos rfl]
 |cons c r=>
  show endP P (if c.1=P then(P,c.2.1,u)::r else(P,t,u)::c::r).reverse=_
  split<;>rw[ZaM,VR,if_pos rfl]
theorem Hq.at_(h:Hard rs cs a P T g B)(w:Wf cs s)(v:Hq rs cs a P T g B s)(dP:s.ds.getD P 0<lnN cs P):(T-g<=tIn cs s/\tIn cs s-(T-g)=sR cs.length λq=>s.ds.getD q 0)/\(∀q,q<cs.length->(a:Int)<atN cs q->s.ds.getD q 0<=g+B/\(T<=tIn cs s->g<=s.ds.getD q 0))/\∀t,1<=t->T+t<=tIn cs s->t<B+dM cs a T (T+t):=by
 obtain⟨e,hb,lo⟩:=v.pr dP
 have rp:=h.rp
 have g0:=h.g0
 have b0:=h.b0
 have al:∀p,p<cs.length->T-g<=rdN cs p:=λp lp=>by
  by_cases c:atN cs p<=a
  ·have:=h.st p lp c
   omega
  ·rcases h.wk with⟨_,_,z⟩|⟨H,_,_,uq,rH,_⟩
   ·exact absurd (z p lp) c
   ·rw[uq p lp 00,rH]
    exact ZJ _
 obtain⟨q0,l0,r0,d0⟩:∃q,q<cs.length/\rdN cs q=T-g/\s.ds.getD q 0<lnN cs q:=by
  rcases h.wk with⟨z,_,_⟩|⟨H,lH,aH,_,rH,sH,_⟩
  ·exact⟨P,h.lp,00,dP⟩
  ·have:=(hb H lH aH).1
   exact⟨H,lH,rH,00⟩
 by_cases c:T-g<=s.t
 ·rw[J4f w l0 d0 00]
  exact⟨⟨c,e c⟩,hb,lo⟩
 ·rw[J4g w l0 d0 r0 al 00]
  have z:∀q,q<cs.length->s.ds.getD q 0=0:=λq lq=>by
   have h1:=v.nn q lq
   have h2:=al q lq
   by_cases y:0<s.ds.getD q 0
   ·have:=v.rd q lq y
    omega
   ·omega
  refine⟨⟨ZJ _,?_⟩,λq lq aq=>⟨(hb q lq aq).1,λy=>?_⟩,λt t1 t2=>00⟩
  ·rw[YH z]
   omega
  ·rw[z q lq]
   omega
theorem Hq.step(h:Hard rs cs a P T g B)(hn:∀q,q<cs.length->0<lnN cs q)(w:Wf cs s)(ne:¬(s.lr=[]/\s.wa=[]))(v:Hq rs cs a P T g B s):Hq rs cs a P T g B (QU rs cs s):=by
 have w1:=w.let
 have tg:=Jtu cs s
 have lP:=h.lp
 have rP:=h.rp
 have aP:=h.ap
 have b0:=h.b0
 obtain⟨p,n,ip,es,lp,n0,n1,n2,zp,rp,gd⟩:=J0x (rs:=rs) w ne
 rw[es]
 have sl:=Jn6 (hsN rs cs p) (s.ds.getD p 0)<|lnN cs p
 have le:∀q,q<cs.length->s.ds.getD q 0<=lnN cs q:=λq lq=>by
  by_cases m:q∈s.lr++s.wa
  ·exact Zef (w.z q m).2
  ·rw[w.dn q lq m]
   exact ZJ _
 have inw:∀q,q<cs.length->s.ds.getD q 0<lnN cs q->rdN cs q<=tIn cs s->q∈(letM cs s).wa:=λq lq lt r=>by
  rcases ZK.mp (Zan λm=>by
   have:s.ds.getD q 0=_:=w1.dn q lq m
   omega:q∈(letM cs s).lr++(letM cs s).wa)with m|m
  ·have:tIn cs s<rdN cs q:=Jsu w q m
   omega
  ·exact m
 have inl:∀q,q<cs.length->s.ds.getD q 0<lnN cs q->tIn cs s<rdN cs q->n<=rdN cs q-tIn cs s:=λq lq lt r=>by
  rcases ZK.mp (Zan λm=>by
   have:s.ds.getD q 0=_:=w1.dn q lq m
   omega:q∈(letM cs s).lr++(letM cs s).wa)with m|m
  ·exact n2 q m
  ·have:rdN cs q<=tIn cs s:=w1.rw q m
   omega
 have rd:∀q,q<cs.length->0<s.ds.getD q 0->rdN cs q<tIn cs s:=λq lq y=>by
  have:=v.rd q lq y
  omega
 -- p has had j Xb more
 have gj:∀j q,(s.ds.set p<|s.ds.getD p 0+j).getD q 0=if p=q then s.ds.getD p 0+j else s.ds.getD q 0:=λj q=>by
  have ld:=w.ld
  rw[XD]
  by_cases e:p=q
  ·subst e;rw[if_pos ⟨rfl,00⟩,if_pos rfl]
  ·rw[if_neg λz=>e z.1,if_neg e]
 have sj:∀j,(sR cs.length λq=>(s.ds.set p<|s.ds.getD p 0+j).getD q 0)=(sR cs.length λq=>s.ds.getD q 0)+j:=λj=>by
  rw[Jti (f:=λq=>s.ds.getD q 0) (p:=p) (λq z=>by rw[gj,if_neg<|Zab z]) lp,gj,if_pos rfl]
  omega
 have rj:∀j,0<j->∀q,q<cs.length->0<(s.ds.set p<|s.ds.getD p 0+j).getD q 0->rdN cs q<tIn cs s+j:=λj j0 q lq y=>by
  rw[gj]at y
  split at y
  ·rename_i e;subst e;omega
  ·have:=rd q lq y
   omega
 have nn':∀q,q<cs.length->0<=(doM rs cs (letM cs s) p n).ds.getD q 0:=λq lq=>by
  have:=v.nn q lq
  rw[gd]
  split<;>omega
 refine⟨nn',rj n n0,λdP'=>?_,λdP'=>?_⟩
 ·-- not done yet
  have dP':(s.ds.set p<|s.ds.getD p 0+n).getD P 0<lnN cs P:=dP'
  have dP:s.ds.getD P 0<lnN cs P:=by
   rw[gj]at dP'
   split at dP'
   ·rename_i e;subst e;omega
   ·exact dP'
  obtain⟨⟨e1,e2⟩,hb,lo⟩:=v.at_ h w dP
  have hH:∀q,q<cs.length->(a:Int)<atN cs q->(s.ds.set p<|s.ds.getD p 0+n).getD q 0<=g+B/\(T<=tIn cs s+n->g<=(s.ds.set p<|s.ds.getD p 0+n).getD q 0):=λq lq aq=>by
   obtain⟨hq1,hq2⟩:=hb q lq aq
   by_cases c:T<=tIn cs s
   ·have hq2:=hq2 c
    by_cases e:p=q
    ·subst e
     rw[gj,if_pos rfl]
     refine⟨?_,λ_=>00⟩
     rcases h.wk with⟨_,_,z⟩|⟨H,lH,aH,uq,rH,sH,x,hx,fx,x1,x2,mx⟩
     ·have:=z p lp;omega
     obtain rfl:=uq p lp aq
     have hw:=inw P lP dP 00
     have k1:=(Jnu ip hw).1
     have k2:rkN rs cs s.ds P<=atN cs P:=Jo2
     obtain⟨z,hz,ez⟩:=J6a (hss:=rs.map (·.2)) (zs:=acN rs cs s.ds p) (a:=(cs.getD p cd).at_) (by show rkN rs cs s.ds p<atN cs p;omega)
     have ez:rkN rs cs s.ds p=fZ (rs.map (·.2)) z:=ez
     obtain⟨y,hy,rfl⟩:=Zz.mp hz
     obtain⟨hy,ay⟩:=Za3.mp hy
     simp only[actv,Zo,decide_eq_true_eq]at ay
     by_cases c2:s.ds.getD p 0<x.2.2
     ·have:=Jm3 (len:=lnN cs p) hx c2
      omega
     ·obtain⟨m1,m2⟩:=mx y hy 00
      have:=m2 00 00
      omega
    ·rw[gj,if_neg e]
     exact⟨hq1,λ_=>hq2⟩
   ·have tn:=inl P lP dP 00
    have ep:p=q:=by
     rcases h.wk with⟨_,_,z⟩|⟨H,lH,aH,uq,_⟩
     ·have:=z q lq;omega
     ·refine(uq p lp<|Zan λz=>?_).trans (uq q lq aq).symm
      have:=h.st p lp 00
      omega
    subst ep
    have one:s.ds.getD p 0<=tIn cs s-(T-g):=by
     rw[e2,<-Jth lp (s.ds.getD p 0)]
     refine VX λq lq=>?_
     split
     ·rename_i e;rw[e];exact ZJ _
     ·exact v.nn q lq
    refine⟨by rw[gj,if_pos rfl];omega,λy=>?_⟩
    have:(sR cs.length λq=>(s.ds.set p<|s.ds.getD p 0+n).getD q 0)<=(s.ds.set p<|s.ds.getD p 0+n).getD p 0:=by
     rw[<-Jth lp ((s.ds.set p<|s.ds.getD p 0+n).getD p 0)]
     refine VX λq lq=>?_
     split
     ·rename_i e;rw[e];exact ZJ _
     ·rename_i e
      refine Zan λz=>?_
      have h1:=rj n n0 q lq 00
      have h2:atN cs q<=a:=Zan λz=>by
       rcases h.wk with⟨_,_,y⟩|⟨H,lH,aH,uq,_⟩
       ·exact z<|y q lq
       ·exact e<|(uq q lq 00).trans (uq p lp aq).symm
      have:=h.st q lq h2
      omega
    rw[sj]at this
    omega
  refine⟨λ_=>?_,hH,λt t1 t2=>?_⟩
  ·have:=sj n
   show tIn cs s+n-(T-g)=_
   rw[show(doM rs cs (letM cs s) p n).ds=s.ds.set p (s.ds.getD p 0+n)from rfl,this]
   omega
  ·have t2:T+t<=tIn cs s+n:=t2
   by_cases c:T+t<=tIn cs s
   ·exact lo t t1 c
   ·obtain⟨j,rfl⟩:∃j,t=tIn cs s+j-T:=⟨T+t-tIn cs s,00⟩
    have:=h.low (ds:=s.ds.set p<|s.ds.getD p 0+j) (τ:=tIn cs s+j) 00 (by rw[sj];omega) (λq lq=>by
     have:=le q lq
     rw[gj]
     split
     ·rename_i e;subst e;omega
     ·exact this) (rj j 00) (by
     rw[gj]at dP' ⊢
     split
     ·rename_i e;rw[if_pos e]at dP';omega
     ·exact dP) λq lq aq=>by
      have:=(hH q lq aq).1
      have h2:=(hb q lq aq).1
      rw[gj]at this ⊢
      split
      ·rename_i e;rw[if_pos e]at this;omega
      ·exact h2
    rw[show T+(tIn cs s+j-T)=tIn cs s+j by omega]
    exact this
 ·have dP':lnN cs P<=(s.ds.set p<|s.ds.getD p 0+n).getD P 0:=dP'
  by_cases e:p=P
  ·subst e
   rw[gj,if_pos rfl]at dP'
   have dP:=zp.2
   obtain⟨⟨e1,e2⟩,hb,lo⟩:=v.at_ h w dP
   refine⟨tIn cs s+n,Ju3,00,λt t1 t2=>?_,?_⟩
   ·by_cases c:T+t<=tIn cs s
    ·exact lo t t1 c
    ·obtain⟨j,rfl⟩:∃j,t=tIn cs s+j-T:=⟨T+t-tIn cs s,00⟩
     have:=h.low (ds:=s.ds.set p<|s.ds.getD p 0+j) (τ:=tIn cs s+j) 00 (by rw[sj];omega) (λq lq=>by
      have:=le q lq
      rw[gj]
      split
      ·rename_i e;subst e;omega
      ·exact this) (rj j 00) (by rw[gj,if_pos rfl];omega) λq lq aq=>by
       rw[gj,if_neg λe=>by subst e;omega]
       exact(hb q lq aq).1
     rw[show T+(tIn cs s+j-T)=tIn cs s+j by omega]
     exact this
   ·have s1:=h.sum<|tIn cs s+n
    have ac:acN rs cs s.ds p=[]:=by
     cases e:acN rs cs s.ds p with
     |nil=>rfl
     |cons z l=>
      have hz:z∈acN rs cs s.ds p:=by rw[e];exact Zy ..
      obtain⟨y,hy,rfl⟩:=Zz.mp hz
      obtain⟨hy,ay⟩:=Za3.mp hy
      simp only[actv,Zo,decide_eq_true_eq]at ay
      have k1:=Jm3 (len:=lnN cs p) hy ay.2
      have k2:=h.pe y hy
      omega
    have kp:rkN rs cs s.ds p=atN cs p:=by
     unfold rkN
     rw[ac]
     rfl
    have key:sR cs.length (λq=>(s.ds.set p<|s.ds.getD p 0+n).getD q 0)=sR cs.length (fF cs a T g B<|tIn cs s+n):=J0l λq lq=>by
     rw[gj]
     unfold fF
     by_cases c:atN cs q<=a
     ·rw[if_neg<|show ¬(a:Int)<atN cs q by omega]
      have hst:=h.st q lq c
      by_cases eq:p=q
      ·subst eq
       rw[if_pos rfl,if_pos ⟨c,hst,00⟩]
       omega
      ·rw[if_neg eq]
       have lt:atN cs q<a:=Zan λz=>eq (h.one q lq 00).symm
       by_cases d:s.ds.getD q 0<lnN cs q
       ·have r1:tIn cs s<rdN cs q:=Zan λz=>by
         have k1:=(Jnu ip<|inw q lq d 00).1
         have k2:rkN rs cs s.ds q<=atN cs q:=Jo2
         omega
        have r2:=inl q lq d r1
        have k1:=v.nn q lq
        have k2:=rd q lq
        rw[if_neg λz=>by have:=z.2.2;omega]
        by_cases y:0<s.ds.getD q 0
        ·have:=k2 y;omega
        ·omega
       ·have k1:=le q lq
        have k2:rdN cs q<tIn cs s:=rd q lq (by
         have:0<lnN cs q:=by
          by_cases m:q∈s.lr++s.wa
          ·have:=w.z q m;omega
          ·exact hn q lq
         omega)
        rw[if_pos ⟨c,hst,00⟩]
        omega
     ·have aq:(a:Int)<atN cs q:=00
      rw[if_neg λe=>by subst e;omega,if_pos aq,if_neg λz=>c z.1]
      obtain⟨h1,h2⟩:=hb q lq aq
      have h2:=h2 00
      rcases h.wk with⟨_,_,z⟩|⟨H,lH,aH,uq,rH,sH,x,hx,fx,x1,x2,mx⟩
      ·exact absurd (z q lq) c
      obtain rfl:=uq q lq aq
      by_cases d:s.ds.getD q 0<g+B
      ·have m:=J1v (ds:=s.ds) hx 00 00
       have k1:rkN rs cs s.ds q<=fZ (rs.map (·.2)) x.1:=J59 m
       obtain⟨k2,k3⟩:=Jnu ip<|inw q lq 00 00
       have:=k3 00 ac
       rw[this]at m
       cases m
      ·omega
    rw[sj]at key
    omega
  ·rw[gj,if_neg e]at dP'
   obtain⟨u,e1,e2⟩:=v.po dP'
   exact⟨u,(Jr2 e).trans e1,e2⟩
theorem Ju9(h:Hard rs cs a P T g B)(Lg:Legal rs cs)(six:∀r∈rs,r.2.length<=6):∃e,endP P (finM rs cs).sr.reverse=Za e/\Fx cs a T B e:=by
 have z0:∀q,(s0 cs).ds.getD q 0=0:=ds0 cs
 have hn:∀q,q<cs.length->0<lnN cs q:=λq lq=>by
  have:=(Lg.ok (cs.getD q cd)<|by rw[Zi,Zb lq];exact Zw lq).n1
  show 0<(cs.getD q cd).len
  omega
 have g0:=h.g0
 have b0:=h.b0
 have tg:=h.tg
 have nP:=hn P h.lp
 have r:=Jte (rs:=rs) (cs:=cs) (Hq rs cs a P T g B) (λs w ne v=>v.step h hn w ne) (8*cs.length) (s0 cs) (wf0 λc hc=>(Lg.ok c hc).n1) (mea0 six λc hc=>(Lg.ok c hc).at_) ⟨λq _=>by rw[z0];exact ZJ _,λq _ y=>by rw[z0]at y;omega,λ_=>⟨λy=>?_,λq _ _=>⟨by rw[z0];omega,λy=>?_⟩,λt t1 t2=>?_⟩,λy=>by rw[z0]at y;omega⟩
 ·obtain⟨wf,el,ew,i⟩:=r
  exact i.po (ZeM (wf.dn P h.lp<|by rw[el,ew];simp).symm)
 ·rw[YH λq _=>z0 q]
  have y:T-g<=0:=y
  show 0-(T-g)=0
  omega
 ·have y:T<=0:=y
  rw[z0]
  omega
 ·have t2:T+t<=0:=t2
  omega
end
section
seal L4.run L4.WS
def tn(b:Hd):Int:=b.2.2-b.2.1-1
def prV(p:Nat×Hd):IV:=.tup [.int (p.1:Int),tupH p.2]
noncomputable def kfV (v:IV):Int:=match v with
 |.tup [_,.tup [_,.int s,.int e]]=>e-s-1
 |_=>0
theorem Jyt(l:List<|Nat×Hd):(l=[]/\Yq kfV .non (l.map prV)=.non)∨∃p∈l,Yq kfV .non (l.map prV)=prV p/\∀p'∈l,tn p'.2<=tn p.2:=by
 cases l with
 |nil=>exact .inl ⟨rfl,rfl⟩
 |cons p0 r=>
  refine .inr ?_
  rw[Z1]
  show ∃p∈p0::r,QD kfV (prV p0) (r.map prV)=prV p/\_
  obtain⟨h1,h2⟩:=Jhi kfV (r.map prV)<|prV p0
  have key:∀p,QD kfV (prV p0) (r.map prV)=prV p->∀p'∈p0::r,tn p'.2<=tn p.2:=λp e p' hp'=>by
   rw[e]at h1 h2
   rcases Z6.mp hp' with rfl|hp'
   ·exact h1
   ·exact h2 _<|Zz.mpr ⟨p',hp',rfl⟩
  rcases Jfz kfV (r.map prV) (prV p0)with e|e
  ·exact⟨p0,Zy,e,key p0 e⟩
  ·obtain⟨p,hp,e⟩:=Zz.mp e
   exact⟨p,Zp _ hp,e.symm,key p e.symm⟩
def stB(hss:Wi)(a:Nat)(b:Hd):Bool:=decide (fZ hss b.1<=a)
def stV(hss:Wi)(a:Nat)(v:IV):Bool:=match v with
 |.tup [.str x,.int s,.int e]=>stB hss a (x,s,e)
 |_=>Zk
def J3m(o:Int)(v:IV):IV:=.tup [.int o,v]
theorem Jto(hss:Wi)(a o:Nat):∀hs:Tr,((hs.map tupH).filter<|stV hss a).map (J3m (o:Int))=((hs.filter<|stB hss a).map λb=>(o,b)).map prV
 |[]=>rfl
 |b::hs=>by
  rw[Z1,ZbO,ZbO]
  have e:stV hss a (tupH b)=stB hss a b:=rfl
  rw[e]
  split
  ·rw[Z1,Z1,Z1,Jto hss a o hs]
   rfl
  ·exact Jto hss a o hs
def blkL(rs:Ts)(a:Nat):Nat->List (Nat×Hd)
 |0=>[]
 |n+1=>blkL rs a n++((rs.getD (a+1+n) rd).2.filter (stB (rs.map (·.2)) a)).map λb=>(a+1+n,b)
theorem Jrj{rs:Ts}{a:Nat}{x:Nat×Hd}:∀{n:Nat},x∈blkL rs a n->a<x.1/\x.1<a+1+n/\x.2∈(rs.getD x.1 rd).2/\fZ (rs.map (·.2)) x.2.1<=a
 |0,h=>by cases h
 |n+1,h=>by
  rcases ZK.mp h with h|h
  ·obtain⟨h1,h2,h3⟩:=Jrj h
   exact⟨h1,00,h3⟩
  ·obtain⟨b,hb,rfl⟩:=Zz.mp h
   exact⟨by show a<a+1+n;omega,by show a+1+n<_;omega,(Za3.mp hb).1,of_decide_eq_true (Za3.mp hb).2⟩
theorem Jkd{rs:Ts}{a w:Nat}{b:Hd}(l:a<w)(hb:b∈(rs.getD w rd).2)(f:fZ (rs.map (·.2)) b.1<=a):∀{n:Nat},w<a+1+n->(w,b)∈blkL rs a n
 |0,h=>00
 |n+1,h=>by
  by_cases e:w=a+1+n
  ·exact Zl _ (Zz.mpr ⟨b,Za3.mpr ⟨e▸hb,decide_eq_true f⟩,by rw[e]⟩)
  ·exact ZQ _<|Jkd l hb f 00
theorem Jri(six:∀r∈rs,r.2.length<=6):∀{n:Nat},(blkL rs a n).length<=6*n
 |0=>Zm _
 |n+1=>by
  have:=Jri (a:=a) six (n:=n)
  have h2:=Za6 (stB (rs.map (·.2)) a) (rs.getD (a+1+n) rd).2
  have h3:(rs.getD (a+1+n) rd).2.length<=6:=by
   rw[Zi]
   cases e:rs[a+1+n]? with
   |none=>exact ZR _
   |some r=>exact six r<|ZaT e
  rw[blkL,Zs,Zg]
  omega
def bst(rs:Ts)(a:Nat):IV:=Yq kfV .non<|(blkL rs a<|rs.length-(a+1)).map prV
def oV:Wd->IV
 |none=>.non
 |some p=>prV p
def HO(rs:Ts)(a:Nat)(o:Wd):Prop:=match o with
 |none=>blkL rs a (rs.length-(a+1))=[]
 |some p=>p∈blkL rs a (rs.length-(a+1))/\∀x∈blkL rs a (rs.length-(a+1)),tn x.2<=tn p.2
theorem J1w(rs:Ts)(a:Nat):∃o,bst rs a=oV o/\HO rs a o:=by
 rcases Jyt (blkL rs a<|rs.length-(a+1))with⟨e,e2⟩|⟨p,hp,e2,mx⟩
 ·exact⟨Zc,e2,e⟩
 ·exact⟨Za p,e2,hp,mx⟩
section
variable{k:Nat}{h:IH}
theorem J4h(b:Hd):Jct (k+1) [tupH b] h=.ok (.int<|tn b) h:=Js<|by rw[Jj6];exact xfin<|xret<|Je (subE (subE (ixtE rfl rfl Qk)<|ixtE rfl rfl JN) rfl) ⟨rfl,rfl⟩
theorem J1k{gt:IV->IV->Wt}{js:Tl}{m:E1}{d:IV}{Q:IV->IH->Prop}(hj:h[j]?=Za (.tab q))(hi:σ[i]?=Za (Za<|.ref a)):
  WR (Y0 gt q j js (Jb (Ja i) Jd) m (eC d) σ h) Q=WR (QR gt (λv h'=>m (Za v::js.map λj=>(σ[j]?).join) h') a (Za d) h) Q:=by
 have e:Jb (Ja i) Jd σ h=.ok [.ref a] h:=by
  unfold Jb Ja Jd
  rw[hi]
  rfl
 unfold Y0
 rw[e]
 show WR (match h[j]? with|some (.tab q')=>_|_=>_) Q=_
 rw[hj]
 dsimp only
 rw[if_pos rfl]
 rfl
theorem Jqk{D a:Nat}{rs:Ts}(ha:a<rs.length)(hd:IsDu h D rs)(few:rs.length<=12)(six:∀r∈rs,r.2.length<=6)(h0:h[2]?=Za (.tab "longest_hold")):
  WR (Jbl (k+3) [.ref D,.int (a:Int)] h) λv h'=>v=bst rs a/\Ex h h':=by
 have hb:=J2
 obtain⟨vs,gD,w⟩:=hd
 obtain⟨_,h1,e1,t,kvs,rfl,gt,tv,x1⟩:=(Jhk (k:=k) gD w few six).eq
 have gD1:=x1.get gD
 have w1:=w.kp x1.kp
 have wl:=w.len
 rw[Jhu]
 refine xfin<|xseq<|xset<|Je (JB (arg1 rfl) e1)<|xseq<|xset<|Je rfl (xseq<|xfor ?_)
 rw[VL]
 refine Je (arg2 (addE rfl rfl)<|dotE rfl (grow gD1) dls (Jc9 _) rfl (Jho<|grow gD1)) ?_
 rw[Jk2]
 refine⟨00,?_⟩
 refine Qo (λm σ h'=>∃(c:Tb),σ=[Za<|.ref D,Za<|.int (a:Int),Za<|.ref t,Za<|.ref h1.length,c]/\h'[h1.length]?=Za (.lst<|(blkL rs a m).map prV)/\Kp h1 h') (λ_ _ _ _=>trivial) ?_ ?_ ⟨Zc,rfl,Jm,(Ex.one _ _).kp⟩
 ·rintro n hn _ h2 ⟨c,rfl,g2,k2⟩
  rw[Vk]
  rw[Qa]at hn
  have hn':a+1+n<rs.length:=00
  rw[show(a:Int)+1+(n:Int)=((a+1+n:Nat):Int) by push_cast;omega]
  have er:rs[a+1+n]?=Za rs[a+1+n]:=Zb hn'
  have mr:=Zw hn'
  have eg:rs.getD (a+1+n) rd=rs[a+1+n]:=by rw[Zi,er];rfl
  generalize rs[a+1+n]=r at er mr eg
  obtain⟨j,ej,gj⟩:=w1.get er
  have av:atI vs ((a+1+n:Nat):Int)=Za (.ref j):=JE ej
  have l6:=six r mr
  obtain⟨_,_,e3,rfl,gg,rfl⟩:=(YU (it:=Ju<|Jp (pg<|k+2) "held" 0 (Jp (pg<|k+2) "work" 1 'a'<|Jb 'e' Jd) Jd) (js:=[1,2,4]) (t:=Jaf<|k+2) (e:=Jba<|k+2) (σ:=[Za<|.ref D,Za<|.int (a:Int),Za<|.ref t,Za<|.ref h1.length,Za<|.int ((a+1+n:Nat):Int)]) (h0:=h2) (h:=h2++[IX.lst<|r.2.map tupH]) (xs:=r.2.map tupH) (chk:=λh'=>h'[h2.length]?=Za (.lst<|r.2.map tupH)) (p:=stV (rs.map (·.2)) a) (f:=J3m ((a+1+n:Nat):Int))
   (by
    rw[JU]
    exact Je (dotE (wkE (k2 _ _ gD1) rfl rfl av) (k2 _ _ gj) flh (Jbi _) rfl (Jfr<|k2 _ _ gj))<|(JM _).mpr ⟨_,Jm,rfl,rfl,rfl⟩) (by rw[Zg];omega) (λh3 q=>q _ _ Jm) (by
    intro v hv h3 q
    obtain⟨b,hb',rfl⟩:=Zz.mp hv
    have z:=tv b.1
    have gt3:h3[t]?=Za (.dct kvs):=q _ _<|grow<|k2 _ _ gt
    cases em:fstK (rs.map (·.2)) b.1 with
    |none=>
     unfold fstK at em
     rw[Zb7]at em
     have:=em r.2<|Zz.mpr ⟨r,mr,rfl⟩
     exact absurd (show has b.1 r.2=Zh from Zbf.mpr ⟨b,hb',decide_eq_true rfl⟩)<|by rw[this];exact Zu
    |some m=>
     rw[em]at z
     have ev:valI kvs (.inr b.1)=Za (.int (m:Int)):=by
      cases w:valI kvs (.inr b.1)with
      |none=>rw[w]at z;cases z
      |some v'=>rw[w]at z;exact congrArg Za z
     have fz:fZ (rs.map (·.2)) b.1=m:=by unfold fZ;rw[em]
     unfold Jaf
     refine Je (leE ((binE rfl (ixtE rfl rfl Qb)).trans<|Js<|by rw[Jt9 gt3 ev];exact⟨rfl,rfl⟩) rfl) ⟨?_,.refl _⟩
     show decide ((m:Int)<=a)=decide (fZ (rs.map (·.2)) b.1<=a)
     rw[fz]) (by
    intro v hv _ h3 q
    exact Je (tupE (arg2 rfl rfl) rfl) ⟨rfl,.refl _⟩)).eq
  have lr:=Za6 (stB (rs.map (·.2)) a) r.2
  have lf:=Jri (a:=a) six (n:=n)
  rw[Jto]at e3
  have G':∀{i:Nat}{o o':IX}{g:IH},h2[i]?=Za o->(h2++[IX.lst<|r.2.map tupH]++o'::g)[i]?=Za o:=λe=>(Ex.cons _ _ _).get<|grow e
  refine xnx rfl (Qx<|QK rfl g2 Jhj (Je (arg1 e3) ?_))
  rw[Jia (xs:=(blkL rs a n).map prV) (G' g2) J4 (by rw[Zg,Zg,Zg];omega),<-Zat]
  refine⟨_,rfl,?_,λj o e=>J9 (G'<|k2 _ _ e) (by have:=JF e;omega)⟩
  rw[blkL,eg]
  exact Qu<|G' g2
 ·rintro _ h2 ⟨c,rfl,g2,k2⟩
  rw[Qa,show((vs.length:Int)-((a:Int)+1)).toNat=rs.length-(a+1) by omega]at g2
  have x2:=x1.trans<|Ju4 k2
  refine xret ?_
  rw[J1k (x2.get h0) rfl]
  refine WR.mono (Jw4 (kf:=kfV) g2 ?_) ?_
  ·intro v hv h3 x3
   obtain⟨p,hp,rfl⟩:=Zz.mp hv
   exact Je (JB (arg1<|ixtE rfl rfl JN)<|J4h p.2) ⟨rfl,.refl _⟩
  ·rintro v h3 ⟨rfl,x3⟩
   exact⟨rfl,x2.trans x3⟩
end
end
section
seal L4.run L4.WS L4.WR
def cmn(s:Int)(d:WD):Int:=if 1<=s then rup (s+d.late) d.gap else 0
def Qy(rs:Ts)(s:Int):Int:=(rs.map λr=>cmn s r.1*r.1.len).sum
theorem Jpy{rs:Ts}(hn:n<rs.length):Qy (rs.take<|n+1) s=Qy (rs.take n) s+cmn s (rs[n]).1*(rs[n]).1.len:=by
 unfold Qy
 rw[ZZ hn,Zat,Zdj]
 simp
def cm(s:Int)(a:Nat)(d:WD)(x:Int):Cm:=⟨a,x,if s-x>0 then s-x else 0,d.len⟩
noncomputable def Ql (s:Int)(d:WD)(n:Nat):Tk:=(ZM n).map λ(t:Nat)=>s-d.late+(t:Int)*d.gap
def thr(s:Int)(a:Nat)(d:WD)(n:Nat):Tt:=(Ql s d n).map<|cm s a d
def Jh(rs:Ts)(n:Nat):WD:=(rs.getD n rd).1
theorem Vq{rs:Ts}(hn:n<rs.length):Jh rs n=(rs[n]).1:=by
 unfold Jh
 rw[Zi,Zb hn]
 rfl
theorem Jkq(s:Int)(a:Nat)(d:WD)(n:Nat):(thr s a d n).length=n:=by simp[thr,Ql]
noncomputable def gO:Wd->Int
 |none=>0
 |some p=>p.2.2.1+1
def Q7(rs:Ts)(a:Nat)(o:Wd):Tk:=(rs.take<|a+1).map (λr=>r.1.late)++[gO o]
def tO(rs:Ts)(a:Nat)(o:Wd):Int:=JJ (λi=>(Q7 rs a o).getD i 0) (Q7 rs a o).length
def spA(rs:Ts)(a:Nat):Int:=(Jh rs a).due-(Jh rs a).late
def hdC(rs:Ts)(T:Int)(o:Wd):Tt:=match o with
 |none=>[]
 |some p=>[⟨p.1,T-gO (Za p),0,(Jh rs p.1).len⟩]
def rwC(rs:Ts)(T sp:Int):Nat->Tt
 |0=>[]
 |n+1=>rwC rs T sp n++thr T n (Jh rs n) (cmn sp<|Jh rs n).toNat
def JA(rs:Ts)(a:Nat)(o:Wd):Tt:=hdC rs (tO rs a o) o++rwC rs (tO rs a o) (spA rs a) a++thr (tO rs a o) a (Jh rs a) 1
theorem Jnw{T sp:Int}{m a:Nat}(c:∀n,n<a->(cmn sp<|Jh rs n).toNat<=m):∀n,n<=a->(rwC rs T sp n).length<=m*n
 |0,_=>Zm _
 |n+1,h=>by
  have:=Jnw (T:=T) c n 00
  have:=c n 00
  rw[rwC,Zs,Jkq,Nat.mul_succ]
  omega
noncomputable def cOf (s:Int)(d:WD)(v:IV):IV:=match v with
 |.int t=>.int<|s-d.late+t*d.gap
 |_=>.non
def mOf(s:Int)(a:Nat)(d:WD)(v:IV):IV:=match v with
 |.int x=>tupC<|cm s a d x
 |_=>.non
section
variable{k:Nat}{h:IH}{s:Int}
theorem Jp2{d:WD}{hs:Tq}{w:Nat}(hw:h[w]?=Za (.ins "Work"<|wfs d.name d.gap d.len d.due d.late hs))(hg:0<d.gap)(hl:d.gap.natAbs.log2<9000):
  Jcq (k+2) [.ref w,.int s] h=.ok (.int<|cmn s d) h:=by
 refine Js ?_
 rw[Jj3]
 refine xfin<|xret<|xeif<|Je (geE rfl rfl)<|xdec (λq=>?_) λq=>?_
 ·refine Je (JB (arg2 (addE rfl (fldE rfl hw fl4))<|fldE rfl hw fl1)<|Jmh hg hl) ⟨?_,rfl⟩
  unfold cmn
  rw[if_pos q]
 ·refine Je rfl ⟨?_,rfl⟩
  unfold cmn
  rw[if_neg q]
theorem Jx5{D a n:Nat}(hd:IsDu h D rs)(ha:a<rs.length)(hn:n<=100):
  WR (Jde (k+2) [.ref D,.int (a:Int),.int s,.int (n:Int)] h) λv h'=>∃i,v=.ref i/\h.length<=i/\h'[i]?=Za (.lst<|(thr s a (Jh rs a) n).map tupC)/\Ex h h':=by
 have hb:=J2
 obtain⟨vs,gD,w⟩:=hd
 obtain⟨j,ej,gj⟩:=w.get<|Zb ha
 rw[Vq ha]
 generalize rs[a]=r at gj
 have av:atI vs (a:Int)=Za (.ref j):=JE ej
 obtain⟨_,_,e1,rfl,g1,rfl⟩:=(Qe (it:=iRg Qr<|Jb 'd' Jd) (js:=[2,4]) (e:=Jbn<|k+1) (σ:=[Za<|.ref D,Za<|.int (a:Int),Za<|.int s,Za<|.int (n:Int),Za<|.ref j,Zc]) (h0:=h) (h:=h) (xs:=rngI 0 (n:Int)) (chk:=λ_=>True) (f:=cOf s r.1)
  (by
   rw[VL]
   refine Je (arg1 rfl) ?_
   rw[Xw]
   exact⟨00,rfl,rfl,rfl⟩) (by rw[Qa];omega) (λ_ _=>trivial) (by
   intro v hv h2 q
   obtain⟨t,ht,rfl⟩:=ZO.mp hv
   rw[Qa]at ht
   rw[Vk]
   unfold Jbn
   exact Je (addE (subE rfl (fldE rfl (q _ _ gj) fl4))<|mulE rfl (fldE rfl (q _ _ gj) fl1) (.inl 00)) ⟨rfl,.refl _⟩)).eq
 have em:(rngI 0 (n:Int)).map (cOf s r.1)=(Ql s r.1 n).map IV.int:=by
  refine Zbz (by simp[Qa,Ql]) λi h1 h2=>?_
  rw[ZG,Vk]
  simp[Ql,cOf]
 rw[em]at e1
 have x1:Ex h (h++IX.lst ((Ql s r.1 n).map IV.int)::g1):=.cons _ _ _
 have g2:(h++IX.lst ((Ql s r.1 n).map IV.int)::g1)[h.length]?=Za (.lst<|(Ql s r.1 n).map IV.int):=J4
 generalize h++IX.lst ((Ql s r.1 n).map IV.int)::g1=h1 at x1 g2 e1
 rw[Jnl]
 refine xfin<|xseq<|xset<|Je (wkE gD rfl rfl av)<|xseq<|xset<|Je e1<|xret ?_
 refine WR.mono (Qe (h:=h1) (xs:=(Ql s r.1 n).map IV.int) (chk:=λh'=>h'[h.length]?=Za (.lst<|(Ql s r.1 n).map IV.int)) (f:=mOf s a r.1) ?_ (by rw[Zg];simp[Ql];omega) (λh2 q=>q _ _ g2) ?_) ?_
 ·rw[JU]
  exact Je rfl ((JM _).mpr ⟨_,g2,rfl,rfl,rfl⟩)
 ·intro v hv h2 q
  obtain⟨x,hx,rfl⟩:=Zz.mp hv
  unfold Jdz
  exact Je (tupE (arg4 rfl rfl (maxE rfl (subE rfl rfl)) (fldE rfl (q _ _<|x1.get gj) fl2)) rfl) ⟨rfl,.refl _⟩
 ·rintro _ _ ⟨rfl,g3,rfl⟩
  have em2:((Ql s r.1 n).map IV.int).map (mOf s a r.1)=(thr s a r.1 n).map tupC:=by
   unfold thr
   rw[Zai,Zai]
   rfl
  rw[em2]
  exact⟨_,rfl,x1.len,J4,x1.trans<|.cons _ _ _⟩
end
end
section
seal L4.run L4.WS L4.WR
section
variable{k:Nat}{h:IH}{σ:ISt}
theorem begE(e:Ja 2 σ h=.ok (oV o) h):eIf (Ji asB<|Jc cIs 'c'<|eC .non) '0' (Jc Jl (Jc Jf (Jc Jf 'c' '1') '1') '1') σ h=.ok (.int<|gO o) h:=Js (by
 cases o with
 |none=>exact xeif (Je (tofE<|(binE e rfl).trans rfl) ⟨λ_=>Je rfl ⟨rfl,rfl⟩,λz=>by cases z⟩)
 |some p=>exact xeif<|Je (tofE<|(binE e rfl).trans rfl) ⟨(λz=>by cases z),λ_=>Je (addE (ixtE (ixtE e rfl JN) rfl JN) rfl) ⟨rfl,rfl⟩⟩)
theorem adlE(ea:a σ h=.ok (.ref i) h1)(eb:b σ h1=.ok (.ref j) h2)(gi:h2[i]?=Za (.lst xs))(gj:h2[j]?=Za (.lst ys))(l:xs.length+ys.length<=1000):Jc Jl a b σ h=.ok (.ref h2.length) (h2++[.lst<|xs++ys]):=(binE ea eb).trans (Js<|(Jkw ..).mpr ⟨_,gi,_,gj,by have:=J2;omega,rfl,rfl⟩)
theorem mxlE{ms:Tk}(ea:a σ h=.ok (.ref i) h1)(g:h1[i]?=Za (.lst<|ms.map .int))(ne:ms≠[]):eCB (on1 Vg) (Jb a Jd) σ h=.ok (.int<|JJ (λi=>ms.getD i 0) ms.length) h1:=by
 rw[cbE<|arg1 ea]
 exact Js (by show WR (Vg (.ref i) h1) _;rw[J1m g ne];exact⟨rfl,rfl⟩)
theorem Jon{s:Int}{d:WD}(hg:0<d.gap)(hl:0<=d.late):0<=cmn s d:=by
 unfold cmn
 split
 ·unfold rup
  exact Int.ediv_nonneg 00 00
 ·exact ZJ _
theorem Jsb{D a m:Nat}{rs:Ts}{T:Int}{cs:Tt}{v2 v3:Tb}{N:ISt->IH->Prop}(ha:a<rs.length)(few:rs.length<=12)(gl:∀r∈rs,0<r.1.gap/\r.1.gap.natAbs.log2<9000/\0<=r.1.late)(hm:m<=12)(cn:∀n,n<a->(cmn (spA rs a)<|Jh rs n).toNat<=m)(d:IsDu h D rs)(k5:Kp h h5)(l1:cs.length<=1)(g5:h5[h.length]?=Za (.lst<|cs.map tupC)){Q:IV->IH->Prop}(q:∀h',h'[h.length]?=Za (.lst<|(cs++rwC rs T (spA rs a) a++thr T a (Jh rs a) 1).map tupC)->Kp h h'->Q (.tup [.ref h.length,.int<|((cs++rwC rs T (spA rs a) a++thr T a (Jh rs a) 1).length:Nat)-1]) h'):
  WS (Jed (k+3) [Za<|.ref D,Za<|.int (a:Int),v2,v3,Za<|.int T,Za<|.ref h.length,Zc,Zc] h5) N Q:=by
 have hb:=J2
 have wk:∀{h':IH},Kp h h'->∀n,n<rs.length->∃j,(∀{k:Nat}{o e:E1}{σ:ISt},o σ h'=.ok (.ref D) h'->e σ h'=.ok (.int (n:Int)) h'->Jp (pg<|k+1) "work" 1 o (Jb e Jd) σ h'=.ok (.ref j) h')/\h'[j]?=Za (wo<|rs.getD n rd):=λ{h'} kp n hn=>by
  obtain⟨vs,gD,w⟩:=d.kp kp
  obtain⟨j,ej,gj⟩:=w.get<|Zb hn
  exact⟨j,λeo ee=>wkE gD eo ee<|JE ej,by rw[Qm hn];exact gj⟩
 obtain⟨ja,ea,ga⟩:=wk k5 a ha
 refine xseq<|xset<|Je (subE (fldE (ea rfl rfl) ga fl3)<|fldE (ea rfl rfl) ga fl4)<|xseq<|xrng (n:=a) rfl 00 ?_
 have ll:∀n,n<=a->(cs++rwC rs T (spA rs a) n).length<=150:=λn hn=>by
  have:=Jnw (T:=T) cn n hn
  have:m*n<=12*12:=Nat.mul_le_mul hm 00
  rw[Zs]
  omega
 refine Qo (λn σ h'=>∃c,σ=[Za<|.ref D,Za<|.int (a:Int),v2,v3,Za<|.int T,Za<|.ref h.length,Za<|.int<|spA rs a,c]/\Kp h h'/\h'[h.length]?=Za (.lst<|(cs++rwC rs T (spA rs a) n).map tupC)) (λ_ _ _ _=>trivial) ?_ ?_ ⟨Zc,rfl,k5,by rw[rwC,Zam];exact g5⟩
 ·rintro n hn _ h6 ⟨c,rfl,k6,g6⟩
  rw[Qa]at hn
  have hn':n<a:=00
  have hnr:n<rs.length:=00
  rw[Vk,show(0+(n:Int))=(n:Int) by omega]
  obtain⟨j,ej,gj⟩:=wk k6 n hnr
  obtain⟨y1,y2,y3⟩:0<(rs.getD n rd).1.gap/\(rs.getD n rd).1.gap.natAbs.log2<9000/\0<=(rs.getD n rd).1.late:=by
   rw[Qm hnr]
   exact gl _<|Zw hnr
  have c1:=cn n hn'
  have ec:cmn (spA rs a) (Jh rs n)=((cmn (spA rs a)<|Jh rs n).toNat:Int):=by
   have:0<=cmn (spA rs a) (Jh rs n):=Jon y1 y3
   omega
  obtain⟨_,h7,e7,i,rfl,li,gi,x7⟩:=(Jx5 (k:=k+1) (s:=T) (n:=(cmn (spA rs a)<|Jh rs n).toNat) (d.kp k6) hnr 00).eq
  refine xnx rfl (Qx<|QK rfl g6 Jhj (Je (arg1<|JB (arg4 rfl rfl rfl (okc (JB (arg2 (ej rfl rfl) rfl)<|Jp2 gj y1 y2)<|congrArg IV.int ec)) e7) ?_))
  rw[Jia (x7.get g6) gi (by have:=ll n 00;rw[Zg,Zg,Jkq];omega)]
  refine⟨_,rfl,λi ob e=>J9 (x7.get<|k6 _ _ e) (by have:=JF e;omega),?_⟩
  rw[rwC,<-Zac,Zat (l₂:=thr _ _ _ _)]
  exact Qu<|x7.get g6
 ·rintro _ h6 ⟨c,rfl,k6,g6⟩
  rw[Qa,show((a:Int)-0).toNat=a by omega]at g6
  obtain⟨_,h7,e7,i,rfl,li,gi,x7⟩:=(Jx5 (k:=k+1) (s:=T) (n:=1) (d.kp k6) ha 01).eq
  refine xseq<|Qx<|QK rfl g6 Jhj (Je (arg1<|JB (arg4 rfl rfl rfl rfl) e7) ?_)
  rw[Jia (x7.get g6) gi (by have:=ll a (Zm _);rw[Zg,Zg,Jkq];omega),<-Zat]
  have g8:=Qu (o':=IX.lst<|(cs++rwC rs T (spA rs a) a++thr T a (Jh rs a) 1).map tupC)<|x7.get g6
  refine xret<|Je (tupE (arg2 rfl (subE (lenE rfl g8) rfl)) rfl) ?_
  rw[Zg]
  exact q _ g8 λi ob e=>J9 (x7.get<|k6 _ _ e) (by have:=JF e;omega)
theorem Jqd{D a m:Nat}{rs:Ts}(ha:a<rs.length)(hd:IsDu h D rs)(few:rs.length<=12)(six:∀r∈rs,r.2.length<=6)(gl:∀r∈rs,0<r.1.gap/\r.1.gap.natAbs.log2<9000/\0<=r.1.late)(t0:h[2]?=Za (.tab "longest_hold"))(eo:bst rs a=oV o)(lo:∀p,o=Za p->p.1<rs.length)(hm:m<=12)(cn:∀n,n<a->(cmn (spA rs a)<|Jh rs n).toNat<=m):
  WR (Yj (k+4) [.ref D,.int (a:Int)] h) λv h'=>∃R,v=.tup [.ref R,.int<|(JA rs a o).length-1]/\h.length<=R/\h'[R]?=Za (.lst<|(JA rs a o).map tupC)/\Ex h h':=by
 have hb:=J2
 obtain⟨_,h1,e1,rfl,x1⟩:=(Jqk (k:=k) ha hd few six t0).eq
 rw[eo]at e1
 obtain⟨vs,gD,w⟩:=id<|hd.kp x1.kp
 have wl:=w.len
 have wk:∀n:Nat,n<rs.length->∃j,atI vs (n:Int)=Za (.ref j)/\h1[j]?=Za (wo<|rs.getD n rd):=λn hn=>by
  obtain⟨j,ej,gj⟩:=w.get<|Zb hn
  exact⟨j,JE ej,by rw[Qm hn];exact gj⟩
 obtain⟨ja,aa,ga⟩:=wk a ha
 obtain⟨_,_,e2,rfl,g2,rfl⟩:=(Qe (it:=Ju<|eSl slI (Jq "works" 'a') Qs<|JX<|Jc Jl 'b' '1') (js:=[]) (e:=Jb1<|k+3) (σ:=[Za<|.ref D,Za<|.int (a:Int),Za<|oV o,Za<|.int<|gO o,Zc,Zc,Zc,Zc]) (h0:=h1) (h:=h1) (xs:=vs.take<|a+1) (chk:=λ_=>True) (f:=fOf "late" h1)
  (by
   rw[JU]
   refine(Vr ..).mpr<|Je (fldE rfl gD dl0)<|Je rfl ((Xv ..).mpr<|Je (addE rfl rfl) ⟨_,rfl,Je rfl ?_⟩)
   rw[show(Za<|(a:Int)+1)=Za ((a+1:Nat):Int)from rfl,Yw]
   exact(YV _).mpr ⟨rfl,rfl,rfl⟩) (by rw[Zaa];omega) (λ_ _=>trivial) (by
   intro v hv h2 q
   obtain⟨d,_,j,hs,rfl,e⟩:=w.w.of<|ZaV hv
   unfold Jb1
   exact Je (fldE rfl (q _ _ e) fl4) ⟨by rw[fOf,Qc e,fl4];rfl,.refl _⟩)).eq
 have em:(vs.take<|a+1).map (fOf "late" h1)=((rs.take<|a+1).map λr=>r.1.late).map IV.int:=by
  rw[ZcX,w.w.mapF (F:=fOf "late" h1) (g:=λd=>.int d.late) λj d hs e=>by rw[fOf,Qc e,fl4];rfl,<-ZcX,<-ZcX,Zai,Zai]
  rfl
 rw[em]at e2
 have l3:((rs.take<|a+1).map λr=>r.1.late).length<=12:=by rw[Zg,Zaa];omega
 generalize hl:((rs.take<|a+1).map λr=>r.1.late)=ls at e2 l3
 have e3:=adlE (σ:=[Za<|.ref D,Za<|.int (a:Int),Za<|oV o,Za<|.int<|gO o,Zc,Zc,Zc,Zc]) e2 (lstE (arg1 (a:=Ja 3) rfl) rfl) (grow J4) Jm (by rw[Zg];show _+1<=_;omega)
 have x3:Ex h1 (h1++IX.lst (ls.map IV.int)::g2++[IX.lst [IV.int<|gO o]]++[IX.lst<|ls.map IV.int++[IV.int<|gO o]]):=(Ex.cons _ _ _).trans<|(Ex.one _ _).trans<|.one _ _
 have g3:(h1++IX.lst (ls.map IV.int)::g2++[IX.lst [IV.int<|gO o]]++[IX.lst<|ls.map IV.int++[IV.int<|gO o]])[(h1++IX.lst (ls.map IV.int)::g2++[IX.lst [IV.int<|gO o]]).length]?=Za (.lst<|(Q7 rs a o).map .int):=by
  rw[Q7,hl,Zat]
  exact Jm
 have e4:=mxlE e3 g3<|by unfold Q7;simp
 generalize h1++IX.lst (ls.map IV.int)::g2++[IX.lst [IV.int<|gO o]]++[IX.lst<|ls.map IV.int++[IV.int<|gO o]]=h3 at x3 e4
 have e4:_=Res.ok (IV.int<|tO rs a o) h3:=e4
 have d3:=(hd.kp x1.kp).kp x3.kp
 have le3:=(x1.trans x3).len
 have ex3:∀{h':IH},Kp h3 h'->Ex h h':=λq=>(x1.trans x3).trans<|Ju4 q
 have gl3:∀n,n<rs.length->∃j,(∀{k:Nat}{h':IH}{o e:E1}{σ:ISt},Kp h3 h'->o σ h'=.ok (.ref D) h'->e σ h'=.ok (.int (n:Int)) h'->Jp (pg<|k+1) "work" 1 o (Jb e Jd) σ h'=.ok (.ref j) h')/\h3[j]?=Za (wo<|rs.getD n rd):=λn hn=>by
  obtain⟨vs,gD,w⟩:=d3
  obtain⟨j,ej,gj⟩:=w.get<|Zb hn
  exact⟨j,λkp eo ee=>wkE (kp _ _ gD) eo ee<|JE ej,by rw[Qm hn];exact gj⟩
 rw[Jp7]
 refine xfin<|xseq<|xset<|Je (JB (arg2 rfl rfl) e1)<|xseq<|xset<|Je (begE rfl)<|xseq<|xset<|Je e4<|xseq<|xset<|Je (lstE rfl rfl)<|xseq ?_
 have fin:∀(h5:IH)(cs:Tt),cs=hdC rs (tO rs a o) o->Kp h3 h5->cs.length<=1->h5[h3.length]?=Za (.lst<|cs.map tupC)->WS (Jed (k+3) [Za<|.ref D,Za<|.int (a:Int),Za<|oV o,Za<|.int<|gO o,Za<|.int<|tO rs a o,Za<|.ref h3.length,Zc,Zc] h5) (λ_ h'=>∃R,IV.non=.tup [.ref R,.int<|(JA rs a o).length-1]/\h.length<=R/\h'[R]?=Za (.lst<|(JA rs a o).map tupC)/\Ex h h') λv h'=>∃R,v=.tup [.ref R,.int<|(JA rs a o).length-1]/\h.length<=R/\h'[R]?=Za (.lst<|(JA rs a o).map tupC)/\Ex h h':=λh5 cs e k5 l1 g5=>by
  subst e
  exact Jsb ha few gl hm cn d3 k5 l1 g5 λh' g' k'=>⟨_,rfl,le3,g',ex3 k'⟩
 cases o with
 |none=>exact xiff (tofE rfl)<|xnil<|fin _ [] rfl (Ex.one _ _).kp (ZR _) Jm
 |some p=>
  obtain⟨j,ej,gj⟩:=gl3 p.1<|lo p rfl
  have e0:∀h',Jc Jf 'c' '0' [Za<|.ref D,Za<|.int (a:Int),Za<|oV<|Za p,Za<|.int<|gO<|Za p,Za<|.int<|tO rs a<|Za p,Za<|.ref h3.length,Zc,Zc] h'=.ok (.int (p.1:Int)) h':=λh'=>ixtE rfl rfl Qb
  refine xift (tofE rfl) (Qx<|QK rfl Jm X3 (Je (arg1<|tupE (arg4 (e0 _) (subE rfl rfl) rfl (fldE (ej (Ex.one _ _).kp rfl (e0 _)) (grow gj) fl2)) rfl)<|xapp Jm (by show 0<_;omega) ?_))
  rw[Xr]
  exact fin _ [⟨p.1,tO rs a (Za p)-gO (Za p),0,(Jh rs p.1).len⟩] rfl (λi ob e=>grow e) (Zm _) Jm
end
end
theorem nest(ok:HsOk len hs)(hx:x∈hs)(hy:y∈hs)(l1:x.2.1<y.2.1)(l2:y.2.1<x.2.2):y.2.2<=x.2.2:=by
 obtain⟨i,hi,rfl⟩:=ZO.mp hx
 obtain⟨j,hj,rfl⟩:=ZO.mp hy
 have hy':=(ok.each _<|Zw hj).2.2.1
 rcases Nat.lt_trichotomy i j with h|h|h
 ·rcases ok.tog i j h hj with z|z|⟨_,z|z⟩<;>omega
 ·subst h;omega
 ·rcases ok.tog j i h hi with z|z|⟨_,z|z⟩<;>omega
section
variable{rs:Ts}{a:Nat}{T sp:Int}
theorem Jkr(h:c∈thr T n d m):∃t:Nat,t<m/\c=cm T n d (T-d.late+(t:Int)*d.gap):=by
 unfold thr Ql at h
 obtain⟨x,hx,rfl⟩:=Zz.mp h
 obtain⟨t,ht,rfl⟩:=Zz.mp hx
 exact⟨t,Zay.mp ht,rfl⟩
theorem XT:∀{n:Nat},c∈rwC rs T sp n->∃w t:Nat,w<n/\t<(cmn sp<|Jh rs w).toNat/\c=cm T w (Jh rs w) (T-(Jh rs w).late+(t:Int)*(Jh rs w).gap)
 |0,h=>by cases h
 |n+1,h=>by
  rcases ZK.mp h with h|h
  ·obtain⟨w,t,h1,h2⟩:=XT h
   exact⟨w,t,00,h2⟩
  ·obtain⟨t,ht,e⟩:=Jkr h
   exact⟨n,t,00,ht,e⟩
def PwF(rs:Ts)(x y:Cm):Prop:=x.at_=y.at_->x.come+(Jh rs x.at_).gap<=y.come
theorem Jx6(g:0<(Jh rs n).gap):(thr T n (Jh rs n) m).Pairwise (PwF rs):=by
 unfold thr Ql
 rw[Zai,ZcG]
 refine List.pairwise_lt_range.imp λ{i j} l _=>?_
 show T-_+(i:Int)*(Jh rs n).gap+(Jh rs n).gap<=T-_+(j:Int)*(Jh rs n).gap
 obtain⟨e,rfl⟩:∃e:Nat,j=i+1+e:=⟨j-i-1,00⟩
 have:=Int.mul_nonneg (ZbT e)<|Zef g
 simp only[Zej,Zdd]
 omega
theorem Jxy(g:∀n,n<a->0<(Jh rs n).gap):∀n,n<=a->(rwC rs T sp n).Pairwise (PwF rs)
 |0,_=>.nil
 |n+1,h=>Zbo.mpr ⟨Jxy g n 00,Jx6<|g n 00,λx hx y hy e=>by
  obtain⟨w,t,hw,_,rfl⟩:=XT hx
  obtain⟨_,_,rfl⟩:=Jkr hy
  exact absurd (show w=n from e) 00⟩
theorem J0g:rdC (cm T n d x)=if T<x then x else T:=by
 unfold rdC cm
 dsimp only
 split<;>split<;>omega
structure Wk(rs:Ts)(a:Nat)(o:Wd)(m:Nat):Prop where
 ha:a<rs.length
 ok:∀r∈rs,0<r.1.gap/\0<=r.1.late/\1<=r.1.len/\HsOk r.1.len r.2
 ho:HO rs a o
 cn:∀n,n<a->(cmn (spA rs a)<|Jh rs n).toNat<=m
variable{o:Wd}{m:Nat}
theorem Wk.at_(W:Wk rs a o m)(hn:n<rs.length):0<(Jh rs n).gap/\0<=(Jh rs n).late/\1<=(Jh rs n).len:=by
 rw[Vq hn]
 have:=W.ok _<|Zw hn
 exact⟨this.1,this.2.1,this.2.2.1⟩
theorem Wk.p(W:Wk rs a o m){p:Nat×Hd}(e:o=Za p):a<p.1/\p.1<rs.length/\p.2∈(rs.getD p.1 rd).2/\fZ (rs.map (·.2)) p.2.1<=a/\HsOk (Jh rs p.1).len (rs.getD p.1 rd).2/\∀y∈(rs.getD p.1 rd).2,fZ (rs.map (·.2)) y.1<=a->tn y<=tn p.2:=by
 subst e
 have ha:=W.ha
 obtain⟨hp,mx⟩:=W.ho
 obtain⟨h1,h2,h3,h4⟩:=Jrj hp
 have h2:p.1<rs.length:=00
 refine⟨h1,h2,h3,h4,?_,λy hy fy=>mx (p.1,y)<|Jkd h1 hy fy 00⟩
 unfold Jh
 rw[Qm h2]
 exact(W.ok _<|Zw h2).2.2.2
theorem J01(rs:Ts)(a:Nat)(o:Wd):gO o<=tO rs a o/\∀n,n<=a->n<rs.length->(Jh rs n).late<=tO rs a o:=by
 have key:∀x∈Q7 rs a o,x<=tO rs a o:=λx hx=>by
  obtain⟨i,hi,rfl⟩:=ZO.mp hx
  have:=Jtv (λi=>(Q7 rs a o).getD i 0) (Q7 rs a o).length i hi
  have e:(Q7 rs a o).getD i 0=(Q7 rs a o)[i]:=by rw[Zi,Zb hi];rfl
  rw[<-e]
  exact this
 refine⟨key _<|Zl _<|Zx.mpr rfl,λn h1 h2=>key _<|ZQ _<|Zz.mpr ⟨rs[n],?_,(congrArg WD.late<|Vq h2).symm⟩⟩
 exact ZaT (i:=n)<|by rw[Zcl 00,Zb h2]
theorem J19(W:Wk rs a o m):0<=gO o:=by
 cases o with
 |none=>exact ZJ _
 |some p=>
  obtain⟨_,_,h3,_,h5,_⟩:=W.p rfl
  have:=(h5.each _ h3).2.1
  show 0<=p.2.2.1+1
  omega
theorem Jgu(h:c∈JA rs a o):(∃p,o=Za p/\c=⟨p.1,tO rs a o-gO o,0,(Jh rs p.1).len⟩)∨∃w t:Nat,(w<a/\t<(cmn (spA rs a)<|Jh rs w).toNat∨w=a/\t=0)/\c=cm (tO rs a o) w (Jh rs w) (tO rs a o-(Jh rs w).late+(t:Int)*(Jh rs w).gap):=by
 rcases ZK.mp h with h|h
 ·rcases ZK.mp h with h|h
  ·cases o with
   |none=>cases h
   |some p=>exact .inl ⟨p,rfl,Zx.mp h⟩
  ·obtain⟨w,t,h1,h2,e⟩:=XT h
   exact .inr ⟨w,t,.inl ⟨h1,h2⟩,e⟩
 ·obtain⟨t,ht,e⟩:=Jkr h
  exact .inr ⟨a,t,.inr ⟨rfl,00⟩,e⟩
theorem Ji6(W:Wk rs a o m):Legal rs (JA rs a o):=by
 have ha:=W.ha
 obtain⟨tg,tl⟩:=J01 rs a o
 refine⟨λc hc=>?_,λi j x y hij ex ey e r er=>?_⟩
 ·rcases Jgu hc with⟨p,e,rfl⟩|⟨w,t,hw,rfl⟩
  ·obtain⟨_,h2,_⟩:=W.p e
   obtain⟨_,h3,h4⟩:=W.at_ h2
   rw[Vq h2]at *
   exact⟨h2,by show 0<=_-_;omega,ZJ _,h3,h4,ZJ _⟩
  ·have lw:w<rs.length:=00
   obtain⟨h2,h3,h4⟩:=W.at_ lw
   have h5:=tl w 00 lw
   have:=Int.mul_nonneg (ZbT t)<|Zef h2
   rw[Vq lw]at *
   refine⟨lw,by show 0<=_-_+_;omega,?_,?_,h4,ZJ _⟩
   ·unfold cm
    dsimp only
    split<;>omega
   ·unfold cm
    dsimp only
    split<;>omega
 ·have pw:(JA rs a o).Pairwise (PwF rs):=by
   refine Zbo.mpr ⟨Zbo.mpr ⟨?_,Jxy (a:=a) (λn hn=>(W.at_ 00).1) a<|Zm _,λx hx y hy e=>?_⟩,Jx6 (W.at_ ha).1,λx hx y hy e=>?_⟩
   ·cases o with
    |none=>exact .nil
    |some p=>exact List.pairwise_singleton _ _
   ·cases o with
    |none=>cases hx
    |some p=>
     obtain⟨w,t,hw,_,rfl⟩:=XT hy
     rw[Zx.mp hx]at e
     have:=(W.p rfl).1
     exact absurd (show p.1=w from e) 00
   ·obtain⟨_,_,rfl⟩:=Jkr hy
    rcases ZK.mp hx with hx|hx
    ·cases o with
     |none=>cases hx
     |some p=>
      rw[Zx.mp hx]at e
      have:=(W.p rfl).1
      exact absurd (show p.1=a from e) 00
    ·obtain⟨w,t,hw,_,rfl⟩:=XT hx
     exact absurd (show w=a from e) 00
  obtain⟨hi,rfl⟩:=Zr.mp ex
  obtain⟨hj,rfl⟩:=Zr.mp ey
  have:=(Zd7.mp pw) i j hi hj hij e
  obtain⟨hr,rfl⟩:=Zr.mp er
  rw[Vq hr]at this
  exact this
def bO:Wd->Int
 |none=>0
 |some p=>tn p.2
def pre(rs:Ts)(a:Nat)(o:Wd):Tt:=hdC rs (tO rs a o) o++rwC rs (tO rs a o) (spA rs a) a
theorem XE:JA rs a o=pre rs a o++[cm (tO rs a o) a (Jh rs a)<|tO rs a o-(Jh rs a).late+((0:Nat):Int)*(Jh rs a).gap]:=rfl
theorem Jxw(W:Wk rs a o m)(hq:q<(pre rs a o).length):((JA rs a o).getD q cd).at_≠a/\(a<((JA rs a o).getD q cd).at_->q=0):=by
 have e:(JA rs a o).getD q cd=(pre rs a o)[q]:=by
  rw[XE,Zi,ZE hq,Zb hq]
  rfl
 rw[e]
 by_cases l:q<(hdC rs (tO rs a o) o).length
 ·have e2:(pre rs a o)[q]=(hdC rs (tO rs a o) o)[q]:=List.getElem_append_left l
  rw[e2]
  cases o with
  |none=>exact absurd l<|Nat.not_lt_zero _
  |some p=>
   have z:q=0:=by
    have:q<1:=l
    omega
   subst z
   have:=(W.p rfl).1
   exact⟨by show p.1≠a;omega,λ_=>rfl⟩
 ·have m2:(pre rs a o)[q]∈rwC rs (tO rs a o) (spA rs a) a:=by
   have e2:(pre rs a o)[q]=(rwC rs (tO rs a o) (spA rs a) a)[q-(hdC rs (tO rs a o) o).length]'(by unfold pre at hq;rw[Zs]at hq;omega):=List.getElem_append_right 00
   rw[e2]
   exact Zw _
  obtain⟨w,t,hw,_,e3⟩:=XT m2
  rw[e3]
  exact⟨by show w≠a;omega,λz=>absurd (show a<w from z) 00⟩
theorem Jsa(W:Wk rs a o m):Hard rs (JA rs a o) a (pre rs a o).length (tO rs a o) (gO o) (bO o):=by
 have ha:=W.ha
 obtain⟨tg,tl⟩:=J01 rs a o
 have g0:=J19 W
 have len:(JA rs a o).length=(pre rs a o).length+1:=by rw[XE,Zs];rfl
 have eP:(JA rs a o).getD (pre rs a o).length cd=cm (tO rs a o) a (Jh rs a) (tO rs a o-(Jh rs a).late+((0:Nat):Int)*(Jh rs a).gap):=by
  rw[XE,Zi,Z8<|Zm _,ZcF]
  rfl
 have mem:∀q,q<(JA rs a o).length->(JA rs a o).getD q cd∈JA rs a o:=λq hq=>by
  rw[Zi,Zb hq]
  exact Zw hq
 obtain⟨wa,wl,wn⟩:=W.at_ ha
 have la:=tl a (Zm _) ha
 refine⟨00,by unfold atN;rw[eP];rfl,?_,g0,?_,tg,λq lq aq=>?_,λq lq aq=>?_,λx hx=>?_,?_⟩
 ·unfold rdN
  rw[eP,J0g,if_neg 00]
 ·cases o with
  |none=>exact ZJ _
  |some p=>
   obtain⟨_,_,h3,_,h5,_⟩:=W.p rfl
   have:=(h5.each _ h3).2.2.1
   show 0<=tn p.2
   unfold tn
   omega
 ·rcases Jgu (mem q lq)with⟨p,e,e2⟩|⟨w,t,_,e2⟩
  ·have:=(W.p e).1
   unfold atN at aq
   rw[e2]at aq
   have aq:(p.1:Int)<=a:=aq
   omega
  ·unfold rdN
   rw[e2,J0g]
   split<;>omega
 ·by_cases l:q<(pre rs a o).length
  ·have:=(Jxw W l).1
   unfold atN at aq
   omega
  ·omega
 ·unfold hsN at hx
  unfold lnN
  rw[eP]at hx ⊢
  have hx:x∈(rs.getD a rd).2:=hx
  rw[Qm ha]at hx
  have:=((W.ok _<|Zw ha).2.2.2.each x hx).2.2.2
  show x.2.2<(Jh rs a).len
  rw[Vq ha]
  exact this
 ·cases o with
  |none=>
   refine .inl ⟨rfl,rfl,λq lq=>?_⟩
   rcases Jgu (mem q lq)with⟨p,e,_⟩|⟨w,t,hw,e2⟩
   ·cases e
   ·unfold atN
    rw[e2]
    show(w:Int)<=a
    omega
  |some p=>
   obtain⟨h1,h2,h3,h4,h5,h6⟩:=W.p rfl
   have e0:(JA rs a<|Za p).getD 0 cd=⟨p.1,tO rs a (Za p)-gO (Za p),0,(Jh rs p.1).len⟩:=rfl
   have hx:=h5.each _ h3
   refine .inr ⟨0,00,by unfold atN;rw[e0];show(a:Int)<p.1;omega,λq lq aq=>?_,?_,?_,p.2,?_,h4,rfl,?_,λy hy fy=>⟨?_,λl1 l2=>?_⟩⟩
   ·by_cases l:q<(pre rs a<|Za p).length
    ·refine(Jxw W l).2 ?_
     unfold atN at aq
     omega
    ·obtain rfl:q=(pre rs a<|Za p).length:=00
     unfold atN at aq
     rw[eP]at aq
     exact absurd (show(a:Int)<a from aq)<|ZeC _
   ·unfold rdN rdC
    rw[e0]
    show _-_+0=_
    omega
   ·unfold lnN
    rw[e0]
    show p.2.2.1+1+tn p.2<(Jh rs p.1).len
    have:=hx.2.2.2
    unfold tn
    omega
   ·unfold hsN
    rw[e0]
    exact h3
   ·show p.2.2.2=p.2.2.1+1+tn p.2
    unfold tn
    omega
   ·unfold hsN at hy
    rw[e0]at hy
    exact h6 y hy fy
   ·unfold hsN at hy
    rw[e0]at hy
    exact nest h5 h3 hy l1 l2
end
section
variable{rs:Ts}{a:Nat}{T τ:Int}
def fC(a:Nat)(T τ:Int)(c:Cm):Int:=if (c.at_:Int)<=a/\T<=rdC c/\rdC c<τ then c.len else 0
theorem Jy1(cs:Tt):dM cs a T τ=(cs.map<|fC a T τ).sum:=by
 show((ZM cs.length).map λp=>fC a T τ<|cs.getD p cd).sum=_
 congr 1
 refine Zbz 03 λi h1 h2=>?_
 rw[Zg]at h2
 rw[ZG,ZG,Zcw,Zi,Zb h2]
 rfl
theorem Jtg:∀{m:Nat}{C:Int},0<=C->C<=m->sR m (λi=>if (i:Int)<C then L else 0)=C*L
 |0,C,h0,h1=>by
  obtain rfl:C=0:=00
  rw[ZeN]
  rfl
 |m+1,C,h0,h1=>by
  rw[Vm]
  by_cases e:C<=m
  ·rw[Jtg h0 e,if_neg 00]
   omega
  ·obtain rfl:C=(m:Int)+1:=00
   rw[J0l (g:=λi=>if (i:Int)<(m:Int)then L else 0) λi hi=>by rw[if_pos 00,if_pos 00],Jtg (ZbT m)<|ZJ _,if_pos 00,Zdd,Int.one_mul]
theorem Jow{t:Int}{d:WD}{i:Nat}(t1:1<=t)(g:0<d.gap):(i:Int)<cmn t d↔(i:Int)*d.gap<t+d.late:=by
 unfold cmn rup
 rw[if_pos t1]
 have:=Zec (a:=(i:Int)+1) (b:=t+d.late+d.gap-1) g
 rw[Zdd,Int.one_mul]at this
 omega
theorem Jtt{d:WD}{w m:Nat}{t:Int}(wa:w<=a)(t1:1<=t)(g:0<d.gap)(l:0<=d.late)(c0:0<=cmn t d)(c:cmn t d<=m):((thr T w d m).map<|fC a T<|T+t).sum=cmn t d*d.len:=by
 rw[<-Jtg (L:=d.len) c0 c]
 unfold thr Ql sR
 rw[Zai,Zai]
 congr 1
 refine Zdm λi _=>?_
 have k:=Jow (i:=i) t1 g
 show fC a T (T+t) (cm T w d<|T-d.late+(i:Int)*d.gap)=_
 unfold fC
 rw[J0g]
 have wa:(w:Int)<=a:=00
 by_cases z:(i:Int)<cmn t d
 ·rw[if_pos z,if_pos ⟨wa,by split<;>omega,by split<;>omega⟩]
  rfl
 ·rw[if_neg z,if_neg λy=>by
   have:=y.2.2
   split at this<;>omega]
theorem Jts(t1:1<=t)(t2:t<=sp)(ok:∀n,n<rs.length->0<(Jh rs n).gap/\0<=(Jh rs n).late)(ha:a<=rs.length):∀n,n<=a->((rwC rs T sp n).map<|fC a T<|T+t).sum=Qy (rs.take n) t
 |0,_=>rfl
 |n+1,h=>by
  have hn:n<rs.length:=00
  obtain⟨g,l⟩:=ok n hn
  have c0:=Jon (s:=t) g l
  have c1:cmn t (Jh rs n)<=cmn sp (Jh rs n):=by
   unfold cmn rup
   rw[if_pos t1,if_pos 00]
   exact Int.ediv_le_ediv g 00
  rw[rwC,Zat,Zdj,Jts t1 t2 ok ha n 00,Jtt 00 t1 g l c0 00,Jpy hn,Vq hn]
theorem J42(W:Wk rs a o m)(t1:1<=t)(t2:t<=spA rs a)(dg:(Jh rs a).due<=(Jh rs a).gap):dM (JA rs a o) a (tO rs a o) (tO rs a o+t)=Qy (rs.take a) t+(Jh rs a).len:=by
 have ha:=W.ha
 obtain⟨g,l,_⟩:=W.at_ ha
 have t2':t<=(Jh rs a).due-(Jh rs a).late:=t2
 have c1:cmn t (Jh rs a)=1:=by
  have h0:=(Jow (i:=0) t1 g).mpr (by show 0*_<_;omega)
  have h1:¬((1:Nat):Int)<cmn t (Jh rs a):=λz=>by
   have:=(Jow (i:=1) t1 g).mp z
   have:((1:Nat):Int)*(Jh rs a).gap=(Jh rs a).gap:=Int.one_mul _
   omega
  omega
 have h0:((hdC rs (tO rs a o) o).map<|fC a (tO rs a o)<|tO rs a o+t).sum=0:=by
  cases o with
  |none=>rfl
  |some p=>
   have:=(W.p rfl).1
   show fC a _ _ _+0=0
   unfold fC
   rw[if_neg λz=>by have z:=z.1;have z:(p.1:Int)<=a:=z;omega]
   rfl
 rw[Jy1,JA,Zat,Zat,Zdj,Zdj,h0,Jts t1 t2 (λn hn=>⟨(W.at_ hn).1,(W.at_ hn).2.1⟩) 00 a<|Zm _,Jtt (Zm _) t1 g l 00 00,c1]
 omega
end
section
seal L4.run L4.WS L4.WR
theorem Jwb{x y g:Int}(hg:0<g)(h:x<=y):rup x g<=rup y g:=by
 unfold rup
 exact Int.ediv_le_ediv hg 00
theorem Yv{s t:Int}{d:WD}(hg:0<d.gap)(h1:1<=s)(h:s<=t):cmn s d<=cmn t d:=by
 unfold cmn
 rw[if_pos h1,if_pos 00]
 exact Jwb hg 00
def cnt(rs:Ts)(s:Int):Int:=(rs.map λr=>cmn s r.1).sum
theorem Joo{s t:Int}(h1:1<=s)(h:s<=t):∀{rs:Ts},(∀r∈rs,0<r.1.gap)->cnt rs s<=cnt rs t
 |[],_=>ZJ _
 |r::rs,q=>by
  have:=Joo h1 h (rs:=rs) λr hr=>q r<|Zp _ hr
  have:=Yv (d:=r.1) (q r Zy) h1 h
  unfold cnt at *
  rw[Z1,Z1,Zbk,Zbk]
  omega
theorem Jfv{s t:Int}(h1:1<=s)(h:s<=t):∀{rs:Ts},(∀r∈rs,0<r.1.gap/\0<=r.1.len)->Qy rs s<=Qy rs t
 |[],_=>ZJ _
 |r::rs,q=>by
  have a:=Jfv h1 h (rs:=rs) λr hr=>q r<|Zp _ hr
  have b:=Int.mul_le_mul_of_nonneg_right (Yv (d:=r.1) (q r Zy).1 h1 h) (q r Zy).2
  unfold Qy at *
  rw[Z1,Z1,Zbk,Zbk]
  omega
theorem Jxc{s t:Int}(h1:1<=s)(h:s<=t):∀{rs:Ts},(∀r∈rs,0<r.1.gap/\0<=r.1.len)->Qy rs s<Qy rs t->cnt rs s<cnt rs t
 |[],_,z=>absurd z<|ZeC _
 |r::rs,q,z=>by
  have q':∀r∈rs,0<r.1.gap/\0<=r.1.len:=λr hr=>q r<|Zp _ hr
  have c1:=Yv (d:=r.1) (q r Zy).1 h1 h
  have c2:=Joo h1 h (rs:=rs) λr hr=>(q' r hr).1
  have ih:=Jxc h1 h q'
  unfold Qy cnt at *
  rw[Z1,Z1,Zbk,Zbk]at z ⊢
  by_cases e:cmn s r.1=cmn t r.1
  ·rw[e]at z ⊢
   have:=ih 00
   omega
  ·omega
theorem Jxd{s:Int}:∀{rs:Ts},(∀r∈rs,0<r.1.gap/\0<=r.1.late)->0<=cnt rs s
 |[],_=>ZJ _
 |r::rs,q=>by
  have a:=Jxd (s:=s) (rs:=rs) λr hr=>q r<|Zp _ hr
  have b:=Jon (s:=s) (d:=r.1) (q r Zy).1 (q r Zy).2
  unfold cnt at *
  rw[Z1,Zbk]
  omega
theorem J46{hss:Wi}(ha:a<hss.length)(hb:b∈hss[a]):fZ hss b.1<=a:=by
 unfold fZ
 cases e:fstK hss b.1 with
 |none=>exact ZbT a
 |some j=>
  obtain⟨_,_,q⟩:=Zb5.mp e
  show(j:Int)<=a
  by_cases l:a<j
  ·exact absurd (Zbf.mpr ⟨b,hb,decide_eq_true rfl⟩)<|q a l
  ·omega
noncomputable def thL (rs:Ts)(n:Nat):Tg:=(rs.take n).flatMap λr=>r.2.map (·.1)
theorem Jww{rs:Ts}{n:Nat}(hn:n<rs.length):thL rs (n+1)=thL rs n++(rs[n]).2.map (·.1):=by
 unfold thL
 rw[ZZ hn,List.flatMap_append]
 simp
theorem Jxj{rs:Ts}{a w:Nat}{b:Hd}(ha:a<rs.length)(hw:w<rs.length)(hb:b∈(rs[w]).2):fZ (rs.map (·.2)) b.1<=a↔b.1∈thL rs (a+1):=by
 constructor
 ·intro h
  cases e:fstK (rs.map (·.2)) b.1 with
  |none=>
   unfold fstK at e
   rw[Zb7]at e
   have:=e (rs[w]).2 (Zz.mpr ⟨rs[w],Zw hw,rfl⟩)
   exact absurd (show has b.1 (rs[w]).2=Zh from Zbf.mpr ⟨b,hb,decide_eq_true rfl⟩)<|by rw[this];exact Zu
  |some j=>
   have ez:fZ (rs.map (·.2)) b.1=(j:Int):=by unfold fZ;rw[e]
   rw[ez]at h
   obtain⟨lj,hj,_⟩:=Zb5.mp e
   rw[Zg]at lj
   rw[ZG]at hj
   obtain⟨c,hc,ec⟩:=Zbf.mp hj
   refine Zci.mpr ⟨rs[j],ZaT (i:=j) (by rw[Zcl 00,Zb lj]),Zz.mpr ⟨c,hc,of_decide_eq_true ec⟩⟩
 ·intro h
  obtain⟨r,hr,hc⟩:=Zci.mp h
  obtain⟨c,hc,ec⟩:=Zz.mp hc
  obtain⟨j,hj,rfl⟩:=ZO.mp hr
  rw[Zaa]at hj
  rw[Zbs]at hc
  have lj:j<rs.length:=00
  have:=J46 (hss:=rs.map (·.2)) (a:=j) (by rw[Zg];exact lj) (b:=c)<|by rw[ZG];exact hc
  rw[<-ec]
  omega
structure UpL(P:Hd->Prop)(l:Tr)(z:Int):Prop where
 nn:0<=z
 le:∀b∈l,P b->tn b<=z
 eq:z=0∨∃b∈l,P b/\tn b=z
theorem UpL.no(u:UpL P l z)(n:¬P b):UpL P (l++[b]) z:=
 ⟨u.nn,λc hc pc=>by
  rcases ZK.mp hc with h|h
  ·exact u.le c h pc
  ·rw[Zx.mp h]at pc
   exact absurd pc n,u.eq.imp id λ⟨c,hc,e⟩=>⟨c,ZQ _ hc,e⟩⟩
theorem UpL.yes(u:UpL P l z)(y:P b):UpL P (l++[b]) (if tn b>z then tn b else z):=by
 have nn:=u.nn
 refine⟨by split<;>omega,λc hc pc=>?_,?_⟩
 ·rcases ZK.mp hc with h|h
  ·have:=u.le c h pc
   split<;>omega
  ·rw[Zx.mp h]
   split<;>omega
 ·split
  ·exact .inr ⟨b,Zl _<|Zx.mpr rfl,y,rfl⟩
  ·exact u.eq.imp id λ⟨c,hc,e⟩=>⟨c,ZQ _ hc,e⟩
theorem J6n{rs:Ts}{a m:Nat}{o:Wd}{z:Int}(W:Wk rs a o m)(u:UpL (λb=>b.1∈thL rs (a+1)) ((rs.drop<|a+1).flatMap (·.2)) z):z=bO o:=by
 have ha:=W.ha
 have key:∀{b:Hd},b∈(rs.drop<|a+1).flatMap (·.2)->∃w,a<w/\w<rs.length/\b∈(rs.getD w rd).2/\(b.1∈thL rs (a+1)->fZ (rs.map (·.2)) b.1<=a):=λ{b} hb=>by
  obtain⟨r,hr,hb⟩:=Zci.mp hb
  obtain⟨i,hi,rfl⟩:=ZO.mp hr
  rw[ZaF]at hi
  rw[ZdA]at hb
  exact⟨a+1+i,00,00,by rw[Qm 00];exact hb,(Jxj ha 00 hb).mpr⟩
 have nn:=u.nn
 cases o with
 |none=>
  have e:blkL rs a (rs.length-(a+1))=[]:=W.ho
  rcases u.eq with h|⟨b,hb,pb,_⟩
  ·exact h
  ·obtain⟨w,h1,h2,h3,h4⟩:=key hb
   have:=Jkd h1 h3 (h4 pb) (n:=rs.length-(a+1)) 00
   rw[e]at this
   cases this
 |some p=>
  obtain⟨h1,h2,h3,h4,h5,h6⟩:=W.p rfl
  obtain⟨_,mx⟩:=W.ho
  have p0:=(h5.each _ h3).2.2.1
  have le1:tn p.2<=z:=by
   rw[Qm h2]at h3
   refine u.le p.2 (Zci.mpr ⟨rs[p.1],?_,h3⟩)<|(Jxj ha h2 h3).mp h4
   exact ZaT (i:=p.1-(a+1)) (by rw[Zd3,show a+1+(p.1-(a+1))=p.1 by omega,Zb h2])
  show z=tn p.2
  rcases u.eq with h|⟨b,hb,pb,eb⟩
  ·unfold tn at *
   omega
  ·obtain⟨w,g1,g2,g3,g4⟩:=key hb
   have:=mx (w,b)<|Jkd g1 g3 (g4 pb) 00
   have:tn b<=tn p.2:=this
   omega
def ldZ(rs:Ts)(a:Nat)(o:Wd)(t:Int):Int:=bO o+(Jh rs a).len+Qy (rs.take a) t
def lcV(s:Int)(v:IV):IV:=match v with
 |.tup [_,.int g,.int l,_,.int t,_]=>.int<|cmn s ⟨⟨#[]⟩,g,l,0,t⟩*l
 |_=>.non
section
variable{k:Nat}{h:IH}{S lo a m:Nat}{ys:Tq}{rs:Ts}{o:Wd}{s:Int}
theorem J03(hs:Tr):((hs.map tupH).filter λ_=>Zh).map frs=(hs.map (·.1)).map IV.str:=by
 rw[Zdn.mpr λ_ _=>rfl,Zai,Zai]
 rfl
theorem Jzw(W:Wk rs a o m)(hm:m<=12)(few:rs.length<=12)(nms:∀r∈rs,∀b∈r.2,IsNm b.1)(gl:∀r∈rs,r.1.gap.natAbs.log2<9000)(hS:h[S]?=Za (.lst ys))(R:RowT h lo ys rs)(s1:1<=s)(s2:s<=spA rs a):
  WR (Jft (k+2) [.ref S,.int (a:Int),.int s] h) λv h'=>v=.int (ldZ rs a o s)/\Ex h h':=by
 have hb:=J2
 have ha:=W.ha
 have rl:=R.len
 have six:∀r∈rs,r.2.length<=6:=λr hr=>(W.ok r hr).2.2.2.few
 have get:∀(n:Nat)(hn:n<rs.length),∃q,ys[n]' 00=tp6 rs[n] q/\h[q]?=Za (.lst<|(rs[n]).2.map tupH):=λn hn=>by
  obtain⟨q,e,_,g⟩:=R.at_ n _ _ (Zb<|show n<ys.length by omega)<|Zb hn
  exact⟨q,e,g⟩
 have c1:(Za<|(a:Int)+1)=Za ((a+1:Nat):Int):=rfl
 rw[Jni]
 refine xfin<|xseq<|xset<|Je (lstE rfl rfl)<|xseq<|xfor ?_
 rw[JU]
 refine(Vr ..).mpr<|Je rfl (Je rfl ((Xv ..).mpr<|Je (addE rfl rfl) ⟨_,rfl,(Xx ..).mpr ⟨_,grow hS,(JM _).mpr ⟨_,Jm,?_⟩⟩⟩))
 rw[c1,Yw]
 have x1:Ex h (h++[IX.lst []]++[IX.lst<|ys.take<|a+1]):=(Ex.one _ _).trans<|.one _ _
 have g1:(h++[IX.lst []]++[IX.lst<|ys.take<|a+1])[(h++[IX.lst []]).length]?=Za (.lst<|ys.take<|a+1):=Jm
 have g0:(h++[IX.lst []]++[IX.lst<|ys.take<|a+1])[h.length]?=Za (.lst<|(thL rs 0).map .str):=grow Jm
 generalize h++[IX.lst []]++[IX.lst<|ys.take<|a+1]=h1 at x1 g1 g0 ⊢
 generalize (h++[IX.lst []]).length=T1 at g1 ⊢
 refine Qo (λn σ h'=>∃i c,σ=[Za<|.ref S,Za<|.int (a:Int),Za<|.int s,Za<|.ref i,c,Zc,Zc,Zc,Zc]/\h'[i]?=Za (.lst<|(thL rs n).map .str)/\(thL rs n).length<=6*n/\Ex h1 h') (λ_ _ _ ⟨_,_,_,_,_,x⟩=>x.get g1) ?_ ?_ ⟨_,Zc,rfl,g0,Zm _,.refl _⟩
 ·rintro n hn _ h2 ⟨i,c,rfl,gi,li,x2⟩
  rw[Zaa]at hn
  have hnr:n<rs.length:=00
  rw[Zbs]
  obtain⟨q,ey,gq⟩:=get n hnr
  rw[ey]
  have gq2:=x2.get<|x1.get gq
  have l6:=six _<|Zw hnr
  have es:=Jww hnr
  generalize rs[n]=r at gq2 l6 es
  obtain⟨_,_,e3,rfl,g3,rfl⟩:=(Jw2 (it:=Ju<|Jc Jf 'e' '5') (g:=gTp 3<|gC (gNm 0)<|gC (gNm 1)<|gC (gNm 2) gN) (t:=JD) (e:=Jdw<|k+1) (js:=[]) (σ:=[Za<|.ref S,Za<|.int (a:Int),Za<|.int s,Za<|.ref i,Za<|tp6 r q,Zc,Zc,Zc,Zc]) (h0:=h2) (h:=h2) (xs:=r.2.map tupH) (chk:=λh'=>h'[q]?=Za (.lst<|r.2.map tupH)) (n:=3) (st:=stT) (p:=λ_=>Zh) (f:=frs)
   (by rw[JU];exact Je (ixtE rfl rfl Jyo)<|(JM _).mpr ⟨_,gq2,rfl,rfl,rfl⟩) (by rw[Zg];omega) (λh3 z=>z _ _ gq2) (by
    intro x hx ls h3 e
    obtain⟨b,_,rfl⟩:=Zz.mp hx
    match ls,e with
    |[_,_,_],_=>exact⟨rfl,rfl⟩) (λx hx h3 _=>Je rfl ⟨rfl,.refl _⟩) (by
    intro x hx _ h3 _
    obtain⟨b,_,rfl⟩:=Zz.mp hx
    exact Je rfl ⟨rfl,.refl _⟩)).eq
  rw[J03]at e3
  refine xnx rfl (xset<|Je (adlE rfl e3 ((Ex.cons _ _ _).get gi) J4 (by rw[Zg,Zg,Zg];omega)) ?_)
  rw[<-Zat,<-es]
  exact⟨_,_,rfl,Jm,by rw[es,Zs,Zg];omega,x2.trans<|(Ex.cons _ _ _).trans<|.one _ _⟩
 ·rintro _ h2 ⟨i,c,rfl,gi,li,x2⟩
  rw[Zaa,show min (a+1) ys.length=a+1 by omega]at gi
  have nmt:∀z∈thL rs (a+1),IsNm z:=λz hz=>by
   obtain⟨r,hr,hz⟩:=Zci.mp hz
   obtain⟨b,hb',rfl⟩:=Zz.mp hz
   exact nms r (ZaV hr) b hb'
  have x2:=x1.trans x2
  refine xseq<|xset<|Je rfl (xseq<|xfor ?_)
  rw[JU]
  refine(Vr ..).mpr<|Je rfl ((Xv ..).mpr<|Je (addE rfl rfl) ⟨_,rfl,Je rfl ((Xx ..).mpr ⟨_,x2.get hS,(JM _).mpr ⟨_,Jm,?_⟩⟩)⟩)
  rw[c1,Jju]
  have x3:Ex h2 (h2++[IX.lst<|ys.drop<|a+1]):=.one _ _
  have g3:(h2++[IX.lst<|ys.drop<|a+1])[h2.length]?=Za (.lst<|ys.drop<|a+1):=Jm
  generalize h2++[IX.lst<|ys.drop<|a+1]=h3 at x3 g3 ⊢
  generalize h2.length=T2 at g3 ⊢
  have gi3:=x3.get gi
  refine Qo (λn σ h'=>h3=h'/\∃z c d e f,σ=[Za<|.ref S,Za<|.int (a:Int),Za<|.int s,Za<|.ref i,c,Za<|.int z,d,e,f]/\UpL (λb=>b.1∈thL rs (a+1)) (((rs.drop<|a+1).take n).flatMap (·.2)) z) (λ_ _ _ z=>z.1▸g3) ?_ ?_ ⟨rfl,0,_,_,_,_,rfl,⟨ZJ _,(λb hb=>by cases hb),.inl rfl⟩⟩
  ·rintro n hn _ _ ⟨rfl,z,c,d,e,f,rfl,up⟩
   rw[ZaF]at hn
   have hnr:a+1+n<rs.length:=00
   rw[ZdA]
   obtain⟨q,ey,gq⟩:=get (a+1+n) hnr
   rw[ey]
   have gq2:=x3.get<|x2.get gq
   have hm':n<(rs.drop<|a+1).length:=by rw[ZaF];omega
   rw[ZZ hm',List.flatMap_append,ZdA]
   have nmb:=nms _<|Zw hnr
   generalize ((rs.drop<|a+1).take n).flatMap (·.2)=F at up ⊢
   generalize rs[a+1+n]=r at gq2 nmb ⊢
   rw[show[r].flatMap (·.2)=r.2 by simp]
   refine xnx rfl (xfor ?_)
   rw[JU]
   refine Je (ixtE rfl rfl Jyo)<|(JM _).mpr ⟨_,gq2,?_⟩
   refine Qo (λm σ h'=>h3=h'/\∃z d e f,σ=[Za<|.ref S,Za<|.int (a:Int),Za<|.int s,Za<|.ref i,Za<|tp6 r q,Za<|.int z,d,e,f]/\UpL (λb=>b.1∈thL rs (a+1)) (F++r.2.take m) z) (λ_ _ _ z=>z.1▸gq2) ?_ ?_ ⟨rfl,z,d,e,f,rfl,by rw[List.take_zero,Zam];exact up⟩
   ·rintro j hj _ _ ⟨rfl,z,d,e,f,rfl,up⟩
    rw[Zg]at hj
    rw[ZG,ZZ hj,<-Zac]
    have nb:=nmb _<|Zw hj
    generalize (r.2)[j]=b at nb ⊢
    generalize F++r.2.take j=F2 at up ⊢
    have ein:Ji asB (Jc cIn 'g' 'd') [Za<|.ref S,Za<|.int (a:Int),Za<|.int s,Za<|.ref i,Za<|tp6 r q,Za<|.int z,Za<|.str b.1,Za<|.int b.2.1,Za<|.int b.2.2] h3=.ok ((thL rs<|a+1).any λx=>decide (x=b.1)) h3:=tofE<|(binE rfl rfl).trans<|Jzl gi3 nmt nb
    refine xnx rfl ?_
    by_cases y:b.1∈thL rs (a+1)
    ·refine xift (okc ein<|Zbf.mpr ⟨_,y,decide_eq_true rfl⟩)<|xset<|Je (maxE rfl (subE (subE rfl rfl) rfl)) ⟨rfl,_,_,_,_,rfl,up.yes y⟩
    ·refine xiff (okc ein<|ZbC.mpr λw=>?_)<|xnil ⟨rfl,_,_,_,_,rfl,up.no y⟩
     obtain⟨x,hx,ex⟩:=Zbf.mp w
     exact y<|of_decide_eq_true ex▸hx
   ·rintro _ _ ⟨rfl,z,d,e,f,rfl,up⟩
    rw[Zg,ZdR]at up
    exact⟨rfl,_,_,_,_,_,rfl,up⟩
  ·rintro _ _ ⟨rfl,z,c,d,e,f,rfl,up⟩
   rw[ZaF,rl,Za1<|by rw[ZaF];exact Zm _]at up
   rw[J6n W up]
   have gS3:=x3.get<|x2.get hS
   have lf:∀{h':IH},Ex h3 h'->∀n,n<rs.length->∃q,ys[n]?=Za (tp6 (rs.getD n rd) q):=λ{h'} _ n hn=>by
    obtain⟨q,ey,_⟩:=get n hn
    exact⟨q,by rw[Zb 00,ey,Qm hn]⟩
   obtain⟨qa,ea⟩:=lf (.refl _) a ha
   have aa:atI ys (a:Int)=Za (tp6 (rs.getD a rd) qa):=JE ea
   obtain⟨_,_,e5,rfl,g5,rfl⟩:=(Qe (it:=Ju<|eSl slI 'a' Qs<|JX 'b') (js:=[2]) (e:=Jbm<|k+1) (σ:=[Za<|.ref S,Za<|.int (a:Int),Za<|.int s,Za<|.ref i,c,Za<|.int<|bO o,d,e,f]) (h0:=h3) (h:=h3++[IX.lst<|ys.take a]) (xs:=ys.take a) (chk:=λh'=>h'[h3.length]?=Za (.lst<|ys.take a)) (f:=lcV s)
    (by
     rw[JU]
     refine(Vr ..).mpr<|Je rfl (Je rfl ((Xv ..).mpr<|Je rfl ⟨_,rfl,(Xx ..).mpr ⟨_,gS3,?_⟩⟩))
     rw[Yw]
     exact(JM _).mpr ⟨_,Jm,rfl,rfl,rfl⟩) (by rw[Zaa];omega) (λh4 z=>z _ _ Jm) (by
     intro v hv h4 z
     obtain⟨n,hn,rfl⟩:=ZO.mp hv
     rw[Zaa]at hn
     have hnr:n<rs.length:=00
     rw[Zbs]
     obtain⟨q,ey,_⟩:=get n hnr
     obtain⟨y1,y2,y3⟩:=W.at_ hnr
     have y4:=gl _<|Zw hnr
     have cs:=W.cn n 00
     have c0:=Jon (s:=s) y1 y2
     have c2:=Yv (d:=Jh rs n) y1 s1 s2
     rw[Vq hnr]at *
     rw[ey]
     generalize rs[n]=r at *
     have ec:Jby (k+1) [tp6 r q,.int s] h4=.ok (.int<|cmn s r.1) h4:=Js (by
      rw[Jiq]
      refine xfin<|xret<|Je (Q2 (subE (addE (addE rfl (ixtE rfl rfl Vv))<|ixtE rfl rfl JN) rfl) (ixtE rfl rfl JN) y1 y4) ⟨?_,rfl⟩
      unfold cmn rup
      rw[if_pos s1])
     unfold Jbm
     exact Je (mulE (JB (arg2 rfl rfl) ec) (ixtE rfl rfl Qk)<|.inl 00) ⟨rfl,.refl _⟩)).eq
   have em:(ys.take a).map (lcV s)=((rs.take a).map λr=>cmn s r.1*r.1.len).map IV.int:=by
    refine Zbz (by simp;omega) λi p1 p2=>?_
    rw[Zg,Zaa]at p1
    obtain⟨q,ey,_⟩:=get i 00
    rw[ZG,Zbs,ey,ZG,ZG,Zbs]
    rfl
   rw[em]at e5
   refine xret<|Je (addE (addE rfl (ixtE (ixlE rfl rfl gS3 aa) rfl Qk))<|(cbE<|arg1 e5).trans<|Js<|(Jui ..).mpr ⟨_,J4,_,Vy _,rfl,rfl⟩) ⟨rfl,(x2.trans x3).trans<|(Ex.one _ _).trans<|.cons _ _ _⟩
end
end
section
seal L4.run L4.WS L4.WR
section
variable{k:Nat}{h:IH}{S lo a m:Nat}{ys:Tq}{rs:Ts}{o:Wd}
theorem Jzs(W:Wk rs a o m)(h1:1<=s)(le:s<=t):ldZ rs a o s<=ldZ rs a o t:=by
 have:=Jfv h1 le (rs:=rs.take a) λr hr=>by
  have:=W.ok r<|ZaV hr
  exact⟨this.1,00⟩
 unfold ldZ
 omega
theorem Jra(W:Wk rs a o m)(hm:m<=12)(few:rs.length<=12)(nms:∀r∈rs,∀b∈r.2,IsNm b.1)(gl:∀r∈rs,r.1.gap.natAbs.log2<9000)(hS:h[S]?=Za (.lst ys))(R:RowT h lo ys rs):
  WR (Jcr (k+3) [.ref S,.int (a:Int)] h) λv h'=>Ex h h'/\((∃L,v=.int L/\1<=L/\L<=spA rs a/\ldZ rs a o L<=L/\∀t,1<=t->t<L->t<ldZ rs a o t)∨v=.non/\∀t,1<=t->t<=spA rs a->t<ldZ rs a o t):=by
 have ha:=W.ha
 obtain⟨q,ey,_⟩:=R.get<|Zb ha
 have aa:atI ys (a:Int)=Za (tp6 (rs.getD a rd) q):=JE<|by rw[Qm ha];exact ey
 have q1:∀r∈rs.take a,0<r.1.gap/\0<=r.1.len:=λr hr=>by
  have:=W.ok r<|ZaV hr
  exact⟨this.1,00⟩
 have q2:∀r∈rs.take a,0<r.1.gap/\0<=r.1.late:=λr hr=>by
  have:=W.ok r<|ZaV hr
  exact⟨this.1,this.2.1⟩
 have cb:∀s,1<=s->s<=spA rs a->cnt (rs.take a) s<=144:=λs s1 s2=>by
  have:=Jtr 12 ((rs.take a).map λr=>cmn s r.1) λx hx=>by
   obtain⟨r,hr,rfl⟩:=Zz.mp hx
   obtain⟨n,hn,rfl⟩:=ZO.mp hr
   rw[Zaa]at hn
   have hnr:n<rs.length:=00
   rw[Zbs]
   have c1:=W.cn n 00
   have c2:=Yv (d:=Jh rs n) (W.at_ hnr).1 s1 s2
   rw[Vq hnr]at c1 c2
   omega
  rw[Zg,Zaa]at this
  unfold cnt
  omega
 rw[Jj4]
 refine xfin<|xseq<|xset<|Je rfl (xseq ?_)
 refine Jk6 (λn σ h'=>Ex h h'/\∃(line:Int)(c:Tb),σ=[Za<|.ref S,Za<|.int (a:Int),Za<|.int line,c]/\1<=line/\(∀t,1<=t->t<line->t<ldZ rs a o t) /\
  (line<=spA rs a->1<=n/\(ldZ rs a o line=line∨147<=(n:Int)+cnt (rs.take a) line))) ?_ (m:=147) 01 ⟨.refl _,1,Zc,rfl,01,λt h1 h2=>00,λ_=>⟨01,.inr (by have:=Jxd (s:=1) q2;omega)⟩⟩
 rintro n _ h1 ⟨x1,line,c,rfl,l1,lw,cn⟩
 have gS:=x1.get hS
 refine Je (leE (addE rfl (ixtE (ixlE rfl rfl gS aa) rfl Vv))<|ixtE (ixlE rfl rfl gS aa) rfl QO)<|xdec (λt=>?_) λt=>?_
 ·have t:line<=spA rs a:=by
   have t:line+(Jh rs a).late<=(Jh rs a).due:=t
   unfold spA
   omega
  have fw:=cb line l1 t
  obtain⟨m1,cn⟩:=cn t
  refine⟨n-1,00,?_⟩
  obtain⟨_,h2,e2,rfl,x2⟩:=(Jzw (k:=k) W hm few nms gl gS (R.kp x1.kp) l1 t).eq
  refine xseq<|xset<|Je (JB (arg3 rfl rfl rfl) e2)<|xseq<|xifd (leE rfl rfl) (λle=>xret<|Je rfl ⟨x1.trans x2,.inl ⟨_,rfl,l1,t,le,lw⟩⟩) λgt=>xnil<|xset<|Je rfl ⟨x1.trans x2,_,_,rfl,00,λu u1 u2=>?_,λt2=>?_⟩
  ·by_cases z:u<line
   ·exact lw u u1 z
   ·have:=Jzs W l1 (show line<=u by omega)
    omega
  ·have cn:=cn.resolve_left 00
   generalize hn:ldZ rs a o line=nx at *
   refine⟨00,?_⟩
   by_cases e:Qy (rs.take a) line=Qy (rs.take a) nx
   ·left
    unfold ldZ at hn ⊢
    omega
   ·right
    have:=Jfv l1 (show line<=nx by omega) q1
    have:=Jxc l1 (show line<=nx by omega) q1 00
    omega
 ·refine xret<|Je rfl ⟨x1,.inr ⟨rfl,λu u1 u2=>lw u u1 ?_⟩⟩
  have t:¬line+(Jh rs a).late<=(Jh rs a).due:=t
  unfold spA at u2
  omega
theorem Jzu{F p:Nat}{ss:Tn}(g:h[F]?=Za (.lst<|ss.map tupS)):Jg4 (k+1) [.ref F,.int (p:Int)] h=.ok (.int<|(endP p ss).getD 0) h:=Js (by
 rw[Jqa]
 refine xfin<|xseq<|xset<|Je rfl (xseq<|xfor ?_)
 rw[JU]
 refine Je rfl ((JM _).mpr ⟨_,g,?_⟩)
 refine Qo (λn σ h'=>h=h'/\∃c d e,σ=[Za<|.ref F,Za<|.int (p:Int),Za<|.int<|(endP p<|ss.take n).getD 0,c,d,e]) (λ_ _ _ z=>z.1▸g) ?_ ?_ ⟨rfl,Zc,Zc,Zc,rfl⟩
 ·rintro n hn _ _ ⟨rfl,c,d,e,rfl⟩
  rw[Zg]at hn
  rw[ZG,Jr1<|Zb hn]
  generalize ss[n]=x
  by_cases z:x.1=p
  ·rw[if_pos z]
   exact xnx rfl (xift (okc (eqE rfl rfl)<|decide_eq_true 00)<|xset<|Je rfl ⟨rfl,_,_,_,rfl⟩)
  ·rw[if_neg z]
   exact xnx rfl (xiff (okc (eqE rfl rfl)<|decide_eq_false 00)<|xnil ⟨rfl,_,_,_,rfl⟩)
 ·rintro _ _ ⟨rfl,c,d,e,rfl⟩
  rw[Zg,ZdR]
  exact xret<|Je rfl ⟨rfl,rfl⟩)
end
end
section
seal L4.run L4.WS L4.WR
section
variable{k:Nat}{h:IH}
theorem Jpk(i:Int):Jbz (k+1) [.int i] h=.ok (.bl Zh) h:=Js (by
 rw[Jl2]
 exact xfin<|xret<|Je (Jy6 (isiE rfl rfl) rfl) ⟨rfl,rfl⟩)
theorem Jv9{S lo:Nat}{ys:Tq}{rs:Ts}{c:Cm}(hS:h[S]?=Za (.lst ys))(w:RowT h lo ys rs)(hc:COk rs c):
  WR (Jd8 (k+2) [tupC c,.ref S] h) λv h'=>v=.bl Zh/\Ex h h':=by
 have hb:=J2
 have wl:=w.len
 have ha:=hc.at_
 obtain⟨q,ey,_⟩:=w.get<|Zb ha
 have ay:atI ys (c.at_:Int)=Za (tp6 rs[c.at_] q):=JE ey
 obtain⟨_,_,e1,rfl,g1,rfl⟩:=(Qe (it:=Ju 'a') (js:=[]) (e:=Jc2<|k+1) (σ:=[Za<|tupC c,Za<|.ref S,Zc,Zc,Zc,Zc]) (h0:=h) (h:=h) (xs:=[.int c.at_,.int c.come,.int c.late,.int c.len]) (chk:=λ_=>True) (f:=λ_=>.bl Zh)
  (by rw[JU];exact Je rfl ((YV _).mpr ⟨rfl,rfl,rfl⟩)) (by show 4<_;omega) (λ_ _=>trivial) (by
   intro v hv h2 q
   obtain⟨i,rfl⟩:∃i:Int,v=.int i:=by
    simp only[Z6,ZF,or_false]at hv
    rcases hv with rfl|rfl|rfl|rfl<;>exact⟨_,rfl⟩
   exact Je (JB (arg1 rfl)<|Jpk i) ⟨rfl,.refl _⟩)).eq
 have x1:=Ex.cons h (IX.lst<|[IV.int c.at_,IV.int c.come,IV.int c.late,IV.int c.len].map λ_=>IV.bl Zh) g1
 have gS:=x1.get hS
 have e2:=(cbE (f:=on1 allI)<|arg1 e1).trans<|all_map (f:=λ_=>Zh) J4
 have el:eCB (on1 lenI) (Jb 'a' Jd) [Za<|tupC c,Za<|.ref S,Zc,Zc,Zc,Zc] h=.ok (.int 4) h:=rfl
 have et:eIsi QC 'a' [Za<|tupC c,Za<|.ref S,Zc,Zc,Zc,Zc] h=.ok (.bl Zh) h:=isiE rfl rfl
 have e4:cNe (.int 4) (.int 4) h=.ok (.bl Zk) h:=rfl
 rw[Jl1]
 refine xfin<|xseq<|xiff (orF (notE<|truE et)<|tofE<|(binE el rfl).trans e4)<|xnil<|xseq<|xiff (notE<|truE e2)<|xnil<|xseq ?_
 refine(Xy ..).mpr (Je rfl (xnx rfl (xseq<|xiff (orF (notE<|tofE<|chT rfl rfl (lenE rfl gS) 00 00)<|okc (ltE rfl rfl)<|decide_eq_false (by have:=hc.come;omega))<|xnil<|xret<|Je (Jy6 (chL rfl rfl (ixtE (ixlE rfl rfl gS ay) rfl Vv) hc.l0 hc.l1)<|chL rfl rfl (ixtE (ixlE rfl rfl gS ay) rfl Qk) hc.n1 hc.n2) ⟨rfl,x1⟩)))
theorem Jvt(hS:h[S]?=Za (.lst ys))(w:RowT h lo ys rs)(L:Legal rs cs)(gR:h[R]?=Za (.lst<|cs.map tupC))(hl:cs.length<=1000):
  WR (Jd6 (k+3) [.ref R,.ref S] h) λv h'=>v=.bl Zh/\Ex h h':=by
 have hb:=J2
 have wl:=w.len
 have x1:Ex h (h++[IX.dct []]):=.one _ _
 have el:eIsi QN 'a' [Za<|.ref R,Za<|.ref S,Zc,Zc] h=.ok (.bl Zh) h:=isiE rfl (by rw[Jtx gR];rfl)
 rw[Jlz]
 refine xfin<|xseq<|xiff (notE<|truE el)<|xnil<|xseq<|xset<|Je rfl (xseq<|xfor ?_)
 rw[JU]
 refine Je rfl ((JM _).mpr ⟨_,x1.get gR,?_⟩)
 refine Qo (λn σ h'=>∃kvs a3,σ=[Za<|.ref R,Za<|.ref S,Za<|.ref h.length,a3]/\Kp h h'/\h'[h.length]?=Za (.dct kvs)/\kvs.length<=n/\∀(m:Nat) v,valI kvs (.inl (m:Int))=Za v->∃(i:Nat)(c:Cm),i<n/\cs[i]?=Za c/\c.at_=m/\v=.int c.come)
  (λn σ h' ⟨_,_,_,kp,_⟩=>kp _ _ gR) ?_ ?_ ⟨[],Zc,rfl,x1.kp,Jm,Zm _,λm v e=>by cases e⟩
 ·rintro n hn _ h1 ⟨kvs,a3,rfl,k1,g1,lk,Y⟩
  rw[Zg]at hn
  rw[ZG]
  have hc:=L.ok _<|Zw hn
  have hcs:=Zb hn
  generalize cs[n]=c at hc hcs
  have ha:=hc.at_
  obtain⟨_,h2,e2,rfl,x2⟩:=(Jv9 (k:=k) (k1 _ _ hS) (w.kp k1) hc).eq
  have g2:=x2.get g1
  have er:=Zb ha
  obtain⟨q,ey,_⟩:=w.get er
  have ay:atI ys (c.at_:Int)=Za (tp6 rs[c.at_] q):=JE ey
  generalize rs[c.at_]=r at er ay
  have ei:∀{σ:ISt},σ[3]?=Za (Za<|tupC c)->Ja 3 σ h2=.ok (tupC c) h2:=λ{σ} e=>by
   show(match σ[3]? with|some (Za v)=>Res.ok v h2|_=>.stuck)=_
   rw[e]
  have e0:=ixtE (σ:=[Za<|.ref R,Za<|.ref S,Za<|.ref h.length,Za<|tupC c]) (b:=eC<|.int 0) (ei rfl) rfl (Qb (x:=IV.int c.at_))
  have last:∀{RR:IV->IH->Prop},WS (sAsg (Jc Jf 'd' '1') (gSbD 'c'<|Jc Jf 'd'<|eC<|IV.int 0) [Za<|IV.ref R,Za<|IV.ref S,Za<|IV.ref h.length,Za<|tupC c] h2) (λσ h'=>∃kvs a3,σ=[Za<|.ref R,Za<|.ref S,Za<|.ref h.length,a3]/\Kp h h'/\h'[h.length]?=Za (.dct kvs)/\kvs.length<=n+1/\∀(m:Nat) v,valI kvs (.inl (m:Int))=Za v->∃(i:Nat)(c:Cm),i<n+1/\cs[i]?=Za c/\c.at_=m/\v=.int c.come) RR:=λ{RR}=>by
   refine(Xy ..).mpr (Je (ixtE (ei rfl) rfl JN)<|(Jum ..).mpr<|Je rfl (Je e0<|(Jpw g2<|show kvs.length<sizeLine by omega).mpr ?_))
   refine⟨_,_,rfl,λj o z=>J9 (x2.get<|k1 _ _ z) (by have:=JF z;omega),Qu g2,?_,λm v e=>?_⟩
   ·unfold putD
    split<;>simp<;>omega
   ·rw[Jph]at e
    split at e
    ·rename_i heq
     cases e
     have en:(c.at_:Int)=m:=Sum.inl.inj heq
     exact⟨n,c,00,hcs,00,rfl⟩
    ·obtain⟨i,c',a1,a2,a3,a4⟩:=Y m v e
     exact⟨i,c',00,a2,a3,a4⟩
  have ein:Ji asB (Jc cInD (Jc Jf 'd' '0') 'c') [Za<|.ref R,Za<|.ref S,Za<|.ref h.length,Za<|tupC c] h2=.ok (valI kvs<|.inl (c.at_:Int)).isSome h2:=tofE<|(binE e0 rfl).trans<|Js<|(Jyg g2).mpr ⟨rfl,rfl⟩
  refine xnx rfl (xseq<|xiff (notE<|truE<|JB (arg2 rfl rfl) e2)<|xnil<|xseq ?_)
  cases ev:valI kvs (.inl (c.at_:Int))with
  |none=>exact xiff (andF<|okc ein<|by rw[ev];rfl)<|xnil last
  |some v=>
   obtain⟨i,c',hi,ei',ea,rfl⟩:=Y _ _ ev
   have far:=L.far i n c' c hi ei' hcs ea r<|by rw[ea];exact er
   exact xiff (andT (okc ein<|by rw[ev];rfl)<|okc (ltE (ixtE (ei rfl) rfl JN)<|addE ((binE rfl e0).trans<|Js<|(Jyh g2 ev).mpr ⟨rfl,rfl⟩)<|ixtE (ixlE rfl e0 (x2.get<|k1 _ _ hS) ay) rfl JN)<|decide_eq_false 00)<|xnil last
 ·rintro _ h1 ⟨kvs,a3,rfl,k1,g1,lk,Y⟩
  exact xret<|Je rfl ⟨rfl,Ju4 k1⟩
end
end
abbrev dlen(n:Nat):Nat:=(Nat.toDigits 10 n).length
theorem Jjw(h:n<10):dlen n=1:=by rw[dlen,Nat.toDigits_of_lt_base h];rfl
theorem Yx(h:10<=n):dlen n=dlen (n/10)+1:=by
 rw[dlen,Nat.toDigits_of_base_le 01 h,Zs]
 rfl
theorem Ju0(n:Nat):1<=dlen n:=by
 by_cases h:n<10
 ·rw[Jjw h];exact Zm _
 ·rw[Yx 00];omega
theorem Jlp(a b:Nat)(h:a<=b):dlen a<=dlen b:=by
 by_cases ha:a<10
 ·rw[Jjw ha];exact Ju0 b
 ·rw[Yx (n:=a) 00,Yx (n:=b) 00]
  have:=Jlp (a/10) (b/10)<|Nat.div_le_div_right h
  omega
termination_by a
decreasing_by omega
theorem X8(b:Nat):dlen (10*b)<=dlen b+1:=by
 by_cases hb:b=0
 ·subst hb;exact ZaU _
 ·rw[Yx 00,Nat.mul_div_cancel_left _ 01]
  exact Zm _
theorem Juz(h:a<=1000000*b):dlen a<=dlen b+6:=by
 have h1:=Jlp _ _ h
 have e:1000000*b=10*(10*(10*(10*(10*(10*b))))):=00
 rw[e]at h1
 have t1:=X8 b
 have t2:=X8<|10*b
 have t3:=X8<|10*(10*b)
 have t4:=X8<|10*(10*(10*b))
 have t5:=X8<|10*(10*(10*(10*b)))
 have t6:=X8<|10*(10*(10*(10*(10*b))))
 omega
theorem Jwu(n:Nat):ZdY (toString ((n:Int)):String)=dlen n:=by
 have e:=ofString_length<|toString<|(n:Int)
 refine e.trans ?_
 show(Nat.repr n).length=dlen n
 simp[Nat.repr]
section
seal L4.run L4.WS L4.WR
theorem Jor:∀(k n:Nat),n<10^(k+1)->dlen n<=k+1
 |0,n,h=>by rw[Jjw<|by simpa using h];exact Zm _
 |k+1,n,h=>by
  by_cases hn:n<10
  ·rw[Jjw hn];omega
  ·rw[Yx 00]
   have:=Jor k (n/10) (Nat.div_lt_of_lt_mul<|by rw[Nat.pow_succ,Nat.mul_comm]at h;exact h)
   omega
theorem J5n(h:n<10^60):n.log2<1920:=by
 by_cases h0:n=0
 ·subst h0;decide
 ·rw[Nat.log2_lt h0]
  exact ZH h<|by decide +kernel
theorem J3b(m0:0<=m)(m2:m<=40*unit)(hu2:unit<=10^40):∃M:Nat,m=(M:Int)/\M<10^60:=by
 have p60:40*(10:Int)^40<10^60:=by decide +kernel
 obtain⟨M,rfl⟩:=Int.eq_ofNat_of_zero_le m0
 refine⟨M,rfl,?_⟩
 have:(M:Int)<((10^60:Nat):Int):=by
  rw[Int.natCast_pow]
  generalize (10:Int)^40=y at *
  generalize ((10:Nat):Int)^60=z at *
  omega
 omega
section
variable{k:Nat}{h:IH}
theorem top4(a b c d:Int):∃m,JJ (λi=>[a,b,c,d].getD i 0) 4=m/\a<=m/\b<=m/\c<=m/\d<=m/\∀B,a<=B->b<=B->c<=B->d<=B->m<=B:=by
 have f:=Jtv (λi=>[a,b,c,d].getD i 0) 4
 refine⟨_,rfl,f 0 01,f 1 01,f 2 01,f 3 01,λB h1 h2 h3 h4=>Jpd _ _ _ 01 λj hj=>?_⟩
 match j,hj with
 |0,_=>exact h1
 |1,_=>exact h2
 |2,_=>exact h3
 |3,_=>exact h4
theorem dlE(ee:e σ h=.ok (.int (n:Int)) h)(hn:n<10^60):eCB (on1 lenI) (Jb (eCB (on1 strI)<|Jb e Jd) Jd) σ h=.ok (.int (dlen n:Nat)) h:=by
 have hb:=J2
 have e1:eCB (on1 strI) (Jb e Jd) σ h=.ok (.str (toString (n:Int):String)) h:=(cbE<|arg1 ee).trans (Js<|by rw[Yh,J1s];exact⟨by rw[Int.natAbs_natCast];exact J5n hn,rfl,rfl⟩)
 have:=Jor 59 n hn
 exact(cbE<|arg1 e1).trans (Js<|by rw[Yh,Yg,Jwu];exact⟨00,rfl,rfl⟩)
theorem Jsy{cs:Tt}(hS:h[S]?=Za (.lst ys))(w:RowT h lo ys rs)(hu:1<=unit)(hu2:unit<=10^40)(hf:∀r∈rs,F7 unit r)(few:rs.length<=12)(gR:h[R]?=Za (.lst<|cs.map tupC))
  (hc:∀c∈cs,c.at_<rs.length/\0<=c.come/\c.come<40*unit/\c.late<40*unit/\c.len<40*unit):Ja1 (k+1) [.ref R,.ref S] h=.ok (.bl Zh) h:=Js (by
 have wl:=w.len
 rw[Jgn]
 refine xfin<|xseq<|xset<|Je rfl (xseq<|xfor ?_)
 rw[JU]
 refine Je rfl ((JM _).mpr ⟨_,hS,?_⟩)
 refine Qo (λn σ h'=>h=h'/\∃(g:Int)(a3 a4 a5 a6 a7 a8:Tb),σ=[Za<|.ref R,Za<|.ref S,Za<|.int g,a3,a4,a5,a6,a7,a8,Zc]/\1<=g/\g<=40*unit/\(0<n->unit<=g)) (λ_ _ _ z=>z.1▸hS) ?_ ?_ ⟨rfl,1,Zc,Zc,Zc,Zc,Zc,Zc,rfl,ZJ _,00,00⟩
 ·rintro n hn _ _ ⟨rfl,g,a3,a4,a5,a6,a7,a8,rfl,g1,g2,_⟩
  have hn':n<rs.length:=by rw[<-wl];exact hn
  obtain⟨q,ey,_,_⟩:=w.at_ n _ _ (Zb hn)<|Zb hn'
  have f:=hf _<|Zw hn'
  rw[ey]
  generalize rs[n]=r at f
  have f1:=f.g1
  have f2:=f.g2
  have f3:=f.l2
  have f4:=f.t2
  obtain⟨m,em,m1,m2,_,_,mB⟩:=top4 g r.1.gap r.1.len r.1.late
  refine xnx rfl (xset<|Je ((cbE<|arg4 rfl rfl rfl rfl).trans<|show Y7 _ _=.ok (.int m) h by rw[<-em];rfl) ⟨rfl,m,_,_,_,_,_,_,rfl,00,mB _ g2 00 00 00,λ_=>00⟩)
 ·rintro _ _ ⟨rfl,g,a3,a4,a5,a6,a7,a8,rfl,g1,g2,g3⟩
  obtain⟨G,rfl,G6⟩:=J3b (show 0<=g by omega) g2 hu2
  refine xseq<|xfor ?_
  rw[JU]
  refine Je rfl ((JM _).mpr ⟨_,gR,?_⟩)
  refine Qo (λn σ h'=>h=h'/\∃a9:Tb,σ=[Za<|.ref R,Za<|.ref S,Za<|.int (G:Int),a3,a4,a5,a6,a7,a8,a9]) (λ_ _ _ z=>z.1▸gR) ?_ ?_ ⟨rfl,Zc,rfl⟩
  ·rintro n hn _ _ ⟨rfl,a9,rfl⟩
   rw[Zg]at hn
   rw[ZG]
   obtain⟨c1,c2,c3,c4,c5⟩:=hc _<|Zw hn
   generalize cs[n]=c at c1 c2 c3 c4 c5
   have ug:unit<=(G:Int):=g3<|by rw[wl];omega
   obtain⟨m,em,m1,_,_,_,mB⟩:=top4 (c.at_:Int) c.come c.late c.len
   have m2:=mB (40*unit) 00 00 00 00
   obtain⟨M,rfl,M6⟩:=J3b (show 0<=m by omega) m2 hu2
   have key:=Juz (a:=M) (b:=G) 00
   have ex:eCB (on1 Vg) (Jb 'j' Jd) [Za<|.ref R,Za<|.ref S,Za<|.int (G:Int),a3,a4,a5,a6,a7,a8,Za<|tupC c] h=.ok (.int (M:Int)) h:=(cbE<|arg1 rfl).trans<|by rw[<-em];rfl
   exact xnx rfl (xiff (okc (gtE (dlE ex M6)<|addE (dlE rfl G6) rfl)<|decide_eq_false 00)<|xnil ⟨rfl,_,rfl⟩)
  ·rintro _ _ ⟨rfl,a9,rfl⟩
   exact xret<|Je rfl ⟨rfl,rfl⟩)
end
end
section
seal L4.run L4.WS L4.WR
noncomputable def gI (v:IV):Zdg:=match v with
 |.int x=>.int x
 |.tup xs=>.tuple (xs.map λv=>match v with|.int x=>.int x|_=>.none)
 |_=>.none
theorem Jvs(ns:Tk):ZY (ns.map PyData.int)=Zh:=by
 induction ns with
 |nil=>rfl
 |cons n ns ih=>rw[Z1,ZY,ih];rfl
def Pl(v:IV):Prop:=(∃x,v=.int x)∨∃ns:Tk,v=.tup (ns.map .int)
section
variable{k:Nat}{h:IH}
theorem Jxt(n:Nat):∀ns:Tk,(ns.map IV.int).mapM (toD h<|n+1)=Za (ns.map PyData.int)
 |[]=>rfl
 |x::ns=>by
  rw[Z1,ZcB,Jxt n ns]
  rfl
theorem Jy8(ns:Tk):gI (.tup<|ns.map .int)=.tuple (ns.map PyData.int):=by
 show ZcC _=_
 rw[Zai]
 rfl
theorem J60(n:Nat)(q:Pl v):toD h (n+2) v=Za (gI v)/\(gI v).canLay0=Zh:=by
 rcases q with⟨x,rfl⟩|⟨ns,rfl⟩
 ·exact⟨rfl,rfl⟩
 ·rw[Jy8]
  refine⟨?_,by rw[ZaC];exact Jvs ns⟩
  show((ns.map IV.int).mapM<|toD h<|n+1).map ZcC=_
  rw[Jxt]
  rfl
theorem J43(hi:h[i]?=Za (.lst xs))(q:∀x∈xs,Pl x):toD h (n+3) (.ref i)=Za (.list<|xs.map gI):=by
 rw[Jks hi,Jkc (g:=gI) λx hx=>(J60 n<|q x hx).1]
 rfl
theorem Jzr{xs:Tq}(q:∀x∈xs,Pl x):ZY (xs.map gI)=Zh:=Jst λx hx=>(J60 (h:=[]) 0<|q x hx).2
theorem J3s(cs:Tt):∀x∈cs.map tupC,Pl x:=λx hx=>by
 obtain⟨c,_,rfl⟩:=Zz.mp hx
 exact .inr ⟨[c.at_,c.come,c.late,c.len],rfl⟩
theorem Jz4{cs:Tt}(hi:h[i]?=Za (.lst<|cs.map tupC))(hj:h[j]?=Za (.lst<|cs.map tupC)):cNe (.tup [.ref i,.int p]) (.tup [.ref j,.int p]) h=.ok (.bl Zk) h:=by
 have e:∀{i:Nat},h[i]?=Za (.lst<|cs.map tupC)->toD h 6 (.tup [.ref i,.int p])=Za (.tuple [.list<|(cs.map tupC).map gI,.int p]):=λ{i} g=>by
  show([IV.ref i,IV.int p].mapM<|toD h 5).map ZcC=_
  rw[ZcB,J43 (n:=2) g<|J3s cs]
  rfl
 have l:(ZcC [.list<|(cs.map tupC).map gI,.int p]).canLay0=Zh:=by
  rw[ZaC,ZY,ZaC,Jzr<|J3s cs]
  rfl
 have e3:Vx (.tup [.ref i,.int p]) (.tup [.ref j,.int p]) h=Za Zh:=by
  unfold Vx
  rw[e hi,e hj]
  dsimp only
  rw[if_pos ⟨l,l⟩,Jot _ l]
 unfold cNe
 rw[show Xq (.tup [.ref i,.int p]) (.tup [.ref j,.int p])=Zc from rfl]
 dsimp only
 rw[e3]
 rfl
theorem neI:cNe (.int x) (.int x) h=.ok (.bl Zk) h:=by
 show Res.ok (IV.bl (!decide (x=x))) h=_
 rw[decide_eq_true rfl]
 rfl
end
section
variable{rs:Ts}{a:Nat}{o:Wd}{c unit:Int}
structure Hw(unit:Int)(rs:Ts)(a:Nat)(o:Wd)(m:Nat):Prop where
 w:Wk rs a o m
 hm:m<=12
 n64:(JA rs a o).length<64
 in_:∀c∈JA rs a o,c.at_<rs.length/\0<=c.come/\c.come<40*unit/\c.late<40*unit/\c.len<40*unit
 dg:(Jh rs a).due<=(Jh rs a).gap
theorem Jp3(D:Dr c unit rs)(few:rs.length<=12)(sm:rs.length<=5∨∀r∈rs,r.1.gap<3*unit)(ha:a<rs.length)(ho:HO rs a o):∃m,Hw unit rs a o m:=by
 have u1:=D.u1
 have at_:∀n,n<rs.length->F7 unit ⟨Jh rs n,(rs.getD n rd).2⟩:=λn hn=>by
  unfold Jh
  rw[Qm hn]
  exact D.f _<|Zw hn
 have fa:=at_ a ha
 have a1:0<=(Jh rs a).late:=fa.t1
 have a2:(Jh rs a).due<=(Jh rs a).gap:=fa.d2
 have key:∀K:Int,0<=K->(Jh rs a).gap<K*unit->∀n,n<a->cmn (spA rs a) (Jh rs n)<=K+2:=λK K0 h n hn=>by
  have f:=at_ n 00
  have f1:unit<=(Jh rs n).gap:=f.g1
  have f2:(Jh rs n).late<=3*(Jh rs n).gap/2:=f.t2
  have f3:=ZaO f1 K0
  unfold cmn
  split
  ·refine Jxx 00 ?_
   rw[Zdd]
   unfold spA
   omega
  ·omega
 obtain⟨m,hm,cn,ln⟩:∃m:Nat,m<=12/\(∀n,n<a->(cmn (spA rs a)<|Jh rs n).toNat<=m)/\m*a+2<64:=by
  rcases sm with h|h
  ·have g2:(Jh rs a).gap<8*unit:=fa.g2
   exact⟨10,01,λn hn=>by have:=key 8 01 g2 n hn;omega,00⟩
  ·have g2:(Jh rs a).gap<3*unit:=by
    rw[Vq ha]
    exact h _<|Zw ha
   exact⟨5,01,λn hn=>by have:=key 3 01 g2 n hn;omega,00⟩
 have W:Wk rs a o m:=⟨ha,λr hr=>by
  have f:=D.f r hr
  have f1:=f.g1
  exact⟨00,f.t1,f.l1,f.ok⟩,ho,cn⟩
 have L:=Ji6 W
 have tT:tO rs a o<=12*unit:=by
  refine Jpd _ _ _ (by unfold Q7;simp) λj hj=>?_
  have e:(Q7 rs a o).getD j 0=(Q7 rs a o)[j]:=by rw[Zi,Zb hj];rfl
  show(Q7 rs a o).getD j 0<=_
  rw[e]
  rcases ZK.mp (Zw hj)with h|h
  ·obtain⟨r,hr,e⟩:=Zz.mp h
   have f:=D.f r<|ZaV hr
   have f1:=f.g2
   have f2:=f.t2
   rw[<-e]
   omega
  ·rw[Zx.mp h]
   cases o with
   |none=>show(0:Int)<=_;omega
   |some p=>
    obtain⟨_,h2,h3,_,h5,_⟩:=W.p rfl
    have h6:=h5.each _ h3
    have h7:=h6.2.2.1
    have h8:=h6.2.2.2
    have f1:(Jh rs p.1).gap<8*unit:=(at_ _ h2).g2
    have f2:(Jh rs p.1).len<=(Jh rs p.1).gap:=(at_ _ h2).l2
    show p.2.2.1+1<=_
    omega
 refine⟨m,W,hm,?_,λc hc=>?_,a2⟩
 ·have h1:=Jnw (T:=tO rs a o) cn a<|Zm _
  have h2:(hdC rs (tO rs a o) o).length<=1:=by
   cases o with
   |none=>exact ZR _
   |some p=>exact Zm _
  rw[JA,Zs,Zs,Jkq]
  omega
 ·have ok:=L.ok c hc
  have lc:=ok.at_
  have f:=D.f _<|Zw lc
  have f1:=f.g2
  have f2:=f.t2
  have f3:=f.l2
  have l1:=ok.l1
  have n2:=ok.n2
  refine⟨lc,ok.come,?_,00,00⟩
  have g0:=J19 W
  rcases Jgu hc with⟨p,e,e2⟩|⟨w,t,hw,e2⟩
  ·rw[e2]
   show tO rs a o-gO o<_
   omega
  ·have lw:w<rs.length:=00
   have fw:=at_ w lw
   have w1:unit<=(Jh rs w).gap:=fw.g1
   have w2:0<=(Jh rs w).late:=fw.t1
   have ga:(Jh rs a).gap<8*unit:=fa.g2
   rw[e2]
   show tO rs a o-(Jh rs w).late+(t:Int)*(Jh rs w).gap<_
   rcases hw with⟨_,ht⟩|⟨_,ht⟩
   ·by_cases s1:1<=spA rs a
    ·have:=(Jow (i:=t) (d:=Jh rs w) s1 00).mp 00
     unfold spA at this
     omega
    ·unfold cmn at ht
     rw[if_neg s1]at ht
     exact absurd ht<|Nat.not_lt_zero _
   ·rw[ht,show((0:Nat):Int)*(Jh rs w).gap=0 from ZeN _]
    omega
end
section
variable{k:Nat}{h:IH}
def DW(h1:IH)(x y:IV)(h':IH):Prop:=∀(r:RH)(q:Nat),x=tp6 r q->h1[q]?=Za (.lst<|r.2.map tupH)->∃w:Nat,y=IV.ref w/\w≠h1.length/\h'[w]?=Za (wo r)
theorem Jwz(ee:e σ h=.ok (.ref S) h)(G:Gd unit rs)(gS:h[S]?=Za (.lst ys))(w:RowT h lo ys rs):
  ∃h',Jz (Ju e) 1 [] (gNm 0) JD (Je8<|k+5) σ h=.ok (.ref h.length) h'/\∃vs,h'[h.length]?=Za (.lst vs)/\AllH h' vs rs/\Kp h h':=by
 have hb:=J2
 have few:=G.few
 have wl:=w.len
 obtain⟨v,h3,ev,rfl,vs,gv,lv,k3,dv⟩:=(Jw1 (it:=Ju e) (e:=Je8<|k+5) (js:=[]) (σ:=σ) (h0:=h) (h:=h) (xs:=ys) (chk:=λh'=>h'[S]?=Za (.lst ys)) (DW h)
  (by rw[JU];exact Je ee<|(JM _).mpr ⟨_,gS,rfl,rfl,rfl⟩) 00 (by
   intro x y h2 h3 kb dd r q e g
   obtain⟨w,e1,e2,e3⟩:=dd r q e g
   exact⟨w,e1,e2,kb _ _ e2 e3⟩) (λh2 q=>q _ _ gS) (by
   intro x hx h2 k2 l2
   obtain⟨n,hn,rfl⟩:=ZO.mp hx
   have hn':n<rs.length:=00
   obtain⟨q,ey,_,gq⟩:=w.at_ n _ _ (Zb hn)<|Zb hn'
   have f8:=G.f _<|Zw hn'
   have u1:=G.u1
   rw[ey]
   generalize rs[n]=r at gq f8
   have f1:=f8.g1
   have gq2:=k2 _ _ gq
   have a5:atI (IV.str r.1.name::tp5 r q) 5=Za (.ref q):=Jyo
   unfold Je8
   rw[Xu]
   refine Je (argC (ixtE rfl rfl Qb)<|argC (ixtE rfl rfl JN)<|argC (ixtE rfl rfl Qk)<|argC (ixtE rfl rfl QO)<|argC (ixtE rfl rfl Vv)<|arg1<|Jzv (ixtE rfl rfl a5) gq2) ?_
   generalize hs':r.2.map tupH=hs
   refine WR.mono (Jzz (k:=k) (hs:=hs) f8.nm 00 f8.l1 f8.t1 (λh1=>Jqr f8.d1 f8.d2) λh1 z=>hs'▸Jme (z _ _<|by rw[hs'];exact Jm) f8.ok) ?_
   rintro _ h3 ⟨rfl,g,rfl⟩
   refine⟨rfl,(Ex.one _ _).trans<|.cons _ _ _,λr' q' e' g'=>⟨_,rfl,by rw[Zs];omega,?_⟩⟩
   have e':tp6 r q=tp6 r' q':=e'
   simp only[tp6,tp5,IV.tup.injEq,Zbw,IV.str.injEq,IV.int.injEq,IV.ref.injEq,and_true]at e'
   obtain⟨e1,e2,e3,e4,e5,rfl⟩:=e'
   rw[gq]at g'
   have g':r.2.map tupH=r'.2.map tupH:=by simpa using g'
   rw[<-hs',g']
   unfold wo
   rw[<-e1,<-e2,<-e3,<-e4,<-e5]
   exact J4)).eq
 refine⟨h3,ev,vs,gv,⟨00,λi v r a b=>?_⟩,k3⟩
 obtain⟨q,ey,gq⟩:=w.get b
 obtain⟨W,e1,_,e3⟩:=dv i _ _ ey a r q rfl gq
 exact⟨W,e1,e3⟩
end
end
section
seal L4.run L4.WS L4.WR
section
variable{rs:Ts}{a m:Nat}{o:Wd}{unit:Int}
theorem Hw.line(W:Hw unit rs a o m)(f:Fx (JA rs a o) a (tO rs a o) (bO o) e):(∀L,1<=L->L<=spA rs a->ldZ rs a o L<=L->(∀t,1<=t->t<L->t<ldZ rs a o t)->e=tO rs a o+L)/\((∀t,1<=t->t<=spA rs a->t<ldZ rs a o t)->tO rs a o+spA rs a<e):=by
 have dm:∀t,1<=t->t<=spA rs a->bO o+dM (JA rs a o) a (tO rs a o) (tO rs a o+t)=ldZ rs a o t:=λt t1 t2=>by
  rw[J42 W.w t1 t2 W.dg]
  unfold ldZ
  omega
 have t:=f.t
 have fx:e-tO rs a o<=spA rs a->ldZ rs a o (e-tO rs a o)=e-tO rs a o:=λz=>by
  rw[<-dm _ 00 z,show tO rs a o+(e-tO rs a o)=e by omega]
  exact f.eq.symm
 refine⟨λL l1 l2 l3 l4=>?_,λno=>?_⟩
 ·by_cases c1:e-tO rs a o<L
  ·have:=fx 00
   have:=l4 _ 00 c1
   omega
  ·by_cases c2:L<e-tO rs a o
   ·have:=f.lo L l1 00
    rw[dm L l1 l2]at this
    omega
   ·omega
 ·by_cases c:e-tO rs a o<=spA rs a
  ·have:=fx c
   have:=no _ 00 c
   omega
  ·omega
end
theorem Jvr(ns:Tk)(hl:ns.length<=63):∃h',Xz 16 [.rol<|ns.map IV.int] [.tab "Order.pick",.tab "Bench.__init__",.tab "longest_hold"]=.ok (.bl Zh) h':=by
 suffices h:WR (Xz 16 [.rol<|ns.map IV.int] [.tab "Order.pick",.tab "Bench.__init__",.tab "longest_hold"]) λv _=>v=.bl Zh by
  obtain⟨v,h',e,rfl⟩:=h.eq
  exact⟨h',e⟩
 have hb:=J2
 have t0:([.tab "Order.pick",.tab "Bench.__init__",.tab "longest_hold"]:IH)[1]?=Za (.tab "Bench.__init__"):=rfl
 have t1:([.tab "Order.pick",.tab "Bench.__init__",.tab "longest_hold"]:IH)[0]?=Za (.tab "Order.pick"):=rfl
 have t2:([.tab "Order.pick",.tab "Bench.__init__",.tab "longest_hold"]:IH)[2]?=Za (.tab "longest_hold"):=rfl
 generalize ([.tab "Order.pick",.tab "Bench.__init__",.tab "longest_hold"]:IH)=h at t0 t1 t2 ⊢
 have c0:=λ(h:IH)=>Jnc (k:=14) (h:=h) ns 0 01
 have c1:=Jnc (k:=14) (h:=h) ns 1 01
 have c7:=λ(h:IH)=>Jnc (k:=14) (h:=h) ns 7 01
 generalize ns.getD (Zc0 0) 0=x0 at c0
 generalize ns.getD (Zc0 1) 0=x1 at c1
 generalize ns.getD (Zc0 7) 0=x7 at c7
 have ec:cutI (ns.map IV.int) (Za 2) (Za 7)=((ns.drop 2).take 5).map IV.int:=by
  rw[show(Za (2:Int))=Za ((2:Nat):Int)from rfl,show(Za (7:Int))=Za ((7:Nat):Int)from rfl,Jy0]
  rw[ZcX,ZeB,List.drop_take]
 have e1:=adlE (σ:=[Za<|.rol<|ns.map IV.int,Za<|.int x1,Zc,Zc,Zc,Zc,Zc,Zc,Zc,Zc,Zc]) (lstE (arg2 (JB (arg2 (a:=Ja 0) (b:=eC<|.int 0) rfl rfl)<|c0 h)<|addE (addE (b:=eC<|.int 1) (mulE (a:=eC<|.int 6) (b:=Ja 1) rfl rfl (.inl 01)) rfl)<|modE (a:=Ja 1) (b:=eC<|.int 5) rfl rfl 01) rfl) (show eSl slI 'a' (JX '2') (JX '7') _ _=.ok (.ref _) (_++[.lst<|cutI (ns.map IV.int) (Za 2)<|Za 7])from rfl) (grow Jm) Jm (by rw[ec,Zg,Zaa];show 2+_<=_;omega)
 rw[ec]at e1
 have xa:Ex h (h++[IX.lst [IV.int x0,IV.int<|6*x1+1+x1%5]]++[IX.lst<|((ns.drop 2).take 5).map IV.int]++[IX.lst<|[IV.int x0,IV.int<|6*x1+1+x1%5]++((ns.drop 2).take 5).map IV.int]):=(Ex.one _ _).trans<|(Ex.one _ _).trans<|.one _ _
 have ga:(h++[IX.lst [IV.int x0,IV.int<|6*x1+1+x1%5]]++[IX.lst<|((ns.drop 2).take 5).map IV.int]++[IX.lst<|[IV.int x0,IV.int<|6*x1+1+x1%5]++((ns.drop 2).take 5).map IV.int])[(h++[IX.lst [IV.int x0,IV.int<|6*x1+1+x1%5]]++[IX.lst<|((ns.drop 2).take 5).map IV.int]).length]?=Za (.lst<|([x0,6*x1+1+x1%5]++(ns.drop 2).take 5).map .int):=Jm
 generalize h++[IX.lst [IV.int x0,IV.int<|6*x1+1+x1%5]]++[IX.lst<|((ns.drop 2).take 5).map IV.int]++[IX.lst<|[IV.int x0,IV.int<|6*x1+1+x1%5]++((ns.drop 2).take 5).map IV.int]=ha at xa ga e1
 generalize (h++[IX.lst [IV.int x0,IV.int<|6*x1+1+x1%5]]++[IX.lst<|((ns.drop 2).take 5).map IV.int]).length=C at ga e1
 rw[J2c]
 refine xfin (xseq<|xset<|Je (JB (arg2 rfl rfl) c1)<|xseq<|xset<|(YT ..).mpr<|Je (arg2 e1 rfl)<|WR.mono (J0u (k:=11) ga (by show(6*x1+1+x1%5)%6≠0;omega)) ?_)
 rintro _ h1 ⟨xb,S,lo,ys,rs,c,unit,rfl,_,gS,w,D,few,pos,sm⟩
 have xb:=xa.trans xb
 have G:=D.gd few<|sm.imp 00 id
 have wl:=w.len
 obtain⟨h2,ev,vs,gv,wA,k2⟩:=Jwz (k:=10) (e:=Ja 2) (σ:=[Za<|.rol<|ns.map IV.int,Za<|.int x1,Za<|.ref S,Zc,Zc,Zc,Zc,Zc,Zc,Zc,Zc]) rfl G gS w
 refine xseq<|xset<|(Xu ..).mpr<|Je (arg1 ev)<|WR.mono (J45 (k:=12) gv wA G) ?_
 rintro _ h3 ⟨rfl,x3,d3⟩
 refine⟨rfl,?_⟩
 generalize h2.length=Dt at d3
 have x13:Ex h1 h3:=(Ju4 k2).trans x3
 have gS3:=x13.get gS
 have w3:=w.kp x13.kp
 have xt:=xb.trans x13
 obtain⟨a,ea,lA⟩:∃a:Nat,x7%(ys.length:Int)=(a:Int)/\a<rs.length:=by
  have:=ZP x7 (b:=(ys.length:Int)) 00
  have:=ZL x7 (b:=(ys.length:Int)) 00
  exact⟨(x7%(ys.length:Int)).toNat,00,00⟩
 obtain⟨o,eo,ho⟩:=J1w rs a
 obtain⟨m,W⟩:=Jp3 D few sm lA ho
 have six:∀r∈rs,r.2.length<=6:=λr hr=>(G.f r hr).ok.few
 have gl:=G.gl
 have gl2:∀r∈rs,0<r.1.gap/\r.1.gap.natAbs.log2<9000/\0<=r.1.late:=λr hr=>by
  have:=gl _<|Zz.mpr ⟨r,hr,rfl⟩
  exact⟨this.1,this.2,(D.f r hr).t1⟩
 have nms:∀r∈rs,∀b∈r.2,IsNm b.1:=λr hr b hb'=>((D.f r hr).ok.each b hb').1
 have lo':∀p,o=Za p->p.1<rs.length:=λp e=>(W.w.p e).2.1
 have HA:∀{h':IH},Kp h3 h'->∃R h'',Yj 15 [.ref Dt,.int (a:Int)] h'=.ok (.tup [.ref R,.int (((pre rs a o).length:Nat):Int)]) h''/\h'.length<=R/\h''[R]?=Za (.lst<|(JA rs a o).map tupC)/\Ex h' h'':=λ{h'} kp=>by
  obtain⟨_,h'',e,R,rfl,l,g,x⟩:=(Jqd (k:=11) (m:=m) lA (d3.kp kp) few six gl2 (kp _ _<|xt.get t2) eo lo' W.hm W.w.cn).eq
  refine⟨R,h'',?_,l,g,x⟩
  rw[e]
  have:(JA rs a o).length=(pre rs a o).length+1:=by rw[XE,Zs];rfl
  rw[this,Zej]
  show Res.ok (IV.tup [.ref R,.int<|((pre rs a o).length:Int)+1-1]) h''=_
  rw[Int.add_sub_cancel]
 have Lg:=Ji6 W.w
 have lP:(pre rs a o).length<(JA rs a o).length:=by rw[XE,Zs];exact Zaz _
 have eP:(JA rs a o).getD (pre rs a o).length cd=cm (tO rs a o) a (Jh rs a) (tO rs a o-(Jh rs a).late+((0:Nat):Int)*(Jh rs a).gap):=by
  rw[XE,Zi,Z8<|Zm _,ZcF]
  rfl
 obtain⟨e,ee,fx⟩:=Ju9 (Jsa W.w) Lg six
 have ln:=W.line fx
 have tl:=(J01 rs a o).2 a (Zm _) lA
 have la:=(W.w.at_ lA).2.1
 obtain⟨R,h4,e4,lR,g4,x4⟩:=HA λ_ _ z=>z
 have n64:=W.n64
 have in_:=W.in_
 have atP:atI ((JA rs a o).map tupC) ((pre rs a o).length:Int)=Za (tupC<|cm (tO rs a o) a (Jh rs a)<|tO rs a o-(Jh rs a).late+((0:Nat):Int)*(Jh rs a).gap):=by rw[Yp lP,eP]
 generalize hcs:JA rs a o=cs at *
 generalize hPp:(pre rs a o).length=P at *
 refine xseq<|xset<|Je (okc (modE (JB (arg2 rfl rfl)<|c7 _) (lenE rfl gS3) 00)<|congrArg IV.int ea)<|xseq<|xset<|Je (JB (arg2 rfl rfl) e4)<|xseq ?_
 have el:∀{x y:IV}{σ:ISt}{h:IH},Ja 5 σ h=.ok (.tup [x,y]) h->eCB (on1 lenI) (Jb 'f' Jd) σ h=.ok (.int 2) h:=λe=>(cbE<|arg1 e).trans rfl
 have et:∀{x y:IV}{σ:ISt}{h:IH},Ja 5 σ h=.ok (.tup [x,y]) h->eIsi QC 'f' σ h=.ok (.bl Zh) h:=λe=>isiE e rfl
 refine xiff (orF (notE<|truE<|et rfl)<|tofE<|(binE (el rfl) rfl).trans neI)<|xnil<|xseq<|(Xy ..).mpr<|Je rfl (xnx rfl (xseq ?_))
 obtain⟨_,h5,e5,rfl,x5⟩:=(Jvt (k:=12) (x4.get gS3) (w3.kp x4.kp) Lg g4 00).eq
 have g5:=x5.get g4
 have e6:=Jsy (k:=14) ((x4.trans x5).get gS3) (w3.kp (x4.trans x5).kp) D.u1 D.u2 D.f few g5 in_
 refine xiff (orF (notE<|truE<|JB (arg2 rfl rfl) e5)<|orF (okc (gtE (lenE rfl g5) rfl)<|decide_eq_false<|by rw[Zg];omega)<|notE<|truE<|JB (arg2 rfl rfl) e6)<|xnil<|xseq ?_
 refine xiff (orF (notE<|truE<|JB (arg1 rfl)<|Jpk (k:=14) (P:Int))<|orF (notE<|tofE<|chT rfl rfl (lenE rfl g5) 00 (by rw[Zg];omega))<|tofE<|(binE (ixtE (ixlE rfl rfl g5 atP) rfl Qb) rfl).trans neI)<|xnil<|xseq<|xset ?_
 have x35:=x4.trans x5
 have d5:=d3.kp x35.kp
 have mk:WR (Vc "ByRank" (Jar 15) [] (Jb 'd' Jd) [Za<|.rol<|ns.map IV.int,Za<|.int x1,Za<|.ref S,Za<|.ref Dt,Za<|.int (a:Int),Za<|.tup [.ref R,.int (P:Int)],Za<|.ref R,Za<|.int (P:Int),Zc,Zc,Zc] h5) λv h'=>∃O,v=.ref O/\Ex h5 h'/\IsOr h' O rs:=by
  rw[Xu]
  refine Je (arg1 rfl)<|WR.mono (Jtb (k:=11) d5 few six) ?_
  rintro _ h' ⟨rfl,x',o'⟩
  exact⟨rfl,_,rfl,x',o'⟩
 obtain⟨_,h6,e7,O,rfl,x6,or6⟩:=mk.eq
 have g6:=x6.get g5
 have x7':Ex h6 (h6++[IX.lst<|cs.map tupC]):=.one _ _
 have xt7:=xt.trans<|x35.trans<|x6.trans x7'
 obtain⟨_,h8,e8,F,rfl,lF,gF,x8⟩:=(J3v (k:=8) (R:=h6.length) ⟨or6.kp x7'.kp,Jm,λc hc=>(Lg.ok c hc).at_,six,xt7.get t1,00⟩ (xt7.get t0) Lg n64).eq
 have le:=Jzu (k:=14) (p:=P) gF
 rw[ee]at le
 have x38:=x35.trans<|x6.trans<|x7'.trans x8
 have g8:=(x7'.trans x8).get g6
 refine Je (JB (arg2 (JB (arg2 e7<|Jzv rfl g6) e8) rfl) le)<|xseq<|xset<|Je (Jzv rfl g8)<|xseq<|Qx<|QK rfl (grow g8) Jus (Je rfl ((Jw0 ..).mpr ⟨_,grow g8,xseq ?_⟩))
 have le3:=x38.len
 have lR8:=JF g8
 have k9:Kp h3 ((h8++[IX.lst<|cs.map tupC]).set R<|.lst []):=λi ob z=>J9 (grow<|x38.get z) (by have:=JF z;omega)
 have g9:((h8++[IX.lst<|cs.map tupC]).set R<|IX.lst [])[h8.length]?=Za (.lst<|cs.map tupC):=J9 Jm 00
 generalize (h8++[IX.lst<|cs.map tupC]).set R (IX.lst [])=h9 at k9 g9
 generalize h8.length=K at g9
 obtain⟨R',h10,e10,_,g10,x10⟩:=HA k9
 refine xiff (tofE<|(binE (JB (arg2 rfl rfl) e10)<|tupE (arg2 rfl rfl) rfl).trans<|Jz4 g10<|x10.get g9)<|xnil<|xseq<|xset<|Je rfl (xseq<|xset ?_)
 have k10:Kp h3 h10:=λi ob z=>x10.get<|k9 _ _ z
 have gK:=x10.get g9
 refine(YT ..).mpr<|Je (arg2 rfl rfl)<|WR.mono (Jra (k:=12) W.w W.hm few nms (λr hr=>(gl2 r hr).2.1) (k10 _ _ gS3)<|w3.kp k10) ?_
 rintro v h11 ⟨x11,ans⟩
 have gK:=x11.get gK
 have gS11:=x11.get<|k10 _ _ gS3
 obtain⟨q,ey,_⟩:=w.get<|Zb lA
 have aa:atI ys (a:Int)=Za (tp6 (rs.getD a rd) q):=JE<|by rw[Qm lA];exact ey
 have z0:((0:Nat):Int)*(Jh rs a).gap=0:=ZeN _
 have sp:spA rs a=(Jh rs a).due-(Jh rs a).late:=rfl
 have eqI:∀x y:Int,cEq (.int x) (.int y) h11=.ok (.bl<|decide (x=y)) h11:=λ_ _=>rfl
 have gtI:∀x y:Int,cGt (.int x) (.int y) h11=.ok (.bl<|decide (y<x)) h11:=λ_ _=>rfl
 rcases ans with⟨L,rfl,l1,l2,l3,l4⟩|⟨rfl,no⟩
 ·have:=ln.1 L l1 l2 l3 l4
  refine xseq<|xiff (tofE rfl)<|xnil<|xret<|Je ((binE rfl (addE (addE (ixtE (ixlE rfl rfl gK atP) rfl JN)<|ixtE (ixlE rfl rfl gK atP) rfl Qk) rfl)).trans<|eqI _ _)<|congrArg IV.bl<|decide_eq_true ?_
  show e=tO rs a o-(Jh rs a).late+((0:Nat):Int)*(Jh rs a).gap+(cm (tO rs a o) a (Jh rs a)<|tO rs a o-(Jh rs a).late+((0:Nat):Int)*(Jh rs a).gap).late+L
  unfold cm
  dsimp only
  split<;>omega
 ·have:=ln.2 no
  refine xseq<|xift (tofE rfl)<|xret<|Je ((binE rfl (addE (ixtE (ixlE rfl rfl gK atP) rfl JN)<|ixtE (ixlE rfl rfl gS11 aa) rfl QO)).trans<|gtI _ _)<|congrArg IV.bl<|decide_eq_true ?_
  show tO rs a o-(Jh rs a).late+((0:Nat):Int)*(Jh rs a).gap+(Jh rs a).due<e
  omega
end
end LW
end
namespace LW
open PySem L2 L3 L4
section
local macro_rules | `(tactic| bv_omega) => `(tactic| exact ⟨scOk.of (by decide +kernel), rfl, rfl, λ _ _ _ _ _ _ => by first | exact len1 λ _ => rfl | exact len2 λ _ _ => rfl | exact len3 λ _ _ _ => rfl | exact len4 λ _ _ _ _ => rfl⟩)
variable{K:W.Frag}{h:Zax}{mg:Str->Wx}{a:Zq}{oc kV dc pm cd ct:Ze}{od an:Wz}{sl:Wb}
theorem Jn0:FnB "is_whole" "is_whole" Jdi:=by bv_omega
theorem Jgp:FnB "is_whole_from" "is_whole_from" Jag:=by bv_omega
theorem Jm0:FnB "rounds_up" "rounds_up" Jci:=by bv_omega
theorem Jqw:FnB "is_name" "is_name" Jfd:=by bv_omega
theorem Jqv:FnB "is_hold" "is_hold" Jfc:=by bv_omega
theorem Jmw:FnB "lie_apart" "lie_apart" Jce:=by bv_omega
theorem Jqy:FnB "lies_in" "lies_in" Jff:=by bv_omega
theorem Jix:FnB "go_together" "go_together" Jax:=by bv_omega
theorem Jfp:FnB "all_go_together" "all_go_together" Jac:=by bv_omega
theorem Jmy:FnB "own_holds" "own_holds" Jcg:=by bv_omega
theorem Jqz:FnB "own_due" "own_due" Jfg:=by bv_omega
theorem Jmp:FnScope Qz.N Qz.ps (JV Qz.st):=scOk.of<|by decide +kernel
theorem Jmc{C T:Zq}{ox:Ze}{oy:Wz}{nx:Nat}{sx:Wb}{tk1:Tok}(ha:W.findIn K (.ref C) "__init__"=Za (Za<|.ref a))(hi:W.isFn K (.ref a)=Zh)(hl:K.lookup a=Za ⟨oc,od,.func<|W.fnOf "__init__" "Work.__init__" (Vb Qz.st) (Q0 Qz.st) (JV Qz.st) (.ref T) kV dc pm an cd ct,sl⟩)(hc:W.codeIn K cd "Work.__init__"=Zh)(hk:W.keepIn K (.ref a)=Zh)(hd:K.lookup T=Za ⟨ox,oy,.seq #[.none,.int 0 tk1,.none] nx,sx⟩)(hm:W.makesIn K C=Zh)(hq:W.keepIn K (.ref C)=Zh):∃fa fd,Mk K C fa/\DefOk K "__init__" Qz fa fd:=
 ⟨a,_,⟨hm,ha,hi,hq⟩,⟨⟨_,⟨oc,od,kV,dc,pm,an,cd,ct,sl,rfl,hl,hc⟩,hk⟩,Jmp,(by intro j hj;rcases J6o j (show j<=3 from hj)with rfl|rfl|rfl|rfl;exact⟨[.none,.int 0 tk1,.none],λs us Y hl=>len4 (P:=λus=>Zc7 s _ ⟨us,[]⟩<|Qz.ps.zip<|us++[.none,.int 0 tk1,.none]) (λ_ _ _ _=>.of_defaults rfl (Y T _ hd) rfl rfl rfl) us (show us.length=4 by rw[Zs]at hl;exact Zcd (m:=3) hl),rfl,[V.non,V.int 0,V.non],.cons rfl (.cons ⟨_,rfl⟩<|.cons rfl (.nil)),λ_ _=>⟨_,_,rfl,rfl,⟨_,_,rfl,rfl,⟨_,_,rfl,rfl,rfl⟩⟩⟩⟩;exact⟨[.int 0 tk1,.none],λs us Y hl=>len5 (P:=λus=>Zc7 s _ ⟨us,[]⟩<|Qz.ps.zip<|us++[.int 0 tk1,.none]) (λ_ _ _ _ _=>.of_defaults rfl (Y T _ hd) rfl rfl rfl) us (show us.length=5 by rw[Zs]at hl;exact Zcd (m:=2) hl),rfl,[V.int 0,V.non],.cons ⟨_,rfl⟩<|.cons rfl (.nil),λ_ _=>⟨_,_,rfl,rfl,⟨_,_,rfl,rfl,rfl⟩⟩⟩;exact⟨[.none],λs us Y hl=>len6 (P:=λus=>Zc7 s _ ⟨us,[]⟩<|Qz.ps.zip<|us++[.none]) (λ_ _ _ _ _ _=>.of_defaults rfl (Y T _ hd) rfl rfl rfl) us (show us.length=6 by rw[Zs]at hl;exact Zcd (m:=1) hl),rfl,[V.non],.cons rfl (.nil),λ_ _=>⟨_,_,rfl,rfl,rfl⟩⟩;exact⟨[],λs us Y hl=>len7 (P:=λus=>Zc7 s _ ⟨us,[]⟩<|Qz.ps.zip<|us++[]) (λ_ _ _ _ _ _ _=>.of_defaults rfl (Y T _ hd) rfl rfl rfl) us (show us.length=7 by rw[Zs]at hl;exact Zcd (m:=0) hl),rfl,[],.nil,λ_ _=>rfl⟩)⟩⟩
theorem Jmo:FnB "held" "Work.held" Jb7:=by bv_omega
theorem Jny:FnB "ceilings" "ceilings" Jdg:=by bv_omega
theorem Ji0:FnB "things_held" "things_held" Ja0:=by bv_omega
theorem Jtj:FnB "lifted" "lifted" Jgt:=by bv_omega
theorem Jkm:FnB "turns_held" "turns_held" Jbh:=by bv_omega
theorem Jh7:FnB "longest_hold" "longest_hold" Jam:=by bv_omega
theorem Jkj:FnB "comings_in" "comings_in" Jbe:=by bv_omega
theorem Jn4:FnB "thronged" "thronged" Jdm:=by bv_omega
theorem Jqu:FnB "hardest" "hardest" Jfb:=by bv_omega
theorem Jwd:FnB "ready" "ready" Jjv:=by bv_omega
theorem Jmq:FnB "is_coming" "is_coming" Jb8:=by bv_omega
theorem Jiw:FnB "first_wrong" "first_wrong" Jaw:=by bv_omega
theorem Jqt:FnB "checked" "checked" Jfa:=by bv_omega
theorem Jmx:FnB "next_stop" "next_stop" Jcf:=by bv_omega
theorem Jkf:FnB "__init__" "Bench.__init__" Jbb:=by bv_omega
theorem Jeg:FnB "next_ready" "Bench.next_ready" Jaa:=by bv_omega
theorem Jh5:FnB "let_in" "Bench.let_in" Jak:=by bv_omega
theorem Jfn:FnB "turns_for" "Bench.turns_for" Jab:=by bv_omega
theorem Jkg:FnB "tell" "Bench.tell" Jbc:=by bv_omega
theorem Jit:FnB "go_on" "Bench.go_on" Jau:=by bv_omega
theorem J38:FnB "run" "run" Juw:=by bv_omega
theorem Jmz:FnB "own_works" "own_works" Jch:=by bv_omega
theorem Jnz:FnB "crowd_of" "crowd_of" Jdh:=by bv_omega
theorem Jml:FnB "__init__" "Duty.__init__" Jb3:=by bv_omega
theorem Jmm:FnB "size" "Duty.size" Jb4:=by bv_omega
theorem Jmn:FnB "work" "Duty.work" Jb5:=by bv_omega
theorem Jkh:FnB "crowd" "Duty.crowd" Jc8:=by bv_omega
theorem Jki:FnB "__init__" "Order.__init__" Jbd:=by bv_omega
theorem Jgo:FnB "rank_of" "Order.rank_of" Ja7:=by bv_omega
theorem Jiv:FnB "holds" "Order.holds" Jb6:=by bv_omega
theorem Jfo:FnB "pick" "Order.pick" X6:=by bv_omega
theorem Jbs:FnB "standing" "Order.standing" X7:=by bv_omega
theorem Jiu:FnB "__init__" "ByRank.__init__" Jav:=by bv_omega
theorem Jf5:FnB "rank_of" "ByRank.rank_of" Jad:=by bv_omega
theorem Jh6:FnB "holds" "ByRank.holds" Jal:=by bv_omega
theorem Jiy:FnB "_law_cell_at" "_law_cell_at" Jay:=by bv_omega
theorem Jkl:FnB "_law_stream" "_law_stream" Jbg:=by bv_omega
theorem Jn3:FnB "_law_word" "_law_word" Jdl:=by bv_omega
theorem Jmr:FnB "_law_holds" "_law_holds" Jb9:=by bv_omega
theorem Jmt:FnB "_law_plain" "_law_plain" Jcb:=by bv_omega
theorem Jn2:FnB "_law_some" "_law_some" Jdk:=by bv_omega
theorem Jmv:FnB "_law_whole" "_law_whole" Jcd:=by bv_omega
theorem Jmu:FnB "_law_right" "_law_right" Jcc:=by bv_omega
theorem Jms:FnB "_law_legal" "_law_legal" Jca:=by bv_omega
theorem Jiz:FnB "_law_comings" "_law_comings" Jaz:=by bv_omega
theorem Jn1:FnB "_law_load" "_law_load" Jdj:=by bv_omega
theorem Jkk:FnB "_law_answer" "_law_answer" Jbf:=by bv_omega
theorem Jqx:FnB "_law_end" "_law_end" Jfe:=by bv_omega
theorem Jgq:FnB "_law_no_longer" "_law_no_longer" Jah:=by bv_omega
theorem J37:FnScope Va.N Va.ps (JV Va.st):=scOk.of<|by decide +kernel
theorem J29(X:K.In h)(G:h.Ns Z5 mg)(ha:W.nsIn K Z5 "law"=Za (Za<|.ref a))(hl:K.lookup a=Za ⟨oc,od,.func<|W.fnOf "law" "law" (Vb Va.st) (Q0 Va.st) (JV Va.st) .none kV dc pm an cd ct,sl⟩)(hc:W.codeIn K cd "law"=Zh)(hk:W.keepIn K (.ref a)=Zh):∃fa fd,mg "law"=Za (.ref fa)/\DefOk K "law" Va fa fd/\∀(s:Zn) (v:Ze),Zc7 s fd ⟨[v],[]⟩ [("_law_script",v)]:=
 ⟨a,_,W.mg_of X G ha,Jxf (d:=Va) hl hc hk J37 rfl (len1 λ_=>rfl),λs v=>.of_eq rfl⟩
theorem YA(pg:W.plainGet K C Str.empty=Zh)(hd:W.hasDictIn K C=Zh)(po:W.plainOver K C=Zh)(sa:W.findIn K (.ref C) "__setattr__"=Za (Za<|.builtin "object.__setattr__"))(h1:W.findIn K (.ref C) "__class__"=Za (Za<|.builtin "object.__class__"))(h2:W.specialIn K (.builtin "object.__class__") "__get__"=Za (Za<|.builtin "getset_descriptor.__get__"))(h3:W.takesIn K (.builtin "object.__class__")=Za Zh)(h4:W.mroIn K C (.type "object")=Za Zh)(n0:W.findIn K (.ref C) "append"=Za Zc)(n1:W.findIn K (.ref C) "clear"=Za Zc)(n2:W.findIn K (.ref C) "dones"=Za Zc)(n3:W.findIn K (.ref C) "due"=Za Zc)(n4:W.findIn K (.ref C) "duty"=Za Zc)(n5:W.findIn K (.ref C) "extend"=Za Zc)(n6:W.findIn K (.ref C) "gap"=Za Zc)(n7:W.findIn K (.ref C) "hold_tuples"=Za Zc)(n8:W.findIn K (.ref C) "join"=Za Zc)(n9:W.findIn K (.ref C) "late"=Za Zc)(n10:W.findIn K (.ref C) "later"=Za Zc)(n11:W.findIn K (.ref C) "length"=Za Zc)(n12:W.findIn K (.ref C) "name"=Za Zc)(n13:W.findIn K (.ref C) "order"=Za Zc)(n14:W.findIn K (.ref C) "place"=Za Zc)(n15:W.findIn K (.ref C) "pop"=Za Zc)(n16:W.findIn K (.ref C) "remove"=Za Zc)(n17:W.findIn K (.ref C) "row"=Za Zc)(n18:W.findIn K (.ref C) "setdefault"=Za Zc)(n19:W.findIn K (.ref C) "stretches"=Za Zc)(n20:W.findIn K (.ref C) "tops"=Za Zc)(n21:W.findIn K (.ref C) "turn"=Za Zc)(n22:W.findIn K (.ref C) "waiting"=Za Zc)(n23:W.findIn K (.ref C) "works"=Za Zc):ClsI K C/\All (λf=>QM K C f) T.flds:=
 ⟨⟨⟨pg,hd,po,sa⟩,h1,h2,h3,h4⟩,.cons n0<|.cons n1<|.cons n2<|.cons n3<|.cons n4<|.cons n5<|.cons n6<|.cons n7<|.cons n8<|.cons n9<|.cons n10<|.cons n11<|.cons n12<|.cons n13<|.cons n14<|.cons n15<|.cons n16<|.cons n17<|.cons n18<|.cons n19<|.cons n20<|.cons n21<|.cons n22<|.cons n23<|.nil⟩
theorem J28(sp:W.specialIn K (.ref C) "__getattribute__"=Za (Za<|.builtin "type.__getattribute__"))(rd:W.readsIn K C (.type "type")=Zh)(fi:W.findIn K (.ref C) "__init__"=Za (Za<|.ref a))(fc:W.findCls K (.ref C) (.type "type") "__init__"=Za (.val<|.ref a))(kp:W.keepIn K (.ref a)=Zh):BasK K C:=⟨sp,rd,a,fi,fc,kp⟩
abbrev DfO(K:W.Frag)(mg:Str->Wx)(x:Str)(d:D4):Prop:=∃fa fd,mg x=Za (.ref fa)/\DefOk K x d fa fd
abbrev DmO(K:W.Frag)(C:Zq)(x:Str)(d:D4):Prop:=∃fa fd,Meth K C x fa/\DefOk K x d fa fd
theorem fin{prog:ZB}{w:ZV}(X:K.In h)(G:h.Ns Z5 mg)(hfa:mg "law"=Za (.ref fa)){C_Work C_Bench C_Duty C_Order C_ByRank:Zq}{tk_MOST_LETTERS tk_MOST_HOLDS tk_THING tk_START tk_END tk_MOST_COMINGS tk_AT tk_COME:Tok}{tk_LATE tk_LENGTH tk_PLACE tk_FROM tk_MOST_WORKS tk_MOST_CROWD:Tok}
  (aC_Work:W.nsIn K Z5 "Work"=Za (Za<|.ref C_Work))
  (aC_Bench:W.nsIn K Z5 "Bench"=Za (Za<|.ref C_Bench))
  (aC_Duty:W.nsIn K Z5 "Duty"=Za (Za<|.ref C_Duty))
  (aC_Order:W.nsIn K Z5 "Order"=Za (Za<|.ref C_Order))
  (aC_ByRank:W.nsIn K Z5 "ByRank"=Za (Za<|.ref C_ByRank))
  (f_is_whole:DfO K mg "is_whole" Jdi)
  (f_is_whole_from:DfO K mg "is_whole_from" Jag)
  (f_rounds_up:DfO K mg "rounds_up" Jci)
  (f_is_name:DfO K mg "is_name" Jfd)
  (f_is_hold:DfO K mg "is_hold" Jfc)
  (f_lie_apart:DfO K mg "lie_apart" Jce)
  (f_lies_in:DfO K mg "lies_in" Jff)
  (f_go_together:DfO K mg "go_together" Jax)
  (f_all_go_together:DfO K mg "all_go_together" Jac)
  (f_own_holds:DfO K mg "own_holds" Jcg)
  (f_own_due:DfO K mg "own_due" Jfg)
  (f_ceilings:DfO K mg "ceilings" Jdg)
  (f_things_held:DfO K mg "things_held" Ja0)
  (f_lifted:DfO K mg "lifted" Jgt)
  (f_turns_held:DfO K mg "turns_held" Jbh)
  (f_longest_hold:DfO K mg "longest_hold" Jam)
  (f_comings_in:DfO K mg "comings_in" Jbe)
  (f_thronged:DfO K mg "thronged" Jdm)
  (f_hardest:DfO K mg "hardest" Jfb)
  (f_ready:DfO K mg "ready" Jjv)
  (f_is_coming:DfO K mg "is_coming" Jb8)
  (f_first_wrong:DfO K mg "first_wrong" Jaw)
  (f_checked:DfO K mg "checked" Jfa)
  (f_next_stop:DfO K mg "next_stop" Jcf)
  (f_run:DfO K mg "run" Juw)
  (f_own_works:DfO K mg "own_works" Jch)
  (f_crowd_of:DfO K mg "crowd_of" Jdh)
  (f_law_cell_at:DfO K mg "_law_cell_at" Jay)
  (f_law_stream:DfO K mg "_law_stream" Jbg)
  (f_law_word:DfO K mg "_law_word" Jdl)
  (f_law_holds:DfO K mg "_law_holds" Jb9)
  (f_law_plain:DfO K mg "_law_plain" Jcb)
  (f_law_some:DfO K mg "_law_some" Jdk)
  (f_law_whole:DfO K mg "_law_whole" Jcd)
  (f_law_right:DfO K mg "_law_right" Jcc)
  (f_law_legal:DfO K mg "_law_legal" Jca)
  (f_law_comings:DfO K mg "_law_comings" Jaz)
  (f_law_load:DfO K mg "_law_load" Jdj)
  (f_law_answer:DfO K mg "_law_answer" Jbf)
  (f_law_end:DfO K mg "_law_end" Jfe)
  (f_law_no_longer:DfO K mg "_law_no_longer" Jah)
  (f_law:∃fa fd,mg "law"=Za (.ref fa)/\DefOk K "law" Va fa fd/\∀(s:Zn) (v:Ze),Zc7 s fd ⟨[v],[]⟩ [("_law_script",v)])
  (i_Work:∃fa fd,Mk K C_Work fa/\DefOk K "__init__" Qz fa fd)
  (m_Work_held:DmO K C_Work "held" Jb7)
  (c_Work:ClsI K C_Work/\All (λf=>QM K C_Work f) T.flds)
  (i_Bench:∃fa fd,Mk K C_Bench fa/\DefOk K "__init__" Jbb fa fd)
  (m_Bench_next_ready:DmO K C_Bench "next_ready" Jaa)
  (m_Bench_let_in:DmO K C_Bench "let_in" Jak)
  (m_Bench_turns_for:DmO K C_Bench "turns_for" Jab)
  (m_Bench_tell:DmO K C_Bench "tell" Jbc)
  (m_Bench_go_on:DmO K C_Bench "go_on" Jau)
  (c_Bench:ClsI K C_Bench/\All (λf=>QM K C_Bench f) T.flds)
  (i_Duty:∃fa fd,Mk K C_Duty fa/\DefOk K "__init__" Jb3 fa fd)
  (m_Duty_size:DmO K C_Duty "size" Jb4)
  (m_Duty_work:DmO K C_Duty "work" Jb5)
  (m_Duty_crowd:DmO K C_Duty "crowd" Jc8)
  (c_Duty:ClsI K C_Duty/\All (λf=>QM K C_Duty f) T.flds)
  (i_Order:∃fa fd,Mk K C_Order fa/\DefOk K "__init__" Jbd fa fd)
  (m_Order_rank_of:DmO K C_Order "rank_of" Ja7)
  (m_Order_holds:DmO K C_Order "holds" Jb6)
  (m_Order_pick:DmO K C_Order "pick" X6)
  (m_Order_standing:DmO K C_Order "standing" X7)
  (c_Order:ClsI K C_Order/\All (λf=>QM K C_Order f) T.flds)
  (i_ByRank:∃fa fd,Mk K C_ByRank fa/\DefOk K "__init__" Jav fa fd)
  (m_ByRank_rank_of:DmO K C_ByRank "rank_of" Jad)
  (m_ByRank_holds:DmO K C_ByRank "holds" Jal)
  (m_ByRank_pick:DmO K C_ByRank "pick" X6)
  (m_ByRank_standing:DmO K C_ByRank "standing" X7)
  (c_ByRank:ClsI K C_ByRank/\All (λf=>QM K C_ByRank f) T.flds)
  (g_MOST_LETTERS:W.nsIn K Z5 "MOST_LETTERS"=Za (Za<|.int 8 tk_MOST_LETTERS))
  (g_MOST_HOLDS:W.nsIn K Z5 "MOST_HOLDS"=Za (Za<|.int 6 tk_MOST_HOLDS))
  (g_THING:W.nsIn K Z5 "THING"=Za (Za<|.int 0 tk_THING))
  (g_START:W.nsIn K Z5 "START"=Za (Za<|.int 1 tk_START))
  (g_END:W.nsIn K Z5 "END"=Za (Za<|.int 2 tk_END))
  (g_MOST_COMINGS:W.nsIn K Z5 "MOST_COMINGS"=Za (Za<|.int 200 tk_MOST_COMINGS))
  (g_AT:W.nsIn K Z5 "AT"=Za (Za<|.int 0 tk_AT))
  (g_COME:W.nsIn K Z5 "COME"=Za (Za<|.int 1 tk_COME))
  (g_LATE:W.nsIn K Z5 "LATE"=Za (Za<|.int 2 tk_LATE))
  (g_LENGTH:W.nsIn K Z5 "LENGTH"=Za (Za<|.int 3 tk_LENGTH))
  (g_PLACE:W.nsIn K Z5 "PLACE"=Za (Za<|.int 0 tk_PLACE))
  (g_FROM:W.nsIn K Z5 "FROM"=Za (Za<|.int 1 tk_FROM))
  (g_MOST_WORKS:W.nsIn K Z5 "MOST_WORKS"=Za (Za<|.int 12 tk_MOST_WORKS))
  (g_MOST_CROWD:W.nsIn K Z5 "MOST_CROWD"=Za (Za<|.int 80 tk_MOST_CROWD))
  (k_Work_NoneType:W.kitOne K (.type "NoneType") (.ref C_Work)=Za Zk)
  (k_Work_bool:W.kitOne K (.type "bool") (.ref C_Work)=Za Zk)
  (k_Work_int:W.kitOne K (.type "int") (.ref C_Work)=Za Zk)
  (k_Work_str:W.kitOne K (.type "str") (.ref C_Work)=Za Zk)
  (k_Work_list:W.kitOne K (.type "list") (.ref C_Work)=Za Zk)
  (k_Work_tuple:W.kitOne K (.type "tuple") (.ref C_Work)=Za Zk)
  (k_Work_dict:W.kitOne K (.type "dict") (.ref C_Work)=Za Zk)
  (k_Work_Work:W.kitOne K (.ref C_Work) (.ref C_Work)=Za (memS "Work" ["Work"]))
  (k_Work_Bench:W.kitOne K (.ref C_Bench) (.ref C_Work)=Za (memS "Bench" ["Work"]))
  (k_Work_Duty:W.kitOne K (.ref C_Duty) (.ref C_Work)=Za (memS "Duty" ["Work"]))
  (k_Work_Order:W.kitOne K (.ref C_Order) (.ref C_Work)=Za (memS "Order" ["Work"]))
  (k_Work_ByRank:W.kitOne K (.ref C_ByRank) (.ref C_Work)=Za (memS "ByRank" ["Work"]))
  (z_all:W.nsIn K Z5 "all"=Za Zc)
  (z_bool:W.nsIn K Z5 "bool"=Za Zc)
  (z_enumerate:W.nsIn K Z5 "enumerate"=Za Zc)
  (z_int:W.nsIn K Z5 "int"=Za Zc)
  (z_isinstance:W.nsIn K Z5 "isinstance"=Za Zc)
  (z_len:W.nsIn K Z5 "len"=Za Zc)
  (z_list:W.nsIn K Z5 "list"=Za Zc)
  (z_max:W.nsIn K Z5 "max"=Za Zc)
  (z_min:W.nsIn K Z5 "min"=Za Zc)
  (z_range:W.nsIn K Z5 "range"=Za Zc)
  (z_set:W.nsIn K Z5 "set"=Za Zc)
  (z_sorted:W.nsIn K Z5 "sorted"=Za Zc)
  (z_str:W.nsIn K Z5 "str"=Za Zc)
  (z_sum:W.nsIn K Z5 "sum"=Za Zc)
  (z_tuple:W.nsIn K Z5 "tuple"=Za Zc)
  (bs_Order:BasK K C_Order)
  : ∃fd:ZaH,(∀(s:Zn) (v:Ze),Zc7 s fd ⟨[v],[]⟩ [("_law_script",v)])/\∀base:Zax,K.In base->base.Ns Z5 mg->QB mg base->FnOk prog w K mg base (CXI prog w) 64 fa fd ["_law_script"] (Yc K "_law_script"<|Xz 16):=by
 obtain⟨fa',fd,hm,ok,hb⟩:=f_law
 have e:=hfa.symm.trans hm
 cases e
 have O:TabOk (ceOf [("Work",C_Work),("Bench",C_Bench),("Duty",C_Duty),("Order",C_Order),("ByRank",C_ByRank)]) T K mg:=J4e _
  (.cons (f_is_whole)<|.cons (f_is_whole_from)<|.cons (f_rounds_up)<|.cons (f_is_name)<|.cons (f_is_hold)<|.cons (f_lie_apart)<|.cons (f_lies_in)<|.cons (f_go_together)<|.cons (f_all_go_together)<|.cons (f_own_holds)<|.cons (f_own_due)<|.cons (f_ceilings)<|.cons (f_things_held)<|.cons (f_lifted)<|.cons (f_turns_held)<|.cons (f_longest_hold)<|.cons (f_comings_in)<|.cons (f_thronged)<|.cons (f_hardest)<|.cons (f_ready)<|.cons (f_is_coming)<|.cons (f_first_wrong)<|.cons (f_checked)<|.cons (f_next_stop)<|.cons (f_run)<|.cons (f_own_works)<|.cons (f_crowd_of)<|.cons (f_law_cell_at)<|.cons (f_law_stream)<|.cons (f_law_word)<|.cons (f_law_holds)<|.cons (f_law_plain)<|.cons (f_law_some)<|.cons (f_law_whole)<|.cons (f_law_right)<|.cons (f_law_legal)<|.cons (f_law_comings)<|.cons (f_law_load)<|.cons (f_law_answer)<|.cons (f_law_end)<|.cons (f_law_no_longer)<|.cons (⟨_,_,hm,ok⟩)<|.nil)
  (.cons ((let ⟨fa,fd,p,q⟩:=i_Work;⟨C_Work,fa,fd,W.mg_of X G aC_Work,02,p,q⟩))<|.cons ((let ⟨fa,fd,p,q⟩:=i_Bench;⟨C_Bench,fa,fd,W.mg_of X G aC_Bench,02,p,q⟩))<|.cons ((let ⟨fa,fd,p,q⟩:=i_Duty;⟨C_Duty,fa,fd,W.mg_of X G aC_Duty,02,p,q⟩))<|.cons ((let ⟨fa,fd,p,q⟩:=i_Order;⟨C_Order,fa,fd,W.mg_of X G aC_Order,02,p,q⟩))<|.cons ((let ⟨fa,fd,p,q⟩:=i_ByRank;⟨C_ByRank,fa,fd,W.mg_of X G aC_ByRank,02,p,q⟩))<|.nil)
  (.cons (⟨C_Work,02,.cons (m_Work_held)<|.nil⟩)<|.cons (⟨C_Bench,02,.cons (m_Bench_next_ready)<|.cons (m_Bench_let_in)<|.cons (m_Bench_turns_for)<|.cons (m_Bench_tell)<|.cons (m_Bench_go_on)<|.nil⟩)<|.cons (⟨C_Duty,02,.cons (m_Duty_size)<|.cons (m_Duty_work)<|.cons (m_Duty_crowd)<|.nil⟩)<|.cons (⟨C_Order,02,.cons (m_Order_rank_of)<|.cons (m_Order_holds)<|.cons (m_Order_pick)<|.cons (m_Order_standing)<|.nil⟩)<|.cons (⟨C_ByRank,02,.cons (m_ByRank_rank_of)<|.cons (m_ByRank_holds)<|.cons (m_ByRank_pick)<|.cons (m_ByRank_standing)<|.nil⟩)<|.nil)
  (.cons (⟨_,.int 8,W.mg_of X G g_MOST_LETTERS,⟨tk_MOST_LETTERS,rfl⟩,λ_ _=>rfl⟩)<|.cons (⟨_,.int 6,W.mg_of X G g_MOST_HOLDS,⟨tk_MOST_HOLDS,rfl⟩,λ_ _=>rfl⟩)<|.cons (⟨_,.int 0,W.mg_of X G g_THING,⟨tk_THING,rfl⟩,λ_ _=>rfl⟩)<|.cons (⟨_,.int 1,W.mg_of X G g_START,⟨tk_START,rfl⟩,λ_ _=>rfl⟩)<|.cons (⟨_,.int 2,W.mg_of X G g_END,⟨tk_END,rfl⟩,λ_ _=>rfl⟩)<|.cons (⟨_,.int 200,W.mg_of X G g_MOST_COMINGS,⟨tk_MOST_COMINGS,rfl⟩,λ_ _=>rfl⟩)<|.cons (⟨_,.int 0,W.mg_of X G g_AT,⟨tk_AT,rfl⟩,λ_ _=>rfl⟩)<|.cons (⟨_,.int 1,W.mg_of X G g_COME,⟨tk_COME,rfl⟩,λ_ _=>rfl⟩)<|.cons (⟨_,.int 2,W.mg_of X G g_LATE,⟨tk_LATE,rfl⟩,λ_ _=>rfl⟩)<|.cons (⟨_,.int 3,W.mg_of X G g_LENGTH,⟨tk_LENGTH,rfl⟩,λ_ _=>rfl⟩)<|.cons (⟨_,.int 0,W.mg_of X G g_PLACE,⟨tk_PLACE,rfl⟩,λ_ _=>rfl⟩)<|.cons (⟨_,.int 1,W.mg_of X G g_FROM,⟨tk_FROM,rfl⟩,λ_ _=>rfl⟩)<|.cons (⟨_,.int 12,W.mg_of X G g_MOST_WORKS,⟨tk_MOST_WORKS,rfl⟩,λ_ _=>rfl⟩)<|.cons (⟨_,.int 80,W.mg_of X G g_MOST_CROWD,⟨tk_MOST_CROWD,rfl⟩,λ_ _=>rfl⟩)<|.nil)
  (.cons (c_Work)<|.cons (c_Bench)<|.cons (c_Duty)<|.cons (c_Order)<|.cons (c_ByRank)<|.nil)
  (.cons (⟨C_Work,W.mg_of X G aC_Work,k_Work_NoneType,k_Work_bool,k_Work_int,k_Work_str,k_Work_list,k_Work_tuple,k_Work_dict,.cons (k_Work_Work)<|.cons (k_Work_Bench)<|.cons (k_Work_Duty)<|.cons (k_Work_Order)<|.cons (k_Work_ByRank)<|.nil⟩)<|.nil)
  (.cons (W.mg_none_of X G z_all)<|.cons (W.mg_none_of X G z_bool)<|.cons (W.mg_none_of X G z_enumerate)<|.cons (W.mg_none_of X G z_int)<|.cons (W.mg_none_of X G z_isinstance)<|.cons (W.mg_none_of X G z_len)<|.cons (W.mg_none_of X G z_list)<|.cons (W.mg_none_of X G z_max)<|.cons (W.mg_none_of X G z_min)<|.cons (W.mg_none_of X G z_range)<|.cons (W.mg_none_of X G z_set)<|.cons (W.mg_none_of X G z_sorted)<|.cons (W.mg_none_of X G z_str)<|.cons (W.mg_none_of X G z_sum)<|.cons (W.mg_none_of X G z_tuple)<|.nil)
  (.cons (⟨C_Order,W.mg_of X G aC_Order,bs_Order⟩)<|.nil)
 exact⟨fd,hb,λbase _ _ B=>Jzq O (λ_=>B) 16 rfl ok⟩
end
end LW
open PySem L2
theorem LW.walk{l:W.OpenLaw}{q:ZB}{loose:Tg}{XP:(Str->Wx)->Zax->Prop}{YP:ZV->Zax->Prop}{d:DefRec}{K:Params->W.Frag}{ts:Tp}(hn:l.most=Za 63)(hdf:d.params.defaults=[])
  (hY:∀(w:ZV) (h:Zax),YP w h->(K w.params).In h/\∀p∈ts,h.get? p=Za (W.tabObj #[]))(hc:∀w:ZV,L4.Vu (K w.params) ["Order.pick","Bench.__init__","longest_hold"] ts=Zh)
  (F:∀(w:ZV)(mg:Str->Wx)(fa:Zq)(h:Zax),(K w.params).In h->h.Ns Z5 mg->mg d.name=Za (.ref fa) ->
   ∃fd:ZaH,(∀(s:Zn) (u:Ze),Zc7 s fd ⟨[u],[]⟩ [("_law_script",u)])/\∀base:Zax,(K w.params).In base->base.Ns Z5 mg->L3.QB mg base->FnOk l.prog w (K w.params) mg base (L3.CXI l.prog w) 64 fa fd ["_law_script"] (L3.Yc (K w.params) "_law_script"<|LW.Xz 16)):
  W.WalkO q loose XP YP l.row.toRowW d [] (λf vs=>PySem.call f vs):=
 L4.Jwy (n:=63) (k:=64) (x:="_law_script") (f:=LW.Xz 16) (qs:=["Order.pick","Bench.__init__","longest_hold"]) (ts:=ts) hn 01 hdf ⟨rfl,01,01⟩ hY hc F λns hl=>LW.Jvr ns hl
open PySem PySem.W PyProof.Rows
structure PySem.W.Fast:Prop where (tw6596704726562651997 tw16800079308080217593 tw13709002967687082061 tw1584586334482396469 tw1485488789620641680 tw12330501897576627507 tw678061140623280794 tw14832748585301949735 tw4248666076493573133 tw6818143655596940637
tw12779532710275719532 tw12815970627160171463 tw13273558600012595239 tw15234026976038893813 tw11364085921989210641 tw4999975493655936104 tw16731783739332748747 tw3061382031761739419 tw5299395207167223580 tw5846101966561436997
tw15157462697120970761 tw2828415783796795464 tw17517881121160619438 tw2552988516097017936 tw5427289064557451952 tw6423360606523872380 tw14590097361615398330 tw17284166379867840970 tw830451764956375214 tw16120001961247220499
tw7451358162331207997 tw5532157401950894719 tw10304363346529310542 tw7170841321735631452 tw1808635329629059285 tw8800854334425291050 tw12569649079960679281 tw4117339324004735272 tw14504487702405906609 tw8533049824822368800
tw1312974702104873153 tw1242523941825974918 tw16801650135420442459 tw8946454652972419364 tw6549670015468495236 tw15061785206336511571 tw1848748958077531666 tw6905340141490583577 tw1005717029857155186 tw7126355915663866038
tw11312823644080372873 tw6331679949941931387 tw7731291042523764417 tw9835012919644882765 tw17178502778839789915 tw6225180870346195421 tw15164953162974048470 tw15401022405278537626 tw15008989602293072685 tw8912458442906998854
tw9219880535482212052 tw16117198999592547682 tw5835213159700122343 tw16016906329776903446 tw2860895717734497947 tw5851469985391011922 tw15676141234635231742 tw13769681560588072100 tw14905433575453223245 tw6711819026268396206
tw3280852172405157330 tw13919576070058104708 tw6586301170168775144 tw11873816674666640288 tw14521342157910805012 tw3675155638990013068 tw15953417883763841309 tw14862686870868313145 tw3702523841425878795 tw9580042590095085370
tw9967451933891551551 tw14234172520766617703 tw16673256099001860621 tw17914827135497387496 tw17464309960080027192 tw18105768864099696259 tw6743462796062201460 tw1140577985485855630 tw9402732075038513963 tw15977131582489998315
tw17283565083835992636 tw15897575422639521388 tw8380236668177782266 tw206461272353173069 tw17762617010815371132 tw11595750488463725264 tw5779723228560010231 tw4447720845313000728 tw9282918170588938461 tw685290685188869205
tw3169500674061397928 tw15051589044012414761 tw11997771906883129842 tw5188646146518485927 tw15565948889853766086 tw8017013940183809407 tw14488697946010987381 tw15097981072489161351 tw512702906429638010 tw7045098339584036532
tw10179580880685611523 tw8034689578609495092 tw8092341004710802565 tw85108072497397885 tw406880142040996915 tw9553211215762268028 tw9168258137964352665 tw8640981461452011132 tw13449713448137515624 tw11942637234930069482
tw3894800546560034846 tw14680357455489890228 tw2323473422029742477 tw16521645053215035077 tw709474611985319255 tw12428264187530550609 tw2552494311635334658 tw3048516871835009041 tw12615587755859080970 tw6037013567625666873
tw5245586497604151494 tw3635420173708182311 tw16276051580382811233 tw18341619106646068778 tw5702203625109449602 tw12182728029303764469 tw13697997907001138177 tw6918523918110282696 tw13267956205928295163 tw15633598554157673138
tw18135036342897893885 tw3905237183754919470 tw12700792036694129116 tw2333071071071949259 tw5764903436521912325 tw18350862077607236113 tw8067746029565809692 tw7686544010253290442 tw17013563373680272555 tw9006024382283640039
tw14828414611398941704 tw9244531478476308395 tw6632852186748936577 tw15899365130264638839 tw11631731751972046927 tw7683945360643356072 tw2827992338185135468 tw13705108469428610556 tw11333842087320367497 tw16660866620168079311
tw8010290244610282385 tw11754498287075450979 tw12815409836350497011 tw5374756194010474089 tw15616677675803568387 tw4235332939368052511 tw16924813132575683866 tw14695420906326648941 tw16373576480904701436 tw9750128739090930814
tw3926449358533861873 tw11199165542288839753 tw12124068197573100659 tw28572049724780215 tw6934625442060308764 tw10113469633990953638 tw12492945299343012985 tw3270376808394281256 tw4854697470561161676 tw5724545992296902747
tw16384973107510776717 tw8301520758590202484 tw16984421725471307896 tw14378929139621775250 tw5022558677533111934 tw10499016060631772024 tw6475113509907609569 tw2436890785431751764 tw15388854368708102101 tw17879243715740121775
tw237414521507249724 tw6717823437237418129 tw13601289043457407580 tw726054023228224805 tw7727480711758698010 tw4013366989826784362 tw8377128341553897572 tw11009057930612855026 tw122149175110174475 tw18151149470593593483
tw1789642319469702660 tw8335447319552749164 tw1050660538152049577 tw12163621565088303098 tw13850305520582393796 tw5871058450869247676 tw12091800777030025427 tw9020251768847431319 tw7149012557781827741 tw16775011201475700157
tw1948841204723464449 tw9293286346442495005 tw15258162100669210207 tw17934494395384177494 tw10028690076108781540 tw512004878146510334 tw14440183649949223778 tw5648383606117973708 tw5068608268202280313 tw6824315000420585438
tw2098246713275753611 tw16105551763369701465 tw6460446290033340421 tw7240398261417709383 tw1852082051334401128 tw4758391349305013936 tw13846346912151978886 tw7747795906274553554 tw17649254175272469027 tw6210699351779061430
tw14750972540834221544 tw17293434406429333844 tw15690454461579426752 tw11436303934239798319 tw10673410611778521751 tw12828597045948610700 tw14253559436302865163 tw11817251611842450340 tw13627335834611156216 tw13155872177329161757
tw6430710275096009199 tw9962344290754790332 tw14532247127587819121 tw2434653228749075036 tw14447165331762626181 tw593407151417709462 tw141198152399496651 tw9173294101301888577 tw9492775118592689063 tw16514804271392723505
tw3809414534977515321 tw11795646816636513037 tw17843554038234751537 tw14989221415069976704 tw4090838522176716422 tw10935298477547125334 tw2815848105639272589 tw5767426212163474319 tw675629858654738319 tw16639356635948329028
tw2828734421493993920 tw198813575055598439 tw2646302144107266440 tw12719946280417634115 tw995938850585489710 tw13374056477633212114 tw640197178956668834 tw11617233539206046746 tw5311397279155097180 tw4944983369114949893
tw11931434125304895773 tw11278027169400967018 tw12394426385547494123 tw15750186934562944265 tw2614811875329778502 tw3135197152059243951 tw7890872788668836357 tw7646110326780209085 tw7715702659517594268 tw14827948485609737201
tw16998957234072265766 tw66759915020053056 tw11565021717564747846 tw17587845002169412249 tw8230730939304710254 tw13744456488050647522 tw5949840252858656200 tw4655341203592811630 tw18133518698803637067 tw16479641065343257124
tw17875797472198463625 tw6163442217323981789 tw14233338366568609102 tw7965439331712062868 tw13146199831390385254 tw12024362168160021707 tw3309382903561959876 tw4988974671675301972 tw7370446994202390060 tw351428168834707182
tw8751726628442074909 tw5726945808542135685 tw17623775049486391972 tw11192866295587156657 tw13142401748011552120 tw16462581549907094953 tw8760124964963980160 tw1300695722880370519 tw12266991984175765565 tw10100382233665185802
tw15120139801646191924 tw16641916424049976815 tw163157761136379110 tw15553949734750676961 tw10353948610179764022 tw6214863440092920338 tw17522485488729501392 tw6376248804456044228 tw10529937988333819245 tw18297364230464093335
tw59342463449498292 tw2048912853326718189 tw4438036385832257040 tw14025054688741872124 tw15693808901987430131 tw18285722256414295055 tw14389521418515258020 tw16291825389851517906 tw6451759289596105177 tw15887322097073699493
tw7250364741483682517 tw9546842295430896738 tw14187321248333253849 tw6741242185125993441 tw13749987200248079991 tw10249882191684566690 tw5237944514754577104 tw6799030620665112049 tw14912800202047692341 tw16275208937772542298
tw2356560491833640825 tw3498148917949484145 tw4373172727369680755 tw1652214562549219212 tw5138445458465978653 tw12003252367732833215 tw8231548870614121789 tw15417164836934502492 tw15011219967186563721 tw6781066378618138994
tw1243564475053200642 tw10927731351764007203 tw8895568537348938451 tw12555168575934708223 tw16595698581994363900 tw9829921911262030865 tw16615905018846091342 tw11588402117470406522 tw7000702270101255988 tw11447793457582655295
tw9991666610284042311 tw14130156541970143906 tw3382146308668024988 tw1787591789326979620 tw12391232339580326306 tw491890354892053377 tw6911314034898812016 tw16987047389389773864 tw15944876858236314988 tw5420537416764233277
tw315241471947591751 tw8546315959639865890 tw9978376638128235989 tw11667317451979333741 tw8839040942896118050 tw7221111648908197682 tw7078730543345925012 tw16455380034949644242 tw1615476673152521877 tw16211974011437791970
tw12280979936491610231 tw2252525976837019687 tw11558758993219505288 tw5821591348451667360 tw11268464337952422021 tw14840854501844044232 tw14674921255675582693 tw221713638876331896 tw9857669781374702968 tw10240988522939826049
tw13890014048252300945 tw10556049840625968270 tw6138505374686163331 tw2712380694769843572 tw4934108819789324322 tw16600823164456144900 tw1460494958255064042 tw9087987256016020265 tw279649381900149102 tw4310901180869454172
tw11575586244745041589 tw1743973934663497679 tw15301144211125518287 tw9162961871623456321 tw6877249559881447299 tw17689382042387600011 tw381933576693359021 tw10297964156498798319 tw16188109225103769054 tw6218487543280133082
tw12182302296089616142 tw7943391829836911888 tw298718935838496153 tw16265263869682721572 tw14584149362563188055 tw9808755031166681947 tw1039901527611353696 tw11507798865186433253 tw6574269747678590883 tw16744925671143624207
tw10450843842243415367 tw13868896067269249380 tw9575514671078708727 tw3819013190563676583 tw9372540540141961671 tw8990086975865665149 tw1395576112106590097 tw2990983934055182080 tw15253248073552699977 tw6003306605626518771
tw48704078524856420 tw1471823653328494980 tw16988835822320218631 tw17238788665383278380 tw16200170032930389513 tw12673897409665660701 tw12312041554052479838 tw10326958964380450996 tw5779572538731036026 tw11756089175002004679
tw15426221173974534780 tw8911994105712648129 tw3905601468863948824 tw7696137369846727709 tw12527860314364294908 tw1166404834729224141 tw1259863019190352971 tw12035653457850776544 tw8524454362834171505 tw574064700773402245
tw5650401032524026637 tw14336827662300006873 tw5926548769572896144 tw1138109185413996565 tw522379327507614084 tw11090076596260206143 tw16259348160591349242 tw13141749504923097266 tw622129022374179755 tw11072421028288027627
tw4314529679193533557 tw18063373885723799605 tw8600789019869523267 tw10687723020582195702 tw16404667355879630711 tw17333866429805750595 tw13612811917624856549 tw7020945547677410520 tw4863516341493606247 tw14975266769233012876
tw6492733750132350253 tw5134674519142814522 tw18226087166011329431 tw13382961390175977323 tw5093338103480122273 tw7945622643276246913 tw11389864569343420939 tw6657847186654767711 tw3643840888675416029 tw9140494970407147922
tw16854616290046603757 tw7581008555761687479 tw12801931252058063464 tw4741414658568795048 tw5886972696222033890 tw308123135536391043 tw2638782743387754378 tw16307860673113472640 tw17152660463142844568 tw15374590034870090005
tw11277510739186726071 tw12573354126696809441 tw4186355365917447923 tw2482128907509253383 tw15674767091630628762 tw9504165193021933177 tw6333147493689866726 tw17612953819216995991 tw5098194110944170322 tw16355867275618752098
tw6225492754150938671 tw3564514670900360334 tw1591865269963324401 tw11895574304134161814 tw6903694281824424913 tw9202891179044273680 tw11513769268604792913 tw12132471509411263340 tw12374004112488980885 tw3253010674840827550
tw13945059746370183272 tw1603011959396411904 tw6219935390698331532 tw11399754519970355640 tw16119906025176203214 tw7603325100178851493 tw7220647414962112827 tw10651669863137414757 tw10373985974390190641 tw7986247902538429820:True)
set_option maxRecDepth 100000 in
set_option maxHeartbeats 0 in
theorem PySem.Challenge.cw_dutyproof_k61_hardest_rows_holds : PySem.Challenge.rw_dutyproof_k61_hardest_rows.Holds := by
 w_on;o_law;k_head;(case hw=>w_witness2)
 k_fill
 refine LW.walk (l:=PySem.Challenge.rw_dutyproof_k61_hardest_rows) rfl rfl (λw h Y=>⟨W.km_in_of Y,W.km_tabs_of Y⟩) ?HC ?F
 case HC=>exact λw=>by kernel_rfl
 case F=>
  intro w mg fa h KX G hmg
  refine' LW.fin KX G hmg ?aA ?aB ?aD ?aE ?aF ?aG ?aH ?aI ?aJ ?aK ?aL ?aM ?aN ?aO ?aP ?aQ ?aR ?aS ?aT ?aU ?aV ?aW ?aX ?aY ?aZ ?bA ?bB ?bC ?bD ?bE ?bF ?bG ?bH ?bI ?bJ ?bK ?bL ?bM ?bN ?bO ?bP ?bQ ?bR ?bS ?bT ?bU ?bV ?bW ?bX ?bY ?bZ ?cA ?cB ?cC ?cD ?cE ?cF ?cG ?cH ?cI ?cJ ?cL ?cM ?cN ?cO ?cP ?cQ ?cR ?cT ?cU ?cV ?cW ?cX ?cY ?cZ ?dA ?dB ?dC ?dD ?dE ?dF ?dG ?dH ?dI ?dJ ?dK ?dL ?dM ?dN ?dO ?dP ?dQ ?dR ?dS ?dT ?dU ?dV ?dW ?dX ?dY ?dZ ?eA ?eB ?eC ?eD ?eE ?eF ?eG ?eH ?eI ?eJ ?eK ?eL ?eM ?eN ?eO
  (case aA|aB|aD|aE|aF=>k_is)
  (case aG=>exact L4.J0 KX G LW.Jn0)
  (case aH=>exact L4.J0 KX G LW.Jgp)
  (case aI=>exact L4.J0 KX G LW.Jm0)
  (case aJ=>exact L4.J0 KX G LW.Jqw)
  (case aK=>exact L4.J0 KX G LW.Jqv)
  (case aL=>exact L4.J0 KX G LW.Jmw)
  (case aM=>exact L4.J0 KX G LW.Jqy)
  (case aN=>exact L4.J0 KX G LW.Jix)
  (case aO=>exact L4.J0 KX G LW.Jfp)
  (case aP=>exact L4.J0 KX G LW.Jmy)
  (case aQ=>exact L4.J0 KX G LW.Jqz)
  (case aR=>exact L4.J0 KX G LW.Jny)
  (case aS=>exact L4.J0 KX G LW.Ji0)
  (case aT=>exact L4.J0 KX G LW.Jtj)
  (case aU=>exact L4.J0 KX G LW.Jkm)
  (case aV=>exact L4.J0 KX G LW.Jh7)
  (case aW=>exact L4.J0 KX G LW.Jkj)
  (case aX=>exact L4.J0 KX G LW.Jn4)
  (case aY=>exact L4.J0 KX G LW.Jqu)
  (case aZ=>exact L4.J0 KX G LW.Jwd)
  (case bA=>exact L4.J0 KX G LW.Jmq)
  (case bB=>exact L4.J0 KX G LW.Jiw)
  (case bC=>exact L4.J0 KX G LW.Jqt)
  (case bD=>exact L4.J0 KX G LW.Jmx)
  (case bE=>exact L4.J0 KX G LW.J38)
  (case bF=>exact L4.J0 KX G LW.Jmz)
  (case bG=>exact L4.J0 KX G LW.Jnz)
  (case bH=>exact L4.J0 KX G LW.Jiy)
  (case bI=>exact L4.J0 KX G LW.Jkl)
  (case bJ=>exact L4.J0 KX G LW.Jn3)
  (case bK=>exact L4.J0 KX G LW.Jmr)
  (case bL=>exact L4.J0 KX G LW.Jmt)
  (case bM=>exact L4.J0 KX G LW.Jn2)
  (case bN=>exact L4.J0 KX G LW.Jmv)
  (case bO=>exact L4.J0 KX G LW.Jmu)
  (case bP=>exact L4.J0 KX G LW.Jms)
  (case bQ=>exact L4.J0 KX G LW.Jiz)
  (case bR=>exact L4.J0 KX G LW.Jn1)
  (case bS=>exact L4.J0 KX G LW.Jkk)
  (case bT=>exact L4.J0 KX G LW.Jqx)
  (case bU=>exact L4.J0 KX G LW.Jgq)
  (case bV=>(refine' LW.J29 KX G ?eP ?eQ ?eR ?eS;(case eP|eQ|eR|eS=>k_is)))
  (case bW=>(refine' LW.Jmc ?eT ?eU ?eV ?eW ?eX ?eY ?eZ ?fA;(case eT|eU|eV|eW|eX|eY|eZ|fA=>k_is)))
  (case bX=>exact L4.Qi LW.Jmo)
  (case bY=>(refine' LW.YA ?fB ?fC ?fD ?fE ?fF ?fG ?fH ?fI ?fJ ?fK ?fL ?fM ?fN ?fO ?fP ?fQ ?fR ?fS ?fT ?fU ?fV ?fW ?fX ?fY ?fZ ?gA ?gB ?gC ?gD ?gE ?gF ?gG;(case fB|fC|fD|fE|fF|fG|fH|fI|fJ|fK|fL|fM|fN|fO|fP|fQ|fR|fS|fT|fU|fV|fW|fX|fY|fZ|gA|gB|gC|gD|gE|gF|gG=>k_is)))
  (case bZ=>exact L4.Jv0 LW.Jkf)
  (case cA=>exact L4.Qi LW.Jeg)
  (case cB=>exact L4.Qi LW.Jh5)
  (case cC=>exact L4.Qi LW.Jfn)
  (case cD=>exact L4.Qi LW.Jkg)
  (case cE=>exact L4.Qi LW.Jit)
  (case cF=>(refine' LW.YA ?gH ?gI ?gJ ?gK ?gL ?gM ?gN ?gO ?gP ?gQ ?gR ?gS ?gT ?gU ?gV ?gW ?gX ?gY ?gZ ?iA ?iB ?iC ?iD ?iE ?iF ?iG ?iH ?iI ?iJ ?iK ?iL ?iM;(case gH|gI|gJ|gK|gL|gM|gN|gO|gP|gQ|gR|gS|gT|gU|gV|gW|gX|gY|gZ|iA|iB|iC|iD|iE|iF|iG|iH|iI|iJ|iK|iL|iM=>k_is)))
  (case cG=>exact L4.Jv0 LW.Jml)
  (case cH=>exact L4.Qi LW.Jmm)
  (case cI=>exact L4.Qi LW.Jmn)
  (case cJ=>exact L4.Qi LW.Jkh)
  (case cL=>(refine' LW.YA ?iN ?iO ?iP ?iQ ?iR ?iS ?iT ?iU ?iV ?iW ?iX ?iY ?iZ ?jA ?jB ?jC ?jD ?jE ?jF ?jG ?jH ?jI ?jJ ?jK ?jL ?jM ?jN ?jO ?jP ?jQ ?jR ?jS;(case iN|iO|iP|iQ|iR|iS|iT|iU|iV|iW|iX|iY|iZ|jA|jB|jC|jD|jE|jF|jG|jH|jI|jJ|jK|jL|jM|jN|jO|jP|jQ|jR|jS=>k_is)))
  (case cM=>exact L4.Jv0 LW.Jki)
  (case cN=>exact L4.Qi LW.Jgo)
  (case cO=>exact L4.Qi LW.Jiv)
  (case cP=>exact L4.Qi LW.Jfo)
  (case cQ=>exact L4.Qi LW.Jbs)
  (case cR=>(refine' LW.YA ?jT ?jU ?jV ?jW ?jX ?jY ?jZ ?lA ?lB ?lC ?lD ?lE ?lF ?lG ?lH ?lI ?lJ ?lK ?lL ?lM ?lN ?lO ?lP ?lQ ?lR ?lS ?lT ?lU ?lV ?lW ?lX ?lY;(case jT|jU|jV|jW|jX|jY|jZ|lA|lB|lC|lD|lE|lF|lG|lH|lI|lJ|lK|lL|lM|lN|lO|lP|lQ|lR|lS|lT|lU|lV|lW|lX|lY=>k_is)))
  (case cT=>exact L4.Jv0 LW.Jiu)
  (case cU=>exact L4.Qi LW.Jf5)
  (case cV=>exact L4.Qi LW.Jh6)
  (case cW=>exact L4.Qi LW.Jfo)
  (case cX=>exact L4.Qi LW.Jbs)
  (case cY=>(refine' LW.YA ?lZ ?mA ?mB ?mC ?mD ?mE ?mF ?mG ?mH ?mI ?mJ ?mK ?mL ?mM ?mN ?mO ?mP ?mQ ?mR ?mS ?mT ?mU ?mV ?mW ?mX ?mY ?mZ ?nA ?nB ?nD ?nE ?nF;(case lZ|mA|mB|mC|mD|mE|mF|mG|mH|mI|mJ|mK|mL|mM|mN|mO|mP|mQ|mR|mS|mT|mU|mV|mW|mX|mY|mZ|nA|nB|nD|nE|nF=>k_is)))
  (case cZ|dA|dB|dC|dD|dE|dF|dG|dH|dI|dJ|dK|dL|dM=>k_is)
  (case dN|dO|dP|dQ|dR|dS|dT|dU|dV|dW|dX|dY=>kernel_rfl)
  (case dZ|eA|eB|eC|eD|eE|eF|eG|eH|eI|eJ|eK|eL|eM|eN=>k_is)
  (case eO=>(refine' LW.J28 ?nG ?nH ?nI ?nJ ?nL;(case nG|nH|nI|nJ|nL=>k_is)))

import PyProof.Rows.All
import Wide.All
import OpenK.AllK
import Wide.FinOn
import Lean
import PyProof.EqAt
import PyProof.EqKinds
import PyProof.TupleCall
import PyProof.ExcBaseAll.ValueError
import PyProof.ExcAttrAll.ValueError
import PyProof.NsDelKeeps
import PySem.Challenge.RW_dutyproof_k93_texts_refused
open Option renaming some→Za,none→Ze,map_eq_some_iff→Z7,bind_some→ZQ,join_some→ZbF,isSome_iff_exists→Zch,getD_some→ZdG,map_some→ZdU
open PySem.Str renaming ofString→Zb,length_append→Zx,join→ZJ,length→ZcB,empty→Zd7
open Bool renaming false→Zc,true→Zh,and_eq_true→Zl,false_ne_true→Zy,false_eq_true→ZD,true_eq_false→ZL,not_false→ZV,not_true→ZW,not_eq_true'→Zaf,eq_false_iff→Zat,or_eq_true→Za7,and_false→ZbB,or_eq_false_iff→ZbX,eq_iff_iff→ZcM,and_eq_false_iff→Zeb,true_and→Zev
open PySem renaming Value→Zg,Addr→Zi,Shared→Zj,wpAny_bind→Zk,mainGlobals→Zp,wpAny→Zz,model→ZE,Program→ZG,wpAny_pure→ZM,starEach→ZN,Around→ZO,World→ZX,Heap→Zak,wpAny_mono→Zan,compareOp→Zav,FuncData→Zax,wpAny_holding→Zay,wpAny_Call_Name_kw→Zaz,mem_of_lookup→Za9,wpAny_field→ZaD,assignEach→ZaJ,binaryOp→ZaQ,eval→ZaV,NameKind→ZaX,backTo→Zba,behindInMarks→Zbc,ExceptHandler→Zbd,wpAny_setField→Zbe,wpAny_pyIter_list→Zbg,foldedSetIterable→Zbh,codeAny_builtin→Zbl,bootBuiltins→Zbo,rawInt→Zbq,Stmt→Zbu,Scope→Zbw,wpAny_truthy_bool→Zb2,wpAny_newObj_type→Zb3,Spec→Zb7,wpAny_getItem_str_slice→ZbD,call_meets→ZbL,wpAny_loadPart'→ZbM,wpAny_seqItems→ZbW,intText?→ZbZ,codeAny_mono→Zcb,scanBound→Zcc,wpAny_standAt→Zci,letOwnedTupleGo→Zcj,BindsTo→Zck,wpAny_execs_nil→Zcm,sliceBounds→Zcr,swapsWith→Zcs,wpAny_callSpecial?_slot→Zct,wpAny_pyNext_list_item→Zcv,codeAny→Zcw,holding→Zcz,wpAny_pyIter_enum→Zc1,wpAny_tryCatch→Zc3,pyNext→Zc8,typeIs_str→ZcC,strValues→ZcD,attributeBase→ZcE,plainId_quiet→ZcG,strKind→ZcH,codeAny_call_builtin→ZcJ,keywordEach→ZcK,post_val_or_str→ZcP,Keyword→ZcV,noteFrame→Zda,setFlight→Zdb,sysModules→Zdd,builtinsNs→Zdf,wpAny_newFunctionEnv_cells→Zdi,wpAny_pyIter_tuple→Zdk,wpAny_letOwnedTupleGo_enum→Zdl,firstArgMember→Zdm,intBits_le_64→Zdx,Result→Zdy,assign→Zd1,lastMarks→ZdA,wpAny_execs_cons→ZdB,seqItems?→ZdD,wpAny_call_entry→ZdE,Builtin→ZdL,PyData→ZdM,wpAny_updateSeq→ZdV,wpAny_pyNext_list_end→ZdX,codeAny_call_function→ZdY,sizeLine_eq→Zec,subscripted→Zed,backToKw→Zee,wpAny_letGo→Zeg,getMethod→Zem,getItem→Zen,callerA→Zeo,cLine→Zeq,assignInOrder→Zer,eval_ListComp→Zes,isTrue→Zew,pyIter→Zex,wpAny_call→Zey,typeOf→Zez,Within→Ze0,GenState→Ze2,seqIndex_neg→Ze6,valueAt→Ze7,standAt→Ze8,IsPart→ZeB,JoinOk→ZeC
open PySem.Heap renaming get?_push_of_some→Zm,get?_update_other→Z2,lt_size→Z4,get?_push_size→Z8,get?_update_self→Za0,SameBut→ZbK,size_push→ZbV,ExtBut→Zdt
open List renaming getElem?_eq_getElem→Zn,length_map→Zo,mem_append→Zr,mem_cons_of_mem→Zs,mem_cons→Zt,mem_cons_self→Zv,length_cons→Z0,getElem?_set_self→Z1,mem_singleton→Z3,size_toArray→Z5,getElem?_map→Z6,not_mem_nil→Z9,map_cons→ZA,getElem?_eq_some_iff→ZB,getElem?_append_left→ZF,getElem?_append_right→ZI,getElem?_set_ne→ZP,mem_map→ZR,getElem_mem→ZS,length_append→ZZ,append_assoc→Zaa,all_eq_true→Zab,replicate→Zac,mem_append_right→Zae,set_append_right→Zah,lookup_cons→Zai,length_nil→Zal,map_append→Zam,getElem?_cons_succ→Zap,all_cons→Zas,append_nil→Za2,cons_append→Za3,mem_of_getElem?→Za4,mem_of_mem_take→Za5,set_cons_zero→Za6,getElem?_cons_zero→ZaA,mem_iff_getElem→ZaB,set_append_left→ZaE,getElem?_drop→ZaF,length_take→ZaH,eq_nil_of_length_eq_zero→ZaK,getElem?_eq_none→ZaL,nil_append→ZaM,range→ZaO,mem_of_mem_drop→ZaR,take_of_length_le→ZaT,replicate_succ→ZaU,drop_eq_getElem_cons→ZaW,getElem?_take_of_lt→Zbb,flatten_cons→Zbf,length_set→Zbj,find?_cons→Zbk,map_nil→Zbr,getD_eq_getElem?_getD→Zbx,set_cons_succ→Zby,ext_getElem?→Zb5,count_append→Zb6,map_take→Zb9,getElem?_replicate→ZbA,getElem_map→ZbE,lookup→ZbI,map_drop→ZbO,length_replicate→ZbP,mem_range→ZbT,mem_append_left→ZbU,mem_or_eq_of_mem_set→Zcd,getElem?_range→Zce,nodup_cons→Zcl,drop_eq_nil_of_le→Zc0,length_drop→ZcA,any_cons→ZcF,of_mem_zip→ZcN,range_succ→ZcO,filterMap_cons→ZcQ,mem_filterMap→Zdh,count_eq_zero→Zdn,exists_cons_of_ne_nil→Zdo,getElem?_eq_none_iff→Zdp,length→Zdr,mem_range'_1→Zdw,getElem_inj→Zd6,drop_length→ZdF,all_map→ZdN,map_map→ZdS,foldl_cons→ZdT,length_singleton→ZdZ,getElem?_toArray→Zea,drop_drop→Zei,sum_cons→Zeu,set_set→Ze9
open Int renaming emod_lt_of_pos→Zq,emod_nonneg→Zw,toNat→ZbH,lt_of_lt_of_le→Zcq,toNat_natCast→Zcy,toNat_of_nonneg→ZcT
open Nat renaming le_refl→Zu,ne_of_lt→ZK,lt_of_lt_of_le→ZY,zero_le→Zar,le_trans→Zau,toDigits_of_lt_base→Zbi,ne_of_gt→Zbp,lt_succ_self→Zbv,toDigits_of_base_le→ZbG,le_succ→ZbJ,add_right_cancel→Zca,lt_irrefl→Zcg,le_of_eq→Zcx,lt_succ_of_lt→Zc4,toDigits→ZcZ,add_assoc→Zd4,le_of_not_lt→Zd9,succ_le_succ→ZdC,le_add_left→ZdW,le_of_lt→Ze1,sub_self→ZeA
open PySem.Txt renaming partition→ZC,join→ZT,split→Zad,contains→Zbs,upper→Zb1,startswith→ZbY,mul→Zc5,slice→Zdc,slice_le→ZdP
open Option.some renaming injEq→ZH,inj→Zaw
open PySem.StrLaws renaming glued_eq_join→ZU,strSub_toList→Zbz,subAt_one→ZbR,join_split→Zcp,join_length_le→Zc6,subAt_eq→ZdH,At→ZdR
open PySem.Value renaming none→Zag,ref→ZaZ,bool→Zco,type→Zc7,builtin→Zd2,int→Zd5,str→Zel
open PySem.Obj renaming data_mapFields→Zaj,mapFields→Zaq,isFreed_of_fields→ZaY,cls_mapFields→Zdu,mapSeq→ZdK
open Ne renaming symm→Zao
open Array renaming length_toList→Za1,getElem?_eq_some_iff→ZaC,toArray_toList→ZcL,getD_eq_getD_getElem?→ZcX,append_assoc→Zde,getElem?_eq_getElem→Zdq,toList→Ze3
open PySem.NameKind renaming free→Za8,cell→Zd3
open PySem.Builtin.Str renaming strSub→ZaG,strSliceIndices→ZbS,tooLong→ZcS
open PySem.F renaming plain_max_loop→ZaI,plainAttrs_str→Zbt,plainAttrs_list→Zcu,entry_max_loop→Zc2,args_tuple_add_2→Zdz,entry_tuple_add→Zd8,slot_tuple_add→ZdI
open ForInStep renaming yield→ZaN
open False renaming elim→ZaP
open PyProof.Rows renaming callWith_type1→ZaS,callWith_builtin1→ZbC,envOfC→Zc9,AllBare→ZcU,IntsAre→Zds,subscriptTail→Zd0,subscriptTail_builtinR→ZdJ,split_pos→ZdQ
open PySem.PyData renaming eqv→Zbm,canLayAll0→ZbQ,list→Zef,canLay0→Zeh,eqvAll→Zet
open PyProof.Rows.F renaming plain_set_update_loop→Zbn,entry_set_update_loop→Zcf
open PySem.Builtin.SmallTypes renaming nextOf→Zb0
open PySem.Around renaming under_plainId→Zb4,under→Ze4
open PySem.Builtin.List renaming listTooLong→Zb8
open PySem.Unicode renaming upperOf→ZbN
open List.cons renaming injEq→Zcn,inj→ZcI
open PySem.Heap.SameBut renaming update→ZcR
open PySem.Builtin.Builtins renaming bindParams→ZcW
open Classical renaming em→ZcY
open PySem.Calls renaming Name_function_global→Zdg,spliced_cons→Zdj,callWith_builtin→ZdO
open Function renaming comp_def→Zdv
open Sum renaming inl→Zej,inr→Zek
open PySem.Paired renaming length→Zep
open PySem.Code renaming isFrame→Ze5
noncomputable section
set_option compiler.extract_closed false
set_option bootstrap.genMatcherCode false
set_option genSizeOf false
set_option Elab.async false
set_option linter.all false
set_option maxRecDepth 100000
abbrev CeT:=PySem.Str->Option PySem.Addr
abbrev QvT:=PySem.Value->PySem.Shared->Prop
abbrev PnT:=List (PySem.Addr×PySem.Obj)
theorem Zf {p:Prop}(h:False):p:=h.elim
namespace L2
open PySem PySem.Spec PyProof.Rows
abbrev Key:=Sum Int Str
def Yc:Key->Zg->Bool
 | .inl k,v=>Value.isInt k v
 | .inr x,v=>Value.isStrOf x v
def keyH (w:ZX):Key->Int
 | .inl k=>hashInt k
 | .inr x=>hashStr w x
theorem VN:∀{k:Key}{v:Zg},Yc k v=Zh->(∃i t,k=Zej i/\v=Zd5 i t)∨(∃x t,k=Zek x/\v=Zel x t)
 | .inl i,v,h=>by
  obtain⟨t,e⟩:=Value.isInt_shape (k:=i) (v:=v) h
  exact .inl ⟨i,t,rfl,e⟩
 | .inr x,v,h=>by
  obtain⟨t,e⟩:=Value.isStrOf_shape (x:=x) (v:=v) h
  exact .inr ⟨x,t,rfl,e⟩
theorem Jpt (i:Int)(t:Tok):Yc (.inl i) (.int i t)=Zh:=by simp[Yc,Value.isInt]
theorem Jpu (x:Str)(t:Tok):Yc (.inr x) (.str x t)=Zh:=by simp[Yc,Value.isStrOf]
theorem Jyb (a b:Int):decide ((Zej a:Key)=Zej b)=(a==b):=by
 by_cases e:a=b
 ·subst e;simp
 ·have h:¬(Zej a:Key)=Zej b:=λ q=>e (Sum.inl.inj q)
  rw[decide_eq_false h]
  exact(beq_eq_false_iff_ne.mpr e).symm
theorem Jye (a b:Str):decide ((Zek a:Key)=Zek b)=decide (a=b):=by
 by_cases e:a=b
 ·subst e;simp
 ·have h:¬(Zek a:Key)=Zek b:=λ q=>e (Sum.inr.inj q)
  rw[decide_eq_false h,decide_eq_false e]
theorem Jyc (a:Int)(b:Str):decide ((Zej a:Key)=Zek b)=Zc:=decide_eq_false (λ q=>nomatch q)
theorem Jyd (a:Str)(b:Int):decide ((Zek a:Key)=Zej b)=Zc:=decide_eq_false (λ q=>nomatch q)
def VQ (prog:ZG)(w:ZX):PySem.KeyKind prog w Key where
 is:=Yc
 hash:=keyH w
 inj:=λ v a b ha hb=>by
  rcases VN ha with⟨i,t,rfl,rfl⟩|⟨x,t,rfl,rfl⟩
  ·rcases VN hb with⟨j,u,rfl,e⟩|⟨y,u,rfl,e⟩
   ·injection e with e1 _;rw[e1]
   ·exact nomatch e
  ·rcases VN hb with⟨j,u,rfl,e⟩|⟨y,u,rfl,e⟩
   ·exact nomatch e
   ·injection e with e1 _;rw[e1]
 byValue:=λ k v h=>by
  rcases VN h with⟨i,t,rfl,rfl⟩|⟨x,t,rfl,rfl⟩<;>rfl
 pyHash:=λ hv h=>by
  rcases VN hv with⟨i,t,rfl,rfl⟩|⟨x,t,rfl,rfl⟩
  ·exact wpAny_pyHash_int h
  ·exact wpAny_pyHash_str h
 eqBool:=λ hu hv h=>by
  rcases VN hu with⟨i,t,rfl,rfl⟩|⟨x,t,rfl,rfl⟩
  ·rcases VN hv with⟨j,u,rfl,rfl⟩|⟨y,u,rfl,rfl⟩
   ·rw[Jyb] at h;exact wpAny_eqBool_int h
   ·rw[Jyc] at h;exact SeqAt.EqAt.int_str i t y u _ _ _ _ h
  ·rcases VN hv with⟨j,u,rfl,rfl⟩|⟨y,u,rfl,rfl⟩
   ·rw[Jyd] at h;exact SeqAt.EqAt.str_int x t j u _ _ _ _ h
   ·rw[Jye] at h;exact wpAny_eqBool_str h
 «strs» :=λ k x t v h=>by
  rcases VN h with⟨i,u,rfl,e⟩|⟨y,u,rfl,e⟩
  ·exact nomatch e
  ·injection e with e1 _
   subst e1
   cases v<;>rfl
theorem Jl1 (prog:ZG)(w:ZX)(i:Int)(t:Tok):(VQ prog w).is (.inl i) (.int i t)=Zh:=Jpt i t
theorem Jl2 (prog:ZG)(w:ZX)(x:Str)(t:Tok):(VQ prog w).is (.inr x) (.str x t)=Zh:=Jpu x t
inductive V where
 | non|bl (b:Bool)|int (i:Int)|str (x:Str)|byt (b:Array UInt8)|flt (b:UInt64)|ref (a:Zi)|ty (n:String)
 deriving DecidableEq
def RelV:V->Zg->Prop
 | .non,u=>u=Zag
 | .bl b,u=>u=Zco b
 | .int i,u=>∃t,u=Zd5 i t
 | .str x,u=>∃t,u=Zel x t
 | .byt b,u=>∃t,u=Value.bytes b t
 | .flt b,u=>∃t,u=Value.float b t
 | .ref a,u=>u=ZaZ a
 | .ty n,u=>u=Zc7 n
abbrev Vals:List V->List Zg->Prop:=Paired RelV
theorem Vals.length {xs:List V}{us:List Zg}(r:Vals xs us):xs.length=us.length:=Zep r
theorem Vals.get:∀{xs:List V}{us:List Zg}{i:Nat}{x:V},Vals xs us->xs[i]?=Za x->∃u,us[i]?=Za u/\RelV x u
 | _,_,_,_,.nil,e=>by simp at e
 | _,_,0,_,.cons r _,e=>by simp at e;subst e;exact⟨_,rfl,r⟩
 | _,_,i+1,x,.cons _ t,e=>by
  obtain⟨u,h1,h2⟩:=Vals.get (i:=i) (x:=x) t (by simpa using e)
  exact⟨u,by simpa using h1,h2⟩
theorem Vals.set {x:V}{u:Zg}(r:RelV x u):∀{xs:List V}{us:List Zg}(i:Nat),Vals xs us->Vals (xs.set i x) (us.set i u)
 | _,_,_,.nil=>.nil
 | _,_,0,.cons _ t=>.cons r t
 | _,_,i+1,.cons q t=>.cons q (Vals.set r i t)
theorem Vals.append:∀{xs ys:List V}{us ws:List Zg},Vals xs us->Vals ys ws->Vals (xs++ys) (us++ws)
 | _,_,_,_,.nil,s=>s
 | _,_,_,_,.cons r t,s=>.cons r (Vals.append t s)
theorem Vals.take:∀{xs:List V}{us:List Zg}(n:Nat),Vals xs us->Vals (xs.take n) (us.take n)
 | _,_,0,_=>.nil
 | _,_,_+1,.nil=>.nil
 | _,_,n+1,.cons r t=>.cons r (Vals.take n t)
theorem Vals.drop:∀{xs:List V}{us:List Zg}(n:Nat),Vals xs us->Vals (xs.drop n) (us.drop n)
 | _,_,0,r=>r
 | _,_,_+1,.nil=>.nil
 | _,_,n+1,.cons _ t=>Vals.drop n t
theorem Vals.none_of:∀{xs:List V}{us:List Zg}{i:Nat},Vals xs us->xs[i]?=Ze->us[i]?=Ze:=λ {xs us i} r e=>by
 have h1:=r.length
 have h2:xs.length<=i:=Zdp.mp e
 exact Zdp.mpr (by omega)
def RelO:Option V->Option Zg->Prop
 | some v,Za u=>RelV v u
 | none,Ze=>True
 | _,_=>False
def KV {κ:Type}:List (κ×V)->List (κ×Zg)->Prop:=Paired λ (p:κ×V)(q:κ×Zg)=>p.1=q.1/\RelV p.2 q.2
def kV:Key->V
 | .inl i=>.int i
 | .inr x=>.str x
inductive HO where
 /-- a list -/
 | lst (xs:List V)
 /-- a tuple (never changes) -/
 | tup (xs:List V)
 /-- a dict whose keys are ints and texts; one whose keys are tuples of ints and texts (the empty one is both) -/
 | dK (kvs:List (Key×V))|dT (kvs:List (List Key×V))
 /-- a set of ints: its members, its size -/
 | set (S:Int->Bool) (n:Nat)
 /-- an instance of the class at C, its dict at dx, its attributes -/
 | ins (C dx:Zi) (fs:List (Str×V))
 /-- the dict of the instance at x -/
 | own (x:Zi)
 /-- the dict of an exception -/
 | xd (fs:List (Str×V))
 /-- a bound method, f of x -/
 | met (f x:Zi)
 /-- a range object lo, lo + 1, .. below hi -/
 | rng (lo hi:Int)
 /-- a thing that is known to the object (the script; a dict while a loop walks it): read, never written while it is so -/
 | frz (o:Obj) (u:HO)
 /-- a code object's table -/
 | tbl (ps:Array Zg)
 /-- any other thing, by what is Zh of its one object (a def of one's own: SetO a S n := HO.ext λ h => ..) -/
 | ext (φ:Zak->Prop)
abbrev Hp:=Zi->Option HO
def upd (H:Hp)(a:Zi)(o:HO):Hp:=λ b=>if b=a then Za o else H b
theorem J2 {H:Hp}{a:Zi}{o:HO}:upd H a o a=Za o:=by unfold upd;rw[if_pos rfl]
theorem Jo {H:Hp}{a b:Zi}{o:HO}(h:b≠a):upd H a o b=H b:=by unfold upd;rw[if_neg h]
theorem Vq {H:Hp}{a b:Zi}{o:HO}(h:H a=Za o)(h':H b=Ze):a≠b:=by
 intro e;subst e;rw[h] at h';cases h'
section
variable (P:ZG)(w:ZX)
def Qa (H:Hp)(h:Zak)(a:Zi):HO->Prop
 | .lst xs=>xs.length<=sizeLine/\∃(its:List Zg) (n:Nat),Vals xs its/\h.get? a=Za { cls:=.type "list",data:=.seq its.toArray n }
 | .tup xs=>xs.length<=sizeLine/\∃its:List Zg,Vals xs its/\IsTup h a its.toArray
 | .dK kvs=>kvs.length<=sizeLine/\(a==Zdd)=Zc/\∃vs,KV kvs vs/\h.DictOf (VQ P w) a vs
 | .dT kvs=>kvs.length<=sizeLine/\(a==Zdd)=Zc/\∃xs:List (List Key×Zi×Zg),
   Paired (λ (p:List Key×V)(q:List Key×Zi×Zg)=>p.1=q.1/\H q.2.1=Za (.tup (p.1.map kV))/\RelV p.2 q.2.2) kvs xs /\
   ∃o es ep,h.get? a=Za o/\o.ExactDict/\o.data=.dict es ep/\es.toList=xs.map (entryOfKey (tupleKind (VQ P w)))/\(xs.map (·.1)).Nodup
 | .set S n=>h.SetOf (intKind P w) a S n
 | .ins C dx fs=>H dx=Za (.own a)/\fs.length<=1000/\dx≠a/\h.get? a=Za (W.instObj C dx) /\
   ∃mA,h.Ns1 dx mA/\(∀f,RelO (fs.lookup f) (mA f))/\Ze0 mA (fs.map (·.1))
 | .own _=>∃o,h.get? a=Za o
 | .xd fs=>∃mA,h.Ns1 a mA/\∀f,RelO (fs.lookup f) (mA f)
 | .rng lo hi=>∃t u v,h.get? a=Za { cls:=.type "range",data:=.fields #[.int lo t,.int hi u,.int 1 v] }
 | .frz o u=>h.get? a=Za o/\Qa H h a u
 | .tbl ps=>h.get? a=Za { cls:=.none,data:=.fields ps }
 | .met f x=>h.get? a=Za (W.methodObj (.ref f) (.ref x))
 | .ext φ=>φ h/\(∃o,h.get? a=Za o)/\∀h1 h2:Zak,φ h1->(∀o,h1.get? a=Za o->h2.get? a=Za o)->φ h2
def HOk (H:Hp)(h:Zak):Prop:=∀a o,H a=Za o->Qa P w H h a o
end
section
variable {P:ZG}{w:ZX}{H H':Hp}{h h':Zak}{a:Zi}{o:HO}
theorem Qa.lt (x:Qa P w H h a o):a<h.objs.size:=by
 cases o with
 | lst xs=>obtain⟨_,_,_,_,e⟩:=x;exact Z4 e
 | tup xs=>obtain⟨_,_,_,p⟩:=x;exact p.lt
 | dK kvs=>obtain⟨_,_,_,_,o,_,_,e,_⟩:=x;exact Z4 e
 | dT kvs=>obtain⟨_,_,_,_,o,_,_,e,_⟩:=x;exact Z4 e
 | set S n=>obtain⟨o,_,_,_,e,_⟩:=x;exact Z4 e
 | ins C dx fs=>obtain⟨_,_,_,e,_⟩:=x;exact Z4 e
 | own y=>obtain⟨_,e⟩:=x;exact Z4 e
 | xd fs=>obtain⟨_,⟨_,_,_,e,_⟩,_⟩:=x;exact Z4 e
 | rng lo hi=>obtain⟨_,_,_,e⟩:=x;exact Z4 e
 | frz ob u=>obtain⟨e,_⟩:=x;exact Z4 e
 | tbl ps=>exact Z4 (show h.get? a=Za _ from x)
 | met f y=>exact Z4 (show h.get? a=Za _ from x)
 | ext φ=>obtain⟨_,⟨_,e⟩,_⟩:=x;exact Z4 e
theorem Paired.mapP {α β:Type}{F G:α->β->Prop}:∀{l₁:List α}{l₂:List β},Paired F l₁ l₂->(∀a b,F a b->G a b)->Paired G l₁ l₂
 | _,_,.nil,_=>.nil
 | _,_,.cons r t,f=>.cons (f _ _ r) (Paired.mapP t f)
theorem Qa.stay (x:Qa P w H h a o)(k:∀b u,(b=a∨H b=Za (.own a))->h.get? b=Za u->h'.get? b=Za u)
  (ho:∀b,H b=Za (.own a)->H' b=Za (.own a))(ht:∀b xs,H b=Za (.tup xs)->H' b=Za (.tup xs)):Qa P w H' h' a o:=by
 induction o with
 | lst xs=>obtain⟨z,its,n,r,e⟩:=x;exact⟨z,its,n,r,k _ _ (.inl rfl) e⟩
 | tup xs=>obtain⟨z,its,r,ob,e,c⟩:=x;exact⟨z,its,r,ob,k _ _ (.inl rfl) e,c⟩
 | dK kvs=>obtain⟨z,y,vs,r,ob,es,ep,e,c⟩:=x;exact⟨z,y,vs,r,ob,es,ep,k _ _ (.inl rfl) e,c⟩
 | dT kvs =>
  obtain⟨z,y,xs,r,ob,es,ep,e,c⟩:=x
  exact⟨z,y,xs,Paired.mapP r λ p q z=>⟨z.1,ht _ _ z.2.1,z.2.2⟩,ob,es,ep,k _ _ (.inl rfl) e,c⟩
 | set S n=>obtain⟨ob,es,ep,t,e,c⟩:=x;exact⟨ob,es,ep,t,k _ _ (.inl rfl) e,c⟩
 | ins C dx fs =>
  obtain⟨d,z,ne,e,mA,⟨od,es,ep,e2,c⟩,r⟩:=x
  exact⟨ho _ d,z,ne,k _ _ (.inl rfl) e,mA,⟨od,es,ep,k _ _ (.inr d) e2,c⟩,r⟩
 | own y=>obtain⟨ob,e⟩:=x;exact⟨ob,k _ _ (.inl rfl) e⟩
 | xd fs=>obtain⟨mA,⟨od,es,ep,e,c⟩,r⟩:=x;exact⟨mA,⟨od,es,ep,k _ _ (.inl rfl) e,c⟩,r⟩
 | rng lo hi=>obtain⟨t,u,v,e⟩:=x;exact⟨t,u,v,k _ _ (.inl rfl) e⟩
 | frz ob u ih=>obtain⟨e,q⟩:=x;exact⟨k _ _ (.inl rfl) e,ih q⟩
 | tbl ps =>
  have e:h.get? a=Za { cls:=.none,data:=.fields ps }:=x
  show h'.get? a=Za { cls:=.none,data:=.fields ps }
  exact k a _ (.inl rfl) e
 | met f y =>
  have e:h.get? a=Za (W.methodObj (.ref f) (.ref y)):=x
  show h'.get? a=Za (W.methodObj (.ref f) (.ref y))
  exact k a _ (.inl rfl) e
 | ext φ=>obtain⟨p,⟨o,e⟩,st⟩:=x;exact⟨st _ _ p λ o q=>k _ _ (.inl rfl) q,⟨o,k _ _ (.inl rfl) e⟩,st⟩
theorem HOk.lt (x:HOk P w H h)(e:H a=Za o):a<h.objs.size:=(x a o e).lt
theorem HOk.fresh (x:HOk P w H h)(e:h.objs.size<=a):H a=Ze:=by
 cases q:H a with
 | none=>rfl
 | some u=>exact absurd (ZY (x.lt q) e) (Zcg _)
theorem HOk.kept (x:HOk P w H h)(k:∀b u,h.get? b=Za u->h'.get? b=Za u):HOk P w H h':=λ a o e =>
 (x a o e).stay (λ b u _ q=>k b u q) (λ _ q=>q) λ _ _ q=>q
theorem HOk.laid (x:HOk P w H h)(k:∀b u,h.get? b=Za u->h'.get? b=Za u)(hp:h.objs.size<=a)(new:Qa P w (upd H a o) h' a o):HOk P w (upd H a o) h':=λ b u e=>by
 have hn:=x.fresh hp
 by_cases hb:b=a
 ·subst hb;rw[J2] at e;cases e;exact new
 ·rw[Jo hb] at e
  exact(x b u e).stay (λ c v _ q=>k c v q) (λ c q=>by rw[Jo (Vq q hn)];exact q) λ c xs q=>by rw[Jo (Vq q hn)];exact q
end
def Rd (H:Hp)(a:Zi)(u:HO):Prop:=H a=Za u∨∃o,H a=Za (.frz o u)
theorem Rd.of {H:Hp}{a:Zi}{u:HO}(h:H a=Za u):Rd H a u:=.inl h
theorem Rd.ok {P:ZG}{w:ZX}{H:Hp}{h:Zak}{a:Zi}{u:HO}(r:Rd H a u)(x:HOk P w H h):Qa P w H h a u:=by
 rcases r with r|⟨o,r⟩
 ·exact x a u r
 ·obtain⟨_,q⟩:=x a _ r
  exact q
def Mut:Option HO->Prop
 | some (.lst _)=>True
 | some (.dK _)=>True
 | some (.dT _)=>True
 | some (.set _ _)=>True
 | some (.ins _ _ _)=>True
 | some (.ext _)=>True
 | _=>False
section
variable {P:ZG}{w:ZX}{H:Hp}{h h':Zak}{x e:Zi}{o':HO}
theorem HOk.write (ok:HOk P w H h)(mu:Mut (H x))(he:e=x∨H e=Za (.own x))(k:∀b u,b≠e->h.get? b=Za u->h'.get? b=Za u)(heo:∃u,h'.get? e=Za u)
  (new:Qa P w (upd H x o') h' x o'):HOk P w (upd H x o') h':=λ b u q=>by
 have nown:∀c y,H c=Za (.own y)->c≠x:=λ c y r z=>by subst z;rw[r] at mu;exact mu
 have ntup:∀c xs,H c=Za (.tup xs)->c≠x:=λ c xs r z=>by subst z;rw[r] at mu;exact mu
 by_cases hb:b=x
 ·subst hb;rw[J2] at q;cases q;exact new
 ·rw[Jo hb] at q
  by_cases hbe:b=e
  ·have q':H b=Za (.own x):=by
    rcases he with z|z
    ·exact absurd (hbe.trans z) hb
    ·rw[hbe];exact z
   rw[q] at q';cases q'
   obtain⟨v,hv⟩:=heo
   exact⟨v,by rw[hbe];exact hv⟩
  ·refine(ok b u q).stay (λ c v hc r=>k c v ?_ r) (λ c r=>by rw[Jo (nown c b r)];exact r) λ c xs r=>by rw[Jo (ntup c xs r)];exact r
   rcases hc with rfl|hc
   ·exact hbe
   ·rintro rfl
    rcases he with z|z
    ·exact nown c b hc z
    ·rw[hc] at z;cases z;exact hb rfl
end
structure Un (fs ex:List Zi)(H H':Hp)(h h':Zak):Prop where
 keep:∀b o,h.get? b=Za o->H b=Ze->b∉fs->b∉ex->h'.get? b=Za o
 slot:∀b o,h.get? b=Za o->H b=Ze->b∈fs->b∉ex->∃sl,h'.get? b=Za { o with slots:=sl }
 free:∀b o,h.get? b=Za o->H b=Ze->b∉ex->H' b=Ze
 there:∀b o,h.get? b=Za o->b∉ex->∃o',h'.get? b=Za o'
 tups:∀b xs,H b=Za (.tup xs)->H' b=Za (.tup xs)
 frzs:∀b o u,H b=Za (.frz o u)->H' b=Za (.frz o u)
 tbls:∀b ps,H b=Za (.tbl ps)->∃more,H' b=Za (.tbl (ps++more))
section
variable {fs fs' ex ex':List Zi}{H H1 H2:Hp}{h h1 h2 h':Zak}{a x e:Zi}{o:HO}
theorem Un.any (u:Un fs ex H H1 h h1){b:Zi}{ob:Obj}(q:h.get? b=Za ob)(n:H b=Ze)(hx:b∉ex):∃sl,h1.get? b=Za { ob with slots:=sl }:=by
 by_cases hb:b∈fs
 ·exact u.slot b ob q n hb hx
 ·exact⟨ob.slots,u.keep b ob q n hb hx⟩
theorem Un.trans (a:Un fs ex H H1 h h1)(b:Un fs ex H1 H2 h1 h2):Un fs ex H H2 h h2 where
 keep:=λ c ob q n hc hx=>b.keep c ob (a.keep c ob q n hc hx) (a.free c ob q n hx) hc hx
 slot:=λ c ob q n hc hx=>by
  obtain⟨sl,e1⟩:=a.slot c ob q n hc hx
  obtain⟨sl',e2⟩:=b.slot c _ e1 (a.free c ob q n hx) hc hx
  exact⟨sl',e2⟩
 free:=λ c ob q n hx=>by
  obtain⟨o',e1⟩:=a.there c ob q hx
  exact b.free c o' e1 (a.free c ob q n hx) hx
 there:=λ c ob q hx=>by
  obtain⟨o',e1⟩:=a.there c ob q hx
  exact b.there c o' e1 hx
 tups:=λ c xs q=>b.tups c xs (a.tups c xs q)
 frzs:=λ c ob xs q=>b.frzs c ob xs (a.frzs c ob xs q)
 tbls:=λ c ps q=>by
  obtain⟨m1,e1⟩:=a.tbls c ps q
  obtain⟨m2,e2⟩:=b.tbls c _ e1
  exact⟨m1++m2,by rw[e2,Zde]⟩
theorem Un.kept (k:∀b u,h.get? b=Za u->h'.get? b=Za u):Un fs ex H H h h' :=
 ⟨λ b ob q _ _ _=>k b ob q,λ b ob q _ _ _=>⟨ob.slots,k b ob q⟩,λ _ _ _ n _=>n,λ b ob q _=>⟨ob,k b ob q⟩,λ _ _ q=>q,λ _ _ _ q=>q,λ _ ps q=>⟨#[],by rw[q];simp⟩⟩
theorem Un.refl:Un fs ex H H h h:=Un.kept λ _ _ q=>q
theorem Un.laid (k:∀b u,h.get? b=Za u->h'.get? b=Za u)(hp:h.objs.size<=a)(hn:H a=Ze):Un fs ex H (upd H a o) h h' where
 keep:=λ b u q _ _ _=>k b u q
 slot:=λ b u q _ _ _=>⟨u.slots,k b u q⟩
 free:=λ b u q n _=>by rw[Jo (ZK (ZY (Z4 q) hp))];exact n
 there:=λ b u q _=>⟨u,k b u q⟩
 tups:=λ b xs q=>by rw[Jo (Vq q hn)];exact q
 frzs:=λ b u xs q=>by rw[Jo (Vq q hn)];exact q
 tbls:=λ b ps q=>⟨#[],by rw[Jo (Vq q hn),q];simp⟩
theorem Un.write (mu:Mut (H x))(he:e=x∨H e=Za (.own x))(k:∀b u,b≠e->h.get? b=Za u->h'.get? b=Za u)(heo:∃u,h'.get? e=Za u):Un fs ex H (upd H x o) h h':=by
 have hx:∀b,H b=Ze->b≠x:=λ b n z=>by subst z;rw[n] at mu;exact mu
 have hb:∀b,H b=Ze->b≠e:=λ b n z=>by
  subst z
  rcases he with r|r
  ·exact hx b n r
  ·rw[n] at r;cases r
 have hm:∀b u,H b=Za u->¬Mut (Za u)->b≠x:=λ b u q nm z=>by subst z;rw[q] at mu;exact nm mu
 refine⟨λ b u q n _ _=>k b u (hb b n) q,λ b u q n _ _=>⟨u.slots,k b u (hb b n) q⟩,λ b u q n _=>by rw[Jo (hx b n)];exact n,λ b u q _=>?_,
  λ b xs q=>by rw[Jo (hm b _ q λ z=>z)];exact q,λ b u xs q=>by rw[Jo (hm b _ q λ z=>z)];exact q,λ b ps q=>⟨#[],by rw[Jo (hm b _ q λ z=>z),q];simp⟩⟩
 by_cases hbe:b=e
 ·subst hbe;exact heo
 ·exact⟨u,k b u hbe q⟩
theorem Un.mono (u:Un fs ex H H1 h h1)(hs:∀b∈fs,b∈fs')(hx:∀b∈ex,b∈ex'):Un fs' ex' H H1 h h1 :=
 ⟨λ b ob q n hb he=>u.keep b ob q n (λ z=>hb (hs b z)) λ z=>he (hx b z),λ _ _ q n _ he=>u.any q n λ z=>he (hx _ z),λ b ob q n he=>u.free b ob q n λ z=>he (hx b z),λ b ob q he=>u.there b ob q λ z=>he (hx b z),u.tups,u.frzs,u.tbls⟩
end
def trk (h:Zak)(H:Hp):List Zi:=(ZaO h.objs.size).filter λ a=>(H a).isSome
def hidT (h:Zak)(H:Hp):Zak:=W.hideAll h (trk h H)
theorem Jph (h:Zak)(H:Hp):(hidT h H).objs.size=h.objs.size:=W.hideAll_size _ _
theorem Jrq {h:Zak}{H:Hp}{b:Zi}{o:Obj}(e:h.get? b=Za o)(n:H b=Ze):(hidT h H).get? b=Za o :=
 W.hideAll_get _ e λ hm=>by
  have q:(H b).isSome=Zh:=(List.mem_filter.mp hm).2
  rw[n] at q;simp at q
theorem Jvr {h:Zak}{H:Hp}{b:Zi}{o:Obj}(e:(hidT h H).get? b=Za o):h.get? b=Za o/\H b=Ze:=by
 have e':h.get? b=Za o:=W.of_hideAll (trk h H) e
 refine⟨e',?_⟩
 cases q:H b with
 | none=>rfl
 | some x =>
  have hm:b∈trk h H:=List.mem_filter.mpr ⟨ZbT.mpr (Z4 e'),by simp[q]⟩
  have z:(hidT h H).get? b=Ze:=W.hideAll_none (trk h H) hm
  rw[z] at e;cases e
structure Mod (K:W.Frag)(mg:Str->Option Zg)(base:Zak):Prop where
 kin:K.In base
 glob:base.Ns Zp mg
 blt:∃mb,base.Ns Zdf mb/\∀x:Str,x≠"__name__"->mb x=Zbo x
 nolimit:base.NoLimit
structure Cx where
 prog:ZG
 w:ZX
 K:W.Frag
 mg:Str->Option Zg
 base:Zak
 A:ZO
 N:List Str
 s₀:Zj
 H₀:Hp
 env:Env
 outer:List Env
 stack:List Env
 ex:List Zi
 fn:Str->Bool
 calm:Bool
 pn:PnT
 xe:QvT
def frs (l:List Env):List Zi:=l.filterMap (·.frame)
abbrev Cx.fs (X:Cx):List Zi:=frs X.outer
def Vis (sc:Zbw)(x:Str):Prop:=sc.names.lookup x=Za .local∨sc.names.lookup x=Za .cell∨sc.names.lookup x=Za .free
def Loc (sc:Zbw)(x:Str):Prop:=sc.names.lookup x=Za .local∨sc.names.lookup x=Za .cell
def Look (env:Env)(h:Zak)(m:Str->Option Zg)(x:Str)(u:Zg):Prop :=
 (env.kindOf x=Za .local/\m x=Za u)∨((env.kindOf x=Za .cell∨env.kindOf x=Za .free)/\∃c,env.cells.lookup x=Za c/\h.IsCell c (Za u))
structure Cx.Ok (X:Cx):Prop where
 mod:Mod X.K X.mg X.base
 kind:X.env.scope.kind=.function
 glob:X.env.globals=Zp
 blt:X.env.builtins=Zdf
 above:X.s₀.heap.objs.size<=X.env.locals
 inj:∀x y c,X.env.cells.lookup x=Za c->X.env.cells.lookup y=Za c->x=y
 has:∀x,(X.env.kindOf x=Za .cell∨X.env.kindOf x=Za .free)->∃c,X.env.cells.lookup x=Za c
 cab:∀x c,X.fn x=Zh->X.env.cells.lookup x=Za c->X.s₀.heap.objs.size<=c
 hd:X.calm=Zh->X.A.handled=Ze
 frames:X.A.frames=Za X.stack
 stk:X.stack=X.outer∨(X.stack=X.env::X.outer/\X.env.frame=Za X.env.locals)
 exf:∀b∈X.ex,b≠X.env.locals/\∀x c,X.env.cells.lookup x=Za c->c≠b
 bs:∀b o,X.base.get? b=Za o->X.s₀.heap.get? b=Za o/\X.H₀ b=Ze
 bsz:X.base.objs.size<=X.s₀.heap.objs.size
 noex:∀b o,X.base.get? b=Za o->b∉X.ex
 exfs:∀b∈X.ex,b∉X.fs
 funs:X.s₀.heap.FunFrames X.base X.outer
 frf:∀b∈X.fs,X.H₀ b=Ze
structure Inv (X:Cx)(pj:PnT)(σ:List (Option V))(H:Hp)(s:Zj):Prop where
 ok:X.Ok
 os:s.os=X.s₀.os
 bare:ZcU s.gens
 base:Un X.fs X.ex X.H₀ H X.s₀.heap s.heap
 loc:∃m,s.heap.Ns X.env.locals m/\∀(i:Nat)(x:Str)(v:V),X.N[i]?=Za x->σ[i]?=Za (Za v)->Vis X.env.scope x->∃u,RelV v u/\Look X.env s.heap m x u
 cell:∀x c,X.env.cells.lookup x=Za c->∃v,s.heap.IsCell c v
 free:H X.env.locals=Ze
 freeC:∀x c,X.env.cells.lookup x=Za c->H c=Ze
 pin:∀p∈X.pn++pj,s.heap.get? p.1=Za p.2/\H p.1=Ze/\p.1≠X.env.locals/\p.1∉X.fs/\∀v,p.2.data≠.cell v
 hok:HOk X.prog X.w H s.heap
 len:σ.length=X.N.length
section
variable {X:Cx}{pj:PnT}{σ:List (Option V)}{H H':Hp}{s:Zj}{h':Zak}
theorem Cx.Ok.nofr (ok:X.Ok){b:Zi}{o:Obj}(e:X.base.get? b=Za o):b∉X.fs:=λ hb=>by
 have:=(ok.funs.mem hb).1
 rw[e] at this;cases this
theorem Inv.bs (I:Inv X pj σ H s):∀b o,X.base.get? b=Za o->s.heap.get? b=Za o/\H b=Ze:=λ b o e =>
 ⟨I.base.keep b o (I.ok.bs b o e).1 (I.ok.bs b o e).2 (I.ok.nofr e) (I.ok.noex b o e),I.base.free b o (I.ok.bs b o e).1 (I.ok.bs b o e).2 (I.ok.noex b o e)⟩
theorem Inv.bk (I:Inv X pj σ H s):∀b o,X.base.get? b=Za o->s.heap.get? b=Za o:=λ b o e=>(I.bs b o e).1
theorem Inv.mod (I:Inv X pj σ H s):Mod X.K X.mg X.base:=I.ok.mod
theorem Inv.kIn (I:Inv X pj σ H s):X.K.In s.heap:=I.ok.mod.kin.keeps I.bk
theorem Inv.nolimit (I:Inv X pj σ H s):s.heap.NoLimit:=I.ok.mod.nolimit.keeps I.bk
theorem Inv.fr (I:Inv X pj σ H s):∃m,Fr X.base X.env.locals s.heap m :=
 let ⟨m,hn,_⟩:=I.loc
 ⟨m,hn,I.bk,Zau I.ok.bsz I.ok.above⟩
theorem Inv.lt (I:Inv X pj σ H s):X.env.locals<s.heap.objs.size:=let ⟨_,hn,_⟩:=I.loc;hn.lt
theorem Inv.sz (I:Inv X pj σ H s):X.s₀.heap.objs.size<=s.heap.objs.size:=Zau I.ok.above (Ze1 I.lt)
theorem Inv.nofs (I:Inv X pj σ H s){a:Zi}(h:s.heap.objs.size<=a):a∉X.fs:=λ hb=>by
 obtain⟨_,o,ho,_⟩:=I.ok.funs.mem hb
 exact absurd (ZY (Z4 ho) (Zau I.sz h)) (Zcg _)
theorem Inv.cne (I:Inv X pj σ H s):∀x c,X.env.cells.lookup x=Za c->c≠X.env.locals:=λ x c e z=>by
 obtain⟨v,o,ho,hd⟩:=I.cell x c e
 obtain⟨m,⟨o',es,ep,ho',hd',_⟩,_⟩:=I.loc
 rw[z,ho'] at ho;cases ho;rw[hd'] at hd;cases hd
theorem Inv.funs (I:Inv X pj σ H s):s.heap.FunFrames X.base X.outer:=by
 have all:∀(l:List Env),(∀b∈frs l,b∈X.fs)->X.s₀.heap.FunFrames X.base l->s.heap.FunFrames X.base l:=by
  intro l
  induction l with
  | nil=>intro _ _;trivial
  | cons env r ih =>
   intro hs hl
   obtain⟨hk,⟨L,o,hf,hn,ho,hd⟩,hr⟩:=hl
   have hL:L∈X.fs:=hs L (by unfold frs;rw[ZcQ,hf];exact Zv)
   obtain⟨sl,e⟩:=I.base.slot L o ho (I.ok.frf L hL) hL λ z=>I.ok.exfs L z hL
   exact⟨hk,⟨L,_,hf,hn,e,hd⟩,ih (λ b hb=>hs b (by unfold frs;rw[ZcQ,hf];exact Zs _ hb)) hr⟩
 exact all X.outer (λ _ hb=>hb) I.ok.funs
theorem Inv.stack (I:Inv X pj σ H s):s.heap.FunFrames X.base X.stack:=by
 rcases I.ok.stk with e|⟨e,hf⟩
 ·rw[e];exact I.funs
 ·rw[e]
  obtain⟨m,hn,_⟩:=I.loc
  refine .cons (by rw[I.ok.kind];decide) hf hn ?_ I.funs
  exact Heap.get?_none_of_le (Zau I.ok.bsz I.ok.above)
theorem Inv.stkSub (I:Inv X pj σ H s):∀b∈frs X.stack,b∈X.env.locals::X.fs:=λ b hb=>by
 rcases I.ok.stk with e|⟨e,hf⟩
 ·rw[e] at hb;exact Zs _ hb
 ·rw[e] at hb
  unfold frs at hb
  rw[ZcQ,hf] at hb
  exact hb
theorem Inv.stkFree (I:Inv X pj σ H s):∀b∈frs X.stack,H b=Ze:=λ b hb=>by
 rcases Zt.mp (I.stkSub b hb) with e|hb
 ·rw[e];exact I.free
 ·obtain⟨_,o,ho,_⟩:=I.ok.funs.mem hb
  exact I.base.free b o ho (I.ok.frf b hb) λ z=>I.ok.exfs b z hb
theorem Inv.step {g':Array Ze2}{t':Nat}{d':Drawn}{ch:List Zi}(I:Inv X pj σ H s)
  (hch:∀b∈ch,(b∈X.ex∨X.s₀.heap.objs.size<=b)/\b≠X.env.locals/\(∀x c,X.env.cells.lookup x=Za c->c≠b)/\∀p∈X.pn++pj,p.1≠b)
  (keep:∀b o,b≠X.env.locals->b∉X.fs->b∉ch->s.heap.get? b=Za o->H b=Ze->h'.get? b=Za o)
  (slot:∀b o,b≠X.env.locals->b∈X.fs->b∉ch->s.heap.get? b=Za o->H b=Ze->∃sl,h'.get? b=Za { o with slots:=sl })(free:∀b o,b∉ch->s.heap.get? b=Za o->H b=Ze->H' b=Ze)
  (there:∀b o,b∉ch->s.heap.get? b=Za o->∃o',h'.get? b=Za o')
  (tups:∀b xs,H b=Za (.tup xs)->H' b=Za (.tup xs))(frzs:∀b o u,H b=Za (.frz o u)->H' b=Za (.frz o u))(tbls:∀b ps,H b=Za (.tbl ps)->∃more,H' b=Za (.tbl (ps++more)))
  (ns:∀m,s.heap.Ns X.env.locals m->h'.Ns X.env.locals m)(hok:HOk X.prog X.w H' h')(hg:ZcU g') :
  Inv X pj σ H' { s with heap:=h',gens:=g',drawn:=d',toks:=t' }:=by
 have neL:∀b o,X.s₀.heap.get? b=Za o->b≠X.env.locals:=λ b o e=>ZK (ZY (Z4 e) I.ok.above)
 have neC:∀b o,X.s₀.heap.get? b=Za o->b∉X.ex->b∉ch:=λ b o e hx hb=>by
  rcases(hch b hb).1 with z|z
  ·exact hx z
  ·exact absurd (ZY (Z4 e) z) (Zcg _)
 have cellK:∀x c,X.env.cells.lookup x=Za c->∀v,s.heap.IsCell c v->h'.IsCell c v:=λ x c e v ⟨o,ho,hd⟩=>by
  have nch:c∉ch:=λ z=>(hch c z).2.2.1 x c e rfl
  by_cases hc:c∈X.fs
  ·obtain⟨sl,q⟩:=slot c o (I.cne x c e) hc nch ho (I.freeC x c e)
   exact⟨_,q,hd⟩
  ·exact⟨o,keep c o (I.cne x c e) hc nch ho (I.freeC x c e),hd⟩
 refine⟨I.ok,I.os,hg,⟨λ b o e n hb hx=>?_,λ b o e n hb hx=>?_,λ b o e n hx=>?_,λ b o e hx=>?_,λ b xs e=>tups b xs (I.base.tups b xs e),λ b o xs e=>frzs b o xs (I.base.frzs b o xs e),λ b ps e=>?_⟩,?_,λ x c e=>?_,?_,λ x c e=>?_,λ p hp=>?_,hok,I.len⟩
 ·exact keep b o (neL b o e) hb (neC b o e hx) (I.base.keep b o e n hb hx) (I.base.free b o e n hx)
 ·obtain⟨sl,e1⟩:=I.base.slot b o e n hb hx
  obtain⟨sl',e2⟩:=slot b _ (neL b o e) hb (neC b o e hx) e1 (I.base.free b o e n hx)
  exact⟨sl',e2⟩
 ·obtain⟨o',e1⟩:=I.base.there b o e hx
  exact free b o' (neC b o e hx) e1 (I.base.free b o e n hx)
 ·obtain⟨o',e1⟩:=I.base.there b o e hx
  exact there b o' (neC b o e hx) e1
 ·obtain⟨m1,e1⟩:=I.base.tbls b ps e
  obtain⟨m2,e2⟩:=tbls b _ e1
  exact⟨m1++m2,by rw[e2,Zde]⟩
 ·obtain⟨m,hn,hl⟩:=I.loc
  refine⟨m,ns m hn,λ i x v e1 e2 e3=>?_⟩
  obtain⟨u,r,l⟩:=hl i x v e1 e2 e3
  refine⟨u,r,?_⟩
  rcases l with l|⟨k,c,e,z⟩
  ·exact .inl l
  ·exact .inr ⟨k,c,e,cellK x c e _ z⟩
 ·obtain⟨v,z⟩:=I.cell x c e
  exact⟨v,cellK x c e v z⟩
 ·obtain⟨m,⟨o,_,_,ho,_⟩,_⟩:=I.loc
  exact free _ o (λ z=>(hch _ z).2.1 rfl) ho I.free
 ·obtain⟨v,o,ho,hd⟩:=I.cell x c e
  exact free c o (λ z=>(hch c z).2.2.1 x c e rfl) ho (I.freeC x c e)
 ·obtain⟨e,n,ne,nf,d⟩:=I.pin p hp
  have nch:p.1∉ch:=λ z=>(hch p.1 z).2.2.2 p hp rfl
  exact⟨keep p.1 p.2 ne nf nch e n,free p.1 p.2 nch e n,ne,nf,d⟩
theorem Inv.un {t':Nat}(I:Inv X pj σ H s)(u:Un X.fs [] H H' s.heap h')(hok:HOk X.prog X.w H' h'):Inv X pj σ H' { s with heap:=h',toks:=t' }:=by
 obtain⟨m,⟨o,es,ep,ho,r⟩,_⟩:=id I.loc
 obtain⟨sl,hL⟩:=u.any ho I.free (by simp)
 exact I.step (g':=s.gens) (d':=s.drawn) (ch:=[]) (λ _ z=>nomatch z) (λ b o _ hb _ e n=>u.keep b o e n hb (by simp)) (λ b o _ hb _ e n=>u.slot b o e n hb (by simp)) (λ b o _ e n=>u.free b o e n (by simp)) (λ b o _ e=>u.there b o e (by simp)) u.tups u.frzs u.tbls (λ m' hm=>by
  obtain⟨o',es',ep',ho',r'⟩:=hm
  rw[ho] at ho';cases ho'
  exact⟨_,es',ep',hL,r'⟩) hok I.bare
theorem Inv.call {g':Array Ze2}{t':Nat}{d':Drawn}{ch:List Zi}(I:Inv X pj σ H s)(u:Un (frs X.stack) ch H H' s.heap h')(hok:HOk X.prog X.w H' h')(hg:ZcU g')
  (hch:∀b∈ch,(b∈X.ex∨X.s₀.heap.objs.size<=b)/\b≠X.env.locals/\(∀x c,X.env.cells.lookup x=Za c->c≠b)/\∀p∈X.pn++pj,p.1≠b) :
  Inv X pj σ H' { s with heap:=h',gens:=g',drawn:=d',toks:=t' }:=by
 obtain⟨m,⟨o,es,ep,ho,r⟩,_⟩:=id I.loc
 obtain⟨sl,hL⟩:=u.any ho I.free λ z=>(hch _ z).2.1 rfl
 exact I.step (ch:=ch) hch (λ b o hL hb hc e n=>u.keep b o e n (λ z=>(Zt.mp (I.stkSub b z)).elim hL hb) hc) (λ b o _ _ hc e n=>u.any e n hc) (λ b o hc e n=>u.free b o e n hc) (λ b o hc e=>u.there b o e hc) u.tups u.frzs u.tbls (λ m' hm=>by
  obtain⟨o',es',ep',ho',r'⟩:=hm
  rw[ho] at ho';cases ho'
  exact⟨_,es',ep',hL,r'⟩) hok hg
theorem Inv.turned {t':Nat}{it:Zi}(I:Inv X pj σ H s)(k:∀b o,b≠it->s.heap.get? b=Za o->h'.get? b=Za o)(hn:H it=Ze)(hL:it≠X.env.locals)
  (h1:it∈X.ex∨X.s₀.heap.objs.size<=it)(h2:∀x c,X.env.cells.lookup x=Za c->c≠it)(h3:∀p∈X.pn++pj,p.1≠it):Inv X pj σ H { s with heap:=h',toks:=t' }:=by
 have nit:∀b u,H b=Za u->b≠it:=λ b u e z=>by rw[z,hn] at e;cases e
 refine I.step (g':=s.gens) (d':=s.drawn) (ch:=[it]) (λ b hb=>?_) (λ b o _ _ hc e _=>k b o (λ z=>hc (by simp[z])) e) (λ b o _ _ hc e _=>⟨o.slots,k b o (λ z=>hc (by simp[z])) e⟩) (λ _ _ _ _ n=>n)
  (λ b o hc e=>⟨o,k b o (λ z=>hc (by simp[z])) e⟩) (λ _ _ e=>e) (λ _ _ _ e=>e) (λ b ps e=>⟨#[],by rw[e];simp⟩) (λ m hm=>?_) (λ b u e=>?_) I.bare
 ·have e:b=it:=by simpa using hb
  subst e
  exact⟨h1,hL,h2,h3⟩
 ·obtain⟨o,es,ep,ho,r⟩:=hm
  exact⟨o,es,ep,k _ o (Zao hL) ho,r⟩
 ·refine(I.hok b u e).stay (λ c v hc q=>k c v ?_ q) (λ _ q=>q) λ _ _ q=>q
  rcases hc with z|z
  ·rw[z];exact nit b u e
  ·exact nit c _ z
theorem Inv.tok (I:Inv X pj σ H s)(t:Nat):Inv X pj σ H { s with toks:=t }:=I.un (h':=s.heap) (t':=t) Un.refl I.hok
theorem Inv.kept {t':Nat}(I:Inv X pj σ H s)(k:∀b u,s.heap.get? b=Za u->h'.get? b=Za u):Inv X pj σ H { s with heap:=h',toks:=t' }:=I.un (Un.kept k) (I.hok.kept k)
theorem Inv.laid {a:Zi}{o:HO}{t':Nat}(I:Inv X pj σ H s)(k:∀b u,s.heap.get? b=Za u->h'.get? b=Za u)(hp:s.heap.objs.size<=a)(new:Qa X.prog X.w (upd H a o) h' a o) :
  Inv X pj σ (upd H a o) { s with heap:=h',toks:=t' }:=I.un (Un.laid k hp (I.hok.fresh hp)) (I.hok.laid k hp new)
theorem Inv.write {x e:Zi}{o:HO}{t':Nat}(I:Inv X pj σ H s)(mu:Mut (H x))(he:e=x∨H e=Za (.own x))(k:∀b u,b≠e->s.heap.get? b=Za u->h'.get? b=Za u)(heo:∃u,h'.get? e=Za u)
  (new:Qa X.prog X.w (upd H x o) h' x o):Inv X pj σ (upd H x o) { s with heap:=h',toks:=t' }:=I.un (Un.write mu he k heo) (I.hok.write mu he k heo new)
theorem Inv.pins_of {pj':PnT}(I:Inv X pj σ H s)(h:∀p∈pj',s.heap.get? p.1=Za p.2/\H p.1=Ze/\p.1≠X.env.locals/\p.1∉X.fs/\∀v,p.2.data≠.cell v):Inv X pj' σ H s :=
 ⟨I.ok,I.os,I.bare,I.base,I.loc,I.cell,I.free,I.freeC,λ p hp=>(Zr.mp hp).elim (λ z=>I.pin p (ZbU _ z)) (h p),I.hok,I.len⟩
theorem Jja {N:List Str}(hN:N.Nodup){i j:Nat}{x:Str}(a:N[i]?=Za x)(b:N[j]?=Za x):i=j:=by
 obtain⟨h1,e1⟩:=ZB.mp a
 obtain⟨h2,e2⟩:=ZB.mp b
 exact(Zd6 hN).mp (e1.trans e2.symm)
theorem Jqr {M:Model}{A:ZO}{E:QvT}{i:Nat}{x:Str}{v:V}{u:Zg}{Q:Unit->Zj->Prop}(I:Inv X pj σ H s)(hN:X.N.Nodup)(hi:X.N[i]?=Za x)(hx:Loc X.env.scope x)(r:RelV v u)
  (h:∀s',Inv X pj (σ.set i (Za v)) H s'->(∃a,ZbK a s.heap s'.heap/\(a=X.env.locals∨X.env.cells.lookup x=Za a))->Q () s')(hf:X.fn x=Zh∨X.env.scope.names.lookup x=Za .local:=by assumption):Zz M A (storeName X.env x u) Q E s:=by
 obtain⟨m,hn,hl⟩:=id I.loc
 have hcls:(X.env.scope.kind==.class||(X.env.scope.kind==.module&&X.env.locals != X.env.globals))=Zc:=by rw[I.ok.kind];rfl
 have hiσ:i<σ.length:=by rw[I.len];exact(ZB.mp hi).1
 have cne:=I.cne
 have tracked:∀{a:Zi}{h':Zak},(∃o,s.heap.get? a=Za o/\H a=Ze)->ZbK a s.heap h'->HOk X.prog X.w H h':=λ {a h'} ha hs b ob e=>by
  obtain⟨_,_,hfree⟩:=ha
  refine(I.hok b ob e).stay (λ c w' hc q=>(hs.2 c ?_).trans q) (λ _ q=>q) λ _ _ q=>q
  rintro rfl
  rcases hc with rfl|hc
  ·rw[hfree] at e;cases e
  ·rw[hfree] at hc;cases hc
 rcases hx with hk|hk
 ·refine wpAny_storeName_local hk hn (λ h' hn' hs=>?_) hcls
  obtain⟨oL,_,_,hoL,_⟩:=id hn
  refine h _ ⟨I.ok,I.os,I.bare,⟨λ b o e n hb hx=>?_,λ b o e n hb hx=>?_,I.base.free,λ b o e hx=>?_,I.base.tups,I.base.frzs,I.base.tbls⟩,⟨_,hn',λ j y v' e1 e2 e3=>?_⟩,λ y c e=>?_,I.free,I.freeC,λ p hp=>?_,tracked ⟨oL,hoL,I.free⟩ hs,by simpa using I.len⟩ ⟨_,hs,.inl rfl⟩
  ·exact(hs.2 b (ZK (ZY (Z4 e) I.ok.above))).trans (I.base.keep b o e n hb hx)
  ·obtain⟨sl,e1⟩:=I.base.slot b o e n hb hx
   exact⟨sl,(hs.2 b (ZK (ZY (Z4 e) I.ok.above))).trans e1⟩
  ·obtain⟨o',e1⟩:=I.base.there b o e hx
   exact⟨o',(hs.2 b (ZK (ZY (Z4 e) I.ok.above))).trans e1⟩
  ·by_cases hj:j=i
   ·subst hj
    rw[hi] at e1;cases e1
    rw[Z1 hiσ] at e2
    cases e2
    exact⟨u,r,.inl ⟨hk,by simp⟩⟩
   ·rw[ZP (Zao hj)] at e2
    obtain⟨u',r',q⟩:=hl j y v' e1 e2 e3
    refine⟨u',r',?_⟩
    rcases q with⟨k,e⟩|⟨k,c,e,z⟩
    ·refine .inl ⟨k,?_⟩
     have:y≠x:=λ e=>hj (Jja hN e1 (e▸hi))
     simp[this,e]
    ·exact .inr ⟨k,c,e,z.sameBut hs (cne y c e)⟩
  ·obtain⟨w',z⟩:=I.cell y c e
   exact⟨w',z.sameBut hs (cne y c e)⟩
  ·obtain⟨e,n,ne,nf,d⟩:=I.pin p hp
   exact⟨(hs.2 p.1 ne).trans e,n,ne,nf,d⟩
 ·have hfn:X.fn x=Zh:=by
   rcases hf with z|z
   ·exact z
   ·rw[z] at hk;cases hk
  obtain⟨c,hc⟩:=I.ok.has x (.inl hk)
  obtain⟨w',z⟩:=I.cell x c hc
  refine wpAny_storeName_cell I.ok.kind hk hc z (λ h' hc' hs=>?_)
  obtain⟨oc,hoc,hocd⟩:=id z
  refine h { s with heap:=h' } ⟨I.ok,I.os,I.bare,⟨λ b o e n hb hx=>?_,λ b o e n hb hx=>?_,I.base.free,λ b o e hx=>?_,I.base.tups,I.base.frzs,I.base.tbls⟩,⟨m,hn.sameBut hs (Zao (cne x c hc)),λ j y v' e1 e2 e3=>?_⟩,λ y c' e=>?_,I.free,I.freeC,λ p hp=>?_,tracked ⟨oc,hoc,I.freeC x c hc⟩ hs,by simpa using I.len⟩ ⟨c,hs,.inr hc⟩
  ·exact(hs.2 b (ZK (ZY (Z4 e) (I.ok.cab x c hfn hc)))).trans (I.base.keep b o e n hb hx)
  ·obtain⟨sl,e1⟩:=I.base.slot b o e n hb hx
   exact⟨sl,(hs.2 b (ZK (ZY (Z4 e) (I.ok.cab x c hfn hc)))).trans e1⟩
  ·obtain⟨o',e1⟩:=I.base.there b o e hx
   exact⟨o',(hs.2 b (ZK (ZY (Z4 e) (I.ok.cab x c hfn hc)))).trans e1⟩
  ·by_cases hj:j=i
   ·subst hj
    rw[hi] at e1;cases e1
    rw[Z1 hiσ] at e2
    cases e2
    exact⟨u,r,.inr ⟨.inl hk,c,hc,hc'⟩⟩
   ·rw[ZP (Zao hj)] at e2
    obtain⟨u',r',q⟩:=hl j y v' e1 e2 e3
    refine⟨u',r',?_⟩
    rcases q with q|⟨k,c',e,z'⟩
    ·exact .inl q
    ·refine .inr ⟨k,c',e,z'.sameBut hs ?_⟩
     rintro rfl
     exact hj (Jja hN e1 (I.ok.inj _ _ _ e hc▸hi))
  ·by_cases hcc:c'=c
   ·subst hcc;exact⟨_,hc'⟩
   ·obtain⟨w2,z2⟩:=I.cell y c' e
    exact⟨w2,z2.sameBut hs hcc⟩
  ·obtain⟨e,n,ne,nf,d⟩:=I.pin p hp
   refine⟨(hs.2 p.1 ?_).trans e,n,ne,nf,d⟩
   intro q
   rw[q,hoc] at e
   have q':oc=p.2:=Zaw e
   exact d w' (by rw[<- q'];exact hocd)
theorem Nj {M:Model}{A:ZO}{E:QvT}{i:Nat}{x:Str}{v:V}{u:Zg}{Q:Unit->Zj->Prop}(I:Inv X pj σ H s)(hN:X.N.Nodup)(hi:X.N[i]?=Za x)(hx:Loc X.env.scope x)(r:RelV v u)
  (h:∀s',Inv X pj (σ.set i (Za v)) H s'->Q () s')(hf:X.fn x=Zh∨X.env.scope.names.lookup x=Za .local:=by assumption):Zz M A (storeName X.env x u) Q E s :=
 Jqr I hN hi hx r (λ s' I' _=>h s' I') hf
theorem Inv.call' {s':Zj}{ch:List Zi}(I:Inv X pj σ H s)(ho:s'.os=s.os)(u:Un (frs X.stack) ch H H' s.heap s'.heap)(hok:HOk X.prog X.w H' s'.heap)(hg:ZcU s'.gens)
  (hch:∀b∈ch,(b∈X.ex∨X.s₀.heap.objs.size<=b)/\b≠X.env.locals/\(∀x c,X.env.cells.lookup x=Za c->c≠b)/\∀p∈X.pn++pj,p.1≠b):Inv X pj σ H' s':=by
 obtain⟨h',g',d',t',o'⟩:=s'
 have e:o'=s.os:=ho
 subst e
 exact I.call (g':=g') (t':=t') (d':=d') u hok hg hch
end
abbrev XK:=Zg->Option Zi->Hp->Prop
abbrev St:=List (Option V)
abbrev VK:=V->Hp->Prop
abbrev TE:=St->Hp->VK->Prop
abbrev TT:=St->Hp->(Bool->Hp->Prop)->Prop
abbrev TA:=St->Hp->(List V->Hp->Prop)->Prop
structure Ends where
 nx:St->Hp->Prop
 rt:VK
 bk:St->Hp->Prop:=λ _ _=>False
 ct:St->Hp->Prop:=λ _ _=>False
abbrev TS:=Ends->St->Hp->Prop
def EP (X:Cx)(pj:PnT)(σ:St)(Q:VK)(u:Zg)(s':Zj):Prop:=∃v H',Inv X pj σ H' s'/\RelV v u/\Q v H'
def TP (X:Cx)(pj:PnT)(σ:St)(Q:Bool->Hp->Prop)(b:Bool)(s':Zj):Prop:=∃H',Inv X pj σ H' s'/\Q b H'
def SP (X:Cx)(pj:PnT)(D:Ends)(f:Flow)(s':Zj):Prop :=
 match f with
 | .next=>∃σ' H',Inv X pj σ' H' s'/\D.nx σ' H'
 | .brk=>∃σ' H',Inv X pj σ' H' s'/\D.bk σ' H'
 | .cont=>∃σ' H',Inv X pj σ' H' s'/\D.ct σ' H'
 | .ret u=>∃v σ' H',Inv X pj σ' H' s'/\RelV v u/\D.rt v H'
def PE (X:Cx)(e:Expr)(t:TE):Prop :=
 ∀(pj:PnT)(s:Zj)(σ:St)(H:Hp)(Q:VK),Inv X pj σ H s->t σ H Q->Zz (ZE X.prog X.w) X.A (ZaV e X.env) (EP X pj σ Q) X.xe s
def PT (X:Cx)(e:Expr)(t:TT):Prop :=
 ∀(pj:PnT)(s:Zj)(σ:St)(H:Hp)(Q:Bool->Hp->Prop),Inv X pj σ H s->t σ H Q->Zz (ZE X.prog X.w) X.A (Zew e X.env (ZaV e X.env)) (TP X pj σ Q) X.xe s
def PW (X:Cx)(e:Expr)(t:TT):Prop :=
 ∀(whole:Sem Zg)(pj:PnT)(s:Zj)(σ:St)(H:Hp)(Q:Bool->Hp->Prop),Inv X pj σ H s->t σ H Q->Zz (ZE X.prog X.w) X.A (Zew e X.env whole) (TP X pj σ Q) X.xe s
theorem PW.pt {X:Cx}{e:Expr}{t:TT}(h:PW X e t):PT X e t:=h _
def PSs (X:Cx)(st:List Zbu)(t:TS):Prop :=
 ∀(pj:PnT)(s:Zj)(σ:St)(H:Hp)(D:Ends),Inv X pj σ H s->t D σ H->Zz (ZE X.prog X.w) X.A (execs st X.env) (SP X pj D) X.xe s
theorem thn {α:Type}{t:Sem α}{Q Q':α->Zj->Prop}{M:Model}{A:ZO}{E:QvT}{s:Zj}(h:Zz M A t Q E s)(hQ:∀a s,Q a s->Q' a s):Zz M A t Q' E s:=Zan h hQ λ _ _ x=>x
section
variable {X:Cx}
def tVar (i:Nat):TE:=λ σ H Q=>∃v,σ[i]?=Za (Za v)/\Q v H
def tC (v:V):TE:=λ _ H Q=>Q v H
theorem Jy5 {i:Nat}{x:Str}{pos:Pos}(hN:X.N[i]?=Za x)(hv:Vis X.env.scope x)(hd:(x==("__debug__":Str))=Zc:=by decide)(hcd:(x==("__classdict__":Str))=Zc:=by decide):PE X (.Name x pos) (tVar i):=by
 intro pj s σ H Q I h
 obtain⟨v,e,h⟩:=h
 obtain⟨m,hn,hl⟩:=I.loc
 obtain⟨u,r,l⟩:=hl i x v hN e hv
 have fin:EP X pj σ Q u s:=⟨v,H,I,r,h⟩
 rcases l with⟨hk,hm⟩|⟨hk,c,hc,hcell⟩
 ·exact wpAny_Name (wpAny_loadName_local I.ok.kind hk hn hm fin) hd
 ·rcases hk with hk|hk
  ·exact wpAny_Name (wpAny_loadName_cell I.ok.kind hk hc hcell fin) hd
  ·exact wpAny_Name (wpAny_loadName_free I.ok.kind hk hc hcell fin hcd) hd
theorem Jy2 {i j pos}:PE X (.Constant (.int i) j pos) (tC (.int i)):=λ _ _ _ H _ I h=>wpAny_Constant_int ⟨.int i,H,I.tok _,⟨_,rfl⟩,h⟩
theorem J09 {b j pos}:PE X (.Constant (.bool b) j pos) (tC (.bl b)):=λ _ _ _ H _ I h=>Constant_bool ⟨.bl b,H,I,rfl,h⟩
theorem Jy3 {j pos}:PE X (.Constant .none j pos) (tC .non):=λ _ _ _ H _ I h=>Constant_none ⟨.non,H,I,rfl,h⟩
theorem Jy4 {x j pos}:PE X (.Constant (.str x) j pos) (tC (.str x)):=λ _ _ _ H _ I h=>Calls.Constant_str ⟨.str x,H,I.tok _,⟨_,rfl⟩,h⟩
def Gl (X:Cx)(x:Str):Prop:=X.env.kindOf x=Za .globalImplicit
theorem Xg {E:QvT}{pj:PnT}{s:Zj}{σ:St}{H:Hp}{x:Str}{u:Zg}{pos:Pos}{Q:QvT}(I:Inv X pj σ H s)(hg:Gl X x)(hm:X.mg x=Za u)(h:Q u s)
  (hd:(x==("__debug__":Str))=Zc:=by decide):Zz (ZE X.prog X.w) X.A (ZaV (.Name x pos) X.env) Q E s :=
 Zdg I.ok.kind hg (Calls.loadGlobal_global (by rw[I.ok.glob];exact I.mod.glob.keeps I.bk) hm h) hd
theorem V7 {E:QvT}{pj:PnT}{s:Zj}{σ:St}{H:Hp}{x:Str}{u:Zg}{pos:Pos}{Q:QvT}(I:Inv X pj σ H s)(hg:Gl X x)(hm:X.mg x=Ze)(hv:Zbo x=Za u)(h:Q u s)
  (hn:x≠"__name__":=by decide)(hd:(x==("__debug__":Str))=Zc:=by decide):Zz (ZE X.prog X.w) X.A (ZaV (.Name x pos) X.env) Q E s:=by
 obtain⟨mb,h1,h2⟩:=I.mod.blt
 exact Zdg I.ok.kind hg (Calls.loadGlobal_builtin (by rw[I.ok.glob];exact I.mod.glob.keeps I.bk) hm (by rw[I.ok.blt];exact h1.keeps I.bk) ((h2 x hn).trans hv) h) hd
theorem Jvv {x:Str}{v:V}{u:Zg}{pos:Pos}(hg:Gl X x)(hm:X.mg x=Za u)(r:RelV v u)(hd:(x==("__debug__":Str))=Zc:=by decide):PE X (.Name x pos) (tC v) :=
 λ _ _ _ H _ I h=>Xg I hg hm ⟨v,H,I,r,h⟩ hd
variable {a b:Expr}{ta tb:TE}{pos:Pos}
variable {tA tB':TT}{rest:List Expr}
end
def SqL (K:W.Frag)(H:Hp)(a:Zi)(xs:List V):Prop :=
 Rd H a (.lst xs) ∨
  ∃(o:Obj) (its:Array Zg) (n:Nat),K.lookup a=Za o/\o.cls=.type "list"/\o.dict=Ze/\o.data=.seq its n/\its.size<=sizeLine/\Vals xs its.toList
def SqT (K:W.Frag)(H:Hp)(a:Zi)(xs:List V):Prop :=
 Rd H a (.tup xs) ∨
  ∃(o:Obj) (its:Array Zg) (n:Nat),K.lookup a=Za o/\o.cls=.type "tuple"/\o.data=.seq its n/\its.size<=sizeLine/\Vals xs its.toList
def absV:Zg->Option V
 | .none=>Za .non
 | .bool b=>Za (.bl b)
 | .int i _=>Za (.int i)
 | .str x _=>Za (.str x)
 | .bytes b _=>Za (.byt b)
 | .float b _=>Za (.flt b)
 | .ref a=>Za (.ref a)
 | .type n=>Za (.ty n)
 | _=>Ze
theorem RelV.abs {x:V}{u:Zg}(r:RelV x u):absV u=Za x:=by
 cases x with
 | non=>cases r;rfl
 | bl _=>cases r;rfl
 | int _=>obtain⟨t,rfl⟩:=r;rfl
 | str _=>obtain⟨t,rfl⟩:=r;rfl
 | byt _=>obtain⟨t,rfl⟩:=r;rfl
 | flt _=>obtain⟨t,rfl⟩:=r;rfl
 | ref _=>cases r;rfl
 | ty _=>cases r;rfl
theorem RelV.inj {x y:V}{u:Zg}(r:RelV x u)(q:RelV y u):x=y:=Zaw (r.abs.symm.trans q.abs)
theorem Vals.inj:∀{xs ys:List V}{us:List Zg},Vals xs us->Vals ys us->xs=ys
 | _,_,_,.nil,.nil=>rfl
 | _,_,_,.cons r t,.cons r' t'=>by rw[r.inj r',Vals.inj t t']
section
variable {X:Cx}{pj:PnT}{σ:St}{H:Hp}{s:Zj}{a:Zi}{xs ys:List V}
theorem SqL.of {K:W.Frag}(h:H a=Za (.lst xs)):SqL K H a xs:=.inl (.inl h)
theorem SqT.of {K:W.Frag}(h:H a=Za (.tup xs)):SqT K H a xs:=.inl (.inl h)
theorem Inv.list (I:Inv X pj σ H s)(h:SqL X.K H a xs):∃its:List Zg,Vals xs its/\PlainL s.heap a its.toArray/\xs.length<=sizeLine:=by
 rcases h with h|⟨o,its,n,hk,hc,hd,hs,hz,r⟩
 ·obtain⟨z,its,n,r,e⟩:=h.ok I.hok
  exact⟨its,r,⟨_,n,e,rfl,rfl,rfl⟩,z⟩
 ·refine⟨its.toList,r,⟨o,n,I.kIn a o hk,hc,hd,by simpa using hs⟩,?_⟩
  have e:=r.length
  simp only[Za1] at e
  omega
theorem Inv.tuple (I:Inv X pj σ H s)(h:SqT X.K H a xs):∃its:List Zg,Vals xs its/\IsTup s.heap a its.toArray/\xs.length<=sizeLine:=by
 rcases h with h|⟨o,its,n,hk,hc,hs,hz,r⟩
 ·obtain⟨z,its,r,p⟩:=h.ok I.hok
  exact⟨its,r,p,z⟩
 ·refine⟨its.toList,r,⟨o,I.kIn a o hk,hc,n,by simpa using hs⟩,?_⟩
  have e:=r.length
  simp only[Za1] at e
  omega
theorem Inv.list_inj (I:Inv X pj σ H s)(h:SqL X.K H a xs)(h':SqL X.K H a ys):xs=ys:=by
 obtain⟨its,r,⟨o,n,e,_,_,d⟩,_⟩:=I.list h
 obtain⟨its',r',⟨o',n',e',_,_,d'⟩,_⟩:=I.list h'
 rw[e] at e';cases e'
 rw[d] at d'
 injection d' with d1 _
 have:its=its':=by simpa using congrArg Ze3 d1
 subst this
 exact r.inj r'
theorem Inv.tuple_inj (I:Inv X pj σ H s)(h:SqT X.K H a xs)(h':SqT X.K H a ys):xs=ys:=by
 obtain⟨its,r,⟨o,e,_,n,d⟩,_⟩:=I.tuple h
 obtain⟨its',r',⟨o',e',_,n',d'⟩,_⟩:=I.tuple h'
 rw[e] at e';cases e'
 rw[d] at d'
 injection d' with d1 _
 have:its=its':=by simpa using congrArg Ze3 d1
 subst this
 exact r.inj r'
end
abbrev Cx.wish (X:Cx)(E:QvT):Cx:={ X with xe:=E }
abbrev Cx.nox (X:Cx):Cx:=X.wish λ _ _=>False
theorem Cx.Ok.wish {X:Cx}(ok:X.Ok)(E:QvT):(X.wish E).Ok :=
 ⟨ok.mod,ok.kind,ok.glob,ok.blt,ok.above,ok.inj,ok.has,ok.cab,ok.hd,ok.frames,ok.stk,ok.exf,ok.bs,ok.bsz,ok.noex,ok.exfs,ok.funs,ok.frf⟩
theorem Cx.Ok.unwish {X:Cx}{E:QvT}(ok:(X.wish E).Ok):X.Ok :=
 ⟨ok.mod,ok.kind,ok.glob,ok.blt,ok.above,ok.inj,ok.has,ok.cab,ok.hd,ok.frames,ok.stk,ok.exf,ok.bs,ok.bsz,ok.noex,ok.exfs,ok.funs,ok.frf⟩
section
variable {X:Cx}{pj:PnT}{σ:St}{H:Hp}{s:Zj}{E:QvT}
theorem Inv.wish (I:Inv X pj σ H s)(E:QvT):Inv (X.wish E) pj σ H s:=⟨I.ok.wish E,I.os,I.bare,I.base,I.loc,I.cell,I.free,I.freeC,I.pin,I.hok,I.len⟩
theorem Inv.unwish (I:Inv (X.wish E) pj σ H s):Inv X pj σ H s:=⟨I.ok.unwish,I.os,I.bare,I.base,I.loc,I.cell,I.free,I.freeC,I.pin,I.hok,I.len⟩
theorem SP.unwish {D:Ends}{f:Flow}{s':Zj}(h:SP (X.wish E) pj D f s'):SP X pj D f s':=by
 cases f with
 | next=>obtain⟨σ',H',I,q⟩:=h;exact⟨σ',H',I.unwish,q⟩
 | brk=>obtain⟨σ',H',I,q⟩:=h;exact⟨σ',H',I.unwish,q⟩
 | cont=>obtain⟨σ',H',I,q⟩:=h;exact⟨σ',H',I.unwish,q⟩
 | ret u=>obtain⟨v,σ',H',I,r,q⟩:=h;exact⟨v,σ',H',I.unwish,r,q⟩
theorem PE.nox {e:Expr}{t:TE}(h:PE X.nox e t):PE X e t:=λ pj s σ H Q I hw =>
 Zan (h pj s σ H Q (I.wish _) hw) (λ _ _ ⟨v,H',I',r,q⟩=>⟨v,H',I'.unwish,r,q⟩) λ _ _ z=>ZaP z
theorem PT.nox {e:Expr}{t:TT}(h:PT X.nox e t):PT X e t:=λ pj s σ H Q I hw =>
 Zan (h pj s σ H Q (I.wish _) hw) (λ _ _ ⟨H',I',q⟩=>⟨H',I'.unwish,q⟩) λ _ _ z=>ZaP z
theorem PSs.nox {st:List Zbu}{t:TS}(h:PSs X.nox st t):PSs X st t:=λ pj s σ H D I hw =>
 Zan (h pj s σ H D (I.wish _) hw) (λ _ _ q=>q.unwish) λ _ _ z=>ZaP z
end
section
variable {X:Cx}{st:Zbu}{rest:List Zbu}{t u:TS}{e:Expr}{te:TE}{pos:Pos}
theorem Inv.quiet {pj:PnT}{σ:St}{H:Hp}{s:Zj}(I:Inv X pj σ H s):interactive X.env=Zc:=by simp[interactive,I.ok.kind]
end
abbrev TSet:=V->V->V->Hp->(Hp->Prop)->Prop
def PSet (X:Cx)(t:TSet):Prop :=
 ∀(pj:PnT)(s:Zj)(σ:St)(H:Hp)(o i v:V)(ov iv u:Zg)(Q:Hp->Prop),Inv X pj σ H s->RelV o ov->RelV i iv->RelV v u->t o i v H Q ->
  Zz (ZE X.prog X.w) X.A (setItem ov iv u) (λ _ s'=>∃H',Inv X pj σ H' s'/\Q H') X.xe s
section
variable {X:Cx}{pos:Pos}
end
structure It where
 go:Nat->Hp->Prop
 yld:Nat->Hp->V->Hp->Prop
 stop:Nat->Hp->Prop
def FpOk (X:Cx)(pj:PnT)(H:Hp)(b:Zi):Prop :=
 H b=Ze/\b≠X.env.locals/\b∉X.fs/\(b∈X.ex∨X.s₀.heap.objs.size<=b)/\(∀x c,X.env.cells.lookup x=Za c->c≠b)/\∀p∈X.pn++pj,p.1≠b
theorem Inv.fpOk {X:Cx}{pj:PnT}{σ:St}{H H':Hp}{s:Zj}{b:Zi}(I:Inv X pj σ H s)(hb:s.heap.objs.size<=b)(hn:H' b=Ze):FpOk X pj H' b:=by
 refine⟨hn,Zbp (ZY I.lt hb),I.nofs hb,.inr (Zau I.sz hb),λ x c e z=>?_,λ p hp z=>?_⟩
 ·obtain⟨v,q⟩:=I.cell x c e
  exact absurd (ZY q.lt (by rw[z];exact hb)) (Zcg _)
 ·exact absurd (ZY (Z4 (I.pin p hp).1) (by rw[z];exact hb)) (Zcg _)
structure Turn (P:ZG)(w:ZX)(K:W.Frag)(tg:Expr)(J:It)(fp:List Zi)(it:Zi)(tn:Nat->Zak->Prop):Prop where
 mem:it∈fp
 obj:∀i h,tn i h->∀b∈fp,∃o,h.get? b=Za o/\∀v,o.data≠.cell v
 keep:∀i h h',tn i h->(∀b∈fp,∀o,h.get? b=Za o->h'.get? b=Za o)->tn i h'
 item:∀(X:Cx),X.prog=P->X.w=w->X.K=K->X.calm=Zh->∀(i:Nat)(pj:PnT)(s:Zj)(σ:St)(H:Hp)(E:QvT),Inv X pj σ H s->(∀b∈fp,FpOk X pj H b)->tn i s.heap->J.go i H ->
  Zz (ZE P w) X.A (Zc8 (.ref it)) (λ r s1=>∃u,r=Za u /\
   Zz (ZE P w) X.A (Zcj tg (.ref it) u) (λ _ s2=>∃x H',Inv X pj σ H' s2/\RelV x u/\J.yld i H x H'/\tn (i+1) s2.heap/\∀b∈fp,H' b=Ze) E s1) E s
 done:∀(X:Cx),X.prog=P->X.w=w->X.K=K->X.calm=Zh->∀(i:Nat)(pj:PnT)(s:Zj)(σ:St)(H:Hp)(E:QvT),Inv X pj σ H s->(∀b∈fp,FpOk X pj H b)->tn i s.heap->J.stop i H ->
  Zz (ZE P w) X.A (Zc8 (.ref it)) (λ r s1=>r=Ze/\Inv X pj σ H s1) E s
 self:∀(A:ZO)(i:Nat)(s:Zj)(Q:QvT)(E:QvT),tn i s.heap->Q (.ref it) s->Zz (ZE P w) A (Zex (.ref it)) Q E s
def PIE (X:Cx)(pj:PnT)(σ:St)(tg:Expr)(R:It->Hp->Prop)(itv:Zg)(s2:Zj):Prop :=
 ∃(it:Zi)(fp:List Zi)(tn:Nat->Zak->Prop)(J:It)(H':Hp),itv=.ref it/\Inv X pj σ H' s2/\Turn X.prog X.w X.K tg J fp it tn/\tn 0 s2.heap/\(∀b∈fp,FpOk X pj H' b)/\R J H'
theorem YN {M:Model}{A:ZO}{E:QvT}{s:Zj}{tg:Expr}{it:Zi}{u:Zg}{o:Obj}{n:String}{vs:Array Zg}{Q:Unit->Zj->Prop}(ho:s.heap.get? it=Za o)(hc:o.cls=.type n)(hd:o.data=.fields vs)
  (hn:["enumerate","zip","dict_itemiterator","dict_reverseitemiterator","odict_iterator","itertools.zip_longest","itertools.pairwise"].contains n=Zc)(hQ:Q () s):Zz M A (Zcj tg (.ref it) u) Q E s:=by
 unfold Zcj
 cases tg<;>first
  | exact ZM hQ
  | (cases u<;>first
    | exact ZM hQ
    | (refine Zk (wpAny_load ho ?_)
       rw[hc,hd]
       show Zz M A (if (["enumerate","zip","dict_itemiterator","dict_reverseitemiterator","odict_iterator","itertools.zip_longest","itertools.pairwise"].contains n&&vs[0]?==Za (Zbq _))=Zh then _ else _) Q E s
       rw[if_neg (by intro h;rw[hn,Bool.false_and] at h;cases h)]
       exact ZM hQ))
def Itl (K:W.Frag)(a:Zi):It :=
 ⟨λ i H=>∃xs x,SqL K H a xs/\xs[i]?=Za x,λ i H x H'=>H'=H/\∀xs,SqL K H a xs->xs[i]?=Za x,λ i H=>∃xs,SqL K H a xs/\xs.length<=i⟩
def Itt (K:W.Frag)(a:Zi):It :=
 ⟨λ i H=>∃xs x,SqT K H a xs/\xs[i]?=Za x,λ i H x H'=>H'=H/\∀xs,SqT K H a xs->xs[i]?=Za x,λ i H=>∃xs,SqT K H a xs/\xs.length<=i⟩
def Itr (lo:Int)(n:Nat):It:=⟨λ i _=>i<n,λ i H x H'=>H'=H/\x=.int (lo+i),λ i _=>n<=i⟩
theorem Nk {P:ZG}{w:ZX}{K:W.Frag}{tg:Expr}(a it:Zi):Turn P w K tg (Itl K a) [it] it (λ i h=>h.IsListIter it a i) where
 mem:=by simp
 obj:=λ i h st b hb=>by
  have e:b=it:=by simpa using hb
  subst e
  obtain⟨o,e,c,d⟩:=st
  exact⟨o,e,λ v z=>by rw[d] at z;cases z⟩
 keep:=λ i h h' st k=>st.at λ o e=>k it (by simp) o e
 item:=by
  intro X hP hw hK hc i pj s σ H E I hf st hg
  subst hP hw hK
  obtain⟨xs,x,hq,hx⟩:=hg
  obtain⟨its,rv,p,hz⟩:=I.list hq
  obtain⟨u,hu,ru⟩:=rv.get hx
  obtain⟨f0,f1,f2,f3,f4,f5⟩:=hf it (by simp)
  refine Zcv st p.isList (x:=u) (by simpa using hu) λ h' st' sb=>?_
  have I1:Inv X pj σ H { s with heap:=h' }:=I.turned (t':=s.toks) (λ b o hb e=>(sb.2 b hb).trans e) f0 f1 f3 f4 f5
  obtain⟨o,e,c,d⟩:=id st'
  exact⟨u,rfl,YN (s:={ s with heap:=h' }) e c d (by decide) ⟨x,H,I1,ru,⟨rfl,λ ys hy=>by rw[I.list_inj hy hq];exact hx⟩,st',λ b hb=>(hf b hb).1⟩⟩
 done:=by
  intro X hP hw hK hc i pj s σ H E I hf st hg
  subst hP hw hK
  obtain⟨xs,hq,hx⟩:=hg
  obtain⟨its,rv,p,hz⟩:=I.list hq
  obtain⟨f0,f1,f2,f3,f4,f5⟩:=hf it (by simp)
  have hl:=rv.length
  exact ZdX (I.ok.hd hc) st p.isList (by simp;omega) λ h' eb=>⟨rfl,I.turned (t':=s.toks) (λ b o hb e=>eb b o hb e) f0 f1 f3 f4 f5⟩
 self:=λ _ _ _ _ _ st h=>wpAny_pyIter_listiter st h
theorem Job {P:ZG}{w:ZX}{K:W.Frag}{tg:Expr}(a it:Zi):Turn P w K tg (Itt K a) [it] it (λ i h=>h.IsTupleIter it a i) where
 mem:=by simp
 obj:=λ i h st b hb=>by
  have e:b=it:=by simpa using hb
  subst e
  obtain⟨o,e,c,d⟩:=st
  exact⟨o,e,λ v z=>by rw[d] at z;cases z⟩
 keep:=λ i h h' st k=>st.at λ o e=>k it (by simp) o e
 item:=by
  intro X hP hw hK hc i pj s σ H E I hf st hg
  subst hP hw hK
  obtain⟨xs,x,hq,hx⟩:=hg
  obtain⟨its,rv,p,hz⟩:=I.tuple hq
  obtain⟨u,hu,ru⟩:=rv.get hx
  obtain⟨f0,f1,f2,f3,f4,f5⟩:=hf it (by simp)
  refine wpAny_pyNext_tuple_item st (show s.heap.IsTuple a its.toArray from p) (x:=u) (by simpa using hu) λ h' st' sb=>?_
  have I1:Inv X pj σ H { s with heap:=h' }:=I.turned (t':=s.toks) (λ b o hb e=>(sb.2 b hb).trans e) f0 f1 f3 f4 f5
  obtain⟨o,e,c,d⟩:=id st'
  exact⟨u,rfl,YN (s:={ s with heap:=h' }) e c d (by decide) ⟨x,H,I1,ru,⟨rfl,λ ys hy=>by rw[I.tuple_inj hy hq];exact hx⟩,st',λ b hb=>(hf b hb).1⟩⟩
 done:=by
  intro X hP hw hK hc i pj s σ H E I hf st hg
  subst hP hw hK
  obtain⟨xs,hq,hx⟩:=hg
  obtain⟨its,rv,p,hz⟩:=I.tuple hq
  obtain⟨f0,f1,f2,f3,f4,f5⟩:=hf it (by simp)
  have hl:=rv.length
  exact wpAny_pyNext_tuple_end (I.ok.hd hc) st (show s.heap.IsTuple a its.toArray from p) (by simp;omega) λ h' eb=>⟨rfl,I.turned (t':=s.toks) (λ b o hb e=>eb b o hb e) f0 f1 f3 f4 f5⟩
 self:=λ _ _ _ _ _ st h=>wpAny_pyIter_tupleiter st h
theorem Joa {P:ZG}{w:ZX}{K:W.Frag}{tg:Expr}(it:Zi)(lo:Int)(n:Nat):Turn P w K tg (Itr lo n) [it] it (λ i h=>IsRangeIter h it (lo+(i:Nat)*1) ((n:Int)-(i:Nat)) 1) where
 mem:=by simp
 obj:=λ i h st b hb=>by
  have e:b=it:=by simpa using hb
  subst e
  exact⟨_,st,λ v z=>by
   have z':Data.fields _=Data.cell v:=z
   cases z'⟩
 keep:=λ i h h' st k=>k it (by simp) _ st
 item:=by
  intro X hP hw hK hc i pj s σ H E I hf st hg
  subst hP hw hK
  obtain⟨f0,f1,f2,f3,f4,f5⟩:=hf it (by simp)
  have W:=Walks.range (prog:=X.prog) (w:=X.w) (I.ok.hd hc) it lo 1 n
  refine W.item i s _ _ hg st λ v h' tk hv st' kk=>?_
  obtain⟨t,rfl⟩:=hv
  have I1:Inv X pj σ H { s with heap:=h',toks:=tk }:=I.turned (λ b o hb e=>kk b o (by simpa using hb) e) f0 f1 f3 f4 f5
  refine⟨_,rfl,YN (s:={ s with heap:=h',toks:=tk }) (n:="range_iterator") st' rfl rfl (by decide) ⟨.int (lo+i),H,I1,⟨t,?_⟩,⟨rfl,rfl⟩,st',λ b hb=>(hf b hb).1⟩⟩
  rw[Int.mul_one]
 done:=by
  intro X hP hw hK hc i pj s σ H E I hf st hg
  subst hP hw hK
  obtain⟨f0,f1,f2,f3,f4,f5⟩:=hf it (by simp)
  exact wpAny_pyNext_range_end (I.ok.hd hc) st (by have:n<=i:=hg;omega) λ h' eb=>⟨rfl,I.turned (t':=s.toks) (λ b o hb e=>eb b o hb e) f0 f1 f3 f4 f5⟩
 self:=λ _ _ _ _ _ st h=>wpAny_pyIter_rangeiter st h
section
variable {X:Cx}{tg:Expr}
theorem Jsg {pj:PnT}{σ:St}{H:Hp}{s:Zj}{R:It->Hp->Prop}{E:QvT}{lo hi:Int}{t u v:Tok}{tk:Nat}(I:Inv X pj σ H s)(h1: -(2^62)<=lo)(h2:lo<2^62)(h3: -(2^62)<=hi)(h4:hi<2^62)
  (q:R (Itr lo (hi-lo).toNat) H):Zz (ZE X.prog X.w) X.A (Zex (.ref s.heap.objs.size)) (PIE X pj σ tg R) E { s with heap:=s.heap.push { cls:=.type "range",data:=.fields #[.int lo t,.int hi u,.int 1 v] },toks:=tk }:=by
 refine wpAny_pyIter_range (IsRange.new ..) (small_one h1 h2 h3 h4) ?_
 have I1:Inv X pj σ H { s with heap:=s.heap.push { cls:=.type "range",data:=.fields #[.int lo t,.int hi u,.int 1 v] },toks:=tk }:=I.kept λ b o e=>Zm _ e
 refine⟨(s.heap.push { cls:=.type "range",data:=.fields #[.int lo t,.int hi u,.int 1 v] }).objs.size,[(s.heap.push { cls:=.type "range",data:=.fields #[.int lo t,.int hi u,.int 1 v] }).objs.size],_,_,H,rfl,
  I1.kept (t':=tk) λ b o e=>Zm _ e,Joa _ lo (hi-lo).toNat,?_,λ b hb=>?_,q⟩
 ·have e1:lo+((0:Nat):Int)*1=lo:=by simp
  have e2:(((hi-lo).toNat:Nat):Int)-((0:Nat):Int)=Builtin.Range.rangeSize lo hi 1:=by rw[rangeSize_one];split<;>omega
  show IsRangeIter _ _ (lo+((0:Nat):Int)*1) ((((hi-lo).toNat:Nat):Int)-((0:Nat):Int)) 1
  rw[e1,e2]
  exact Z8 _ rfl
 ·have e:b=(s.heap.push { cls:=.type "range",data:=.fields #[.int lo t,.int hi u,.int 1 v] }).objs.size:=by simpa using hb
  subst e
  exact I1.fpOk (Zu _) (I1.hok.fresh (Zu _))
def VA (fp:List Zi)(h:Zak):PnT:=fp.filterMap λ b=>(h.get? b).map λ o=>(b,o)
theorem YV {fp:List Zi}{h:Zak}{b:Zi}{o:Obj}(hb:b∈fp)(e:h.get? b=Za o):(b,o)∈VA fp h:=Zdh.mpr ⟨b,hb,by rw[e];rfl⟩
theorem Jp8 {fp:List Zi}{h:Zak}{p:Zi×Obj}(hp:p∈VA fp h):p.1∈fp/\h.get? p.1=Za p.2:=by
 obtain⟨b,hb,e⟩:=Zdh.mp hp
 cases q:h.get? b with
 | none=>rw[q] at e;cases e
 | some o =>
  rw[q] at e
  have e':(b,o)=p:=Zaw e
  subst e'
  exact⟨hb,q⟩
theorem Inv.pinned {pj:PnT}{σ:St}{H:Hp}{s:Zj}{fp:List Zi}(I:Inv X pj σ H s)(hf:∀b∈fp,FpOk X pj H b)(ho:∀b∈fp,∃o,s.heap.get? b=Za o/\∀v,o.data≠.cell v):Inv X (pj++VA fp s.heap) σ H s :=
 I.pins_of λ p hp=>(Zr.mp hp).elim (λ z=>I.pin p (Zae _ z)) λ z=>by
  obtain⟨hb,e⟩:=Jp8 z
  obtain⟨f0,f1,f2,_⟩:=hf p.1 hb
  obtain⟨o,e',d⟩:=ho p.1 hb
  rw[e] at e';cases e'
  exact⟨e,f0,f1,f2,d⟩
theorem Inv.unpinned {pj pl:PnT}{σ:St}{H:Hp}{s:Zj}(I:Inv X (pj++pl) σ H s):Inv X pj σ H s:=I.pins_of λ p hp=>I.pin p (Zae _ (ZbU _ hp))
end
abbrev R2:=V->V->Hp->VK->Prop
def OpR (X:Cx)(f:Zg->Zg->Sem Zg)(r:R2):Prop :=
 ∀(pj:PnT)(s:Zj)(σ:St)(H:Hp)(x y:V)(v u:Zg)(Q:VK),Inv X pj σ H s->RelV x v->RelV y u->r x y H Q ->
  Zz (ZE X.prog X.w) X.A (f v u) (EP X pj σ Q) X.xe s
def UnR (X:Cx)(f:Zg->Sem Zg)(r:V->Hp->VK->Prop):Prop :=
 ∀(pj:PnT)(s:Zj)(σ:St)(H:Hp)(x:V)(v:Zg)(Q:VK),Inv X pj σ H s->RelV x v->r x H Q ->
  Zz (ZE X.prog X.w) X.A (f v) (EP X pj σ Q) X.xe s
def Xw (X:Cx)(f:Zg)(r:List V->Hp->VK->Prop):Prop :=
 ∀(pj:PnT)(s:Zj)(σ:St)(H:Hp)(xs:List V)(us:List Zg)(Q:VK),Inv X pj σ H s->Vals xs us->r xs H Q ->
  Zz (ZE X.prog X.w) X.A (call f us) (EP X pj σ Q) X.xe s
def TruR (X:Cx)(r:V->Hp->(Bool->Hp->Prop)->Prop):Prop :=
 ∀(pj:PnT)(s:Zj)(σ:St)(H:Hp)(x:V)(v:Zg)(Q:Bool->Hp->Prop),Inv X pj σ H s->RelV x v->r x H Q ->
  Zz (ZE X.prog X.w) X.A (truthy v) (TP X pj σ Q) X.xe s
def rI (C:Int->Int->Prop)(g:Int->Int->V):R2:=λ x y H Q=>∃i j,x=.int i/\y=.int j/\C i j/\Q (g i j) H
def rI0 (g:Int->Int->V):R2:=λ x y H Q=>∃i j,x=.int i/\y=.int j/\Q (g i j) H
def rU (g:Int->V):V->Hp->VK->Prop:=λ x H Q=>∃i,x=.int i/\Q (g i) H
section
variable {X:Cx}{a b c:Expr}{ta tb tc:TE}{pos:Pos}
theorem opI {f:Zg->Zg->Sem Zg}{C:Int->Int->Prop}{g:Int->Int->Int}
  (rule:∀(i j:Int)(t u:Tok)(s:Zj)(Q:QvT)(E:QvT),C i j->Q (.int (g i j) s.toks) { s with toks:=s.toks+1 }->Zz (ZE X.prog X.w) X.A (f (.int i t) (.int j u)) Q E s) :
  OpR X f (rI C λ i j=>.int (g i j)):=by
 intro pj s σ H x y v u Q I rx ry h
 obtain⟨i,j,rfl,rfl,hc,q⟩:=h
 obtain⟨t,rfl⟩:=rx
 obtain⟨t',rfl⟩:=ry
 exact rule i j t t' s _ _ hc ⟨.int (g i j),H,I.tok _,⟨_,rfl⟩,q⟩
theorem opI0 {f:Zg->Zg->Sem Zg}{g:Int->Int->Int}
  (rule:∀(i j:Int)(t u:Tok)(s:Zj)(Q:QvT)(E:QvT),Q (.int (g i j) s.toks) { s with toks:=s.toks+1 }->Zz (ZE X.prog X.w) X.A (f (.int i t) (.int j u)) Q E s) :
  OpR X f (rI0 λ i j=>.int (g i j)):=by
 intro pj s σ H x y v u Q I rx ry h
 obtain⟨i,j,rfl,rfl,q⟩:=h
 obtain⟨t,rfl⟩:=rx
 obtain⟨t',rfl⟩:=ry
 exact rule i j t t' s _ _ ⟨.int (g i j),H,I.tok _,⟨_,rfl⟩,q⟩
theorem opB0 {f:Zg->Zg->Sem Zg}{g:Int->Int->Bool}
  (rule:∀(i j:Int)(t u:Tok)(s:Zj)(Q:QvT)(E:QvT),Q (.bool (g i j)) s->Zz (ZE X.prog X.w) X.A (f (.int i t) (.int j u)) Q E s) :
  OpR X f (rI0 λ i j=>.bl (g i j)):=by
 intro pj s σ H x y v u Q I rx ry h
 obtain⟨i,j,rfl,rfl,q⟩:=h
 obtain⟨t,rfl⟩:=rx
 obtain⟨t',rfl⟩:=ry
 exact rule i j t t' s _ _ ⟨.bl (g i j),H,I,rfl,q⟩
def CPow (i j:Int):Prop:=0<=j/\j<=1000000/\i.natAbs<2^64
def CMul (i j:Int):Prop:=(-(2^64)<i/\i<2^64)∨(-(2^64)<j/\j<2^64)
theorem CMul.ok {i j:Int}(h:CMul i j):IntMulOk i j:=by
 rcases h with⟨h1,h2⟩|⟨h1,h2⟩
 ·exact .of_left (Zdx h1 h2)
 ·exact .of_right (Zdx h1 h2)
theorem Jys:OpR X (ZaQ .Add) (rI0 λ i j=>.int (i+j)):=opI0 λ _ _ _ _ _ _ _ q=>add_int q
theorem Jyx:OpR X (ZaQ .Sub) (rI0 λ i j=>.int (i-j)):=opI0 λ _ _ _ _ _ _ _ q=>sub_int q
theorem Jyu:OpR X (ZaQ .Mod) (rI (λ _ j=>0<j) λ i j=>.int (i%j)):=opI λ i j _ _ _ _ _ hc q=>by
 have h1:(0:Int)<j:=hc
 exact mod_int' (by omega) (by rw[Int.fmod_eq_emod_of_nonneg i (by omega)];exact q)
theorem Jyv:OpR X (ZaQ .Pow) (rI CPow λ i j=>.int (i^j.toNat)):=opI λ _ _ _ _ _ _ _ hc q=>pow_int_small hc.1 hc.2.1 hc.2.2 q
theorem unI {f:Zg->Sem Zg}{g:Int->Int}
  (rule:∀(i:Int)(t:Tok)(s:Zj)(Q:QvT)(E:QvT),Q (.int (g i) s.toks) { s with toks:=s.toks+1 }->Zz (ZE X.prog X.w) X.A (f (.int i t)) Q E s) :
  UnR X f (rU λ i=>.int (g i)):=by
 intro pj s σ H x v Q I rx h
 obtain⟨i,rfl,q⟩:=h
 obtain⟨t,rfl⟩:=rx
 exact rule i t s _ _ ⟨.int (g i),H,I.tok _,⟨_,rfl⟩,q⟩
theorem Jzw:UnR X (unaryOp .USub) (rU λ i=>.int (-i)):=unI λ _ _ _ _ _ q=>neg_int q
end
def scal:V->V->Bool
 | .non,.non=>Zh|.non,.int _=>Zh|.int _,.non=>Zh|.non,.bl _=>Zh|.bl _,.non=>Zh|.non,.str _=>Zh|.str _,.non=>Zh
 | .int _,.int _=>Zh|.bl _,.bl _=>Zh|.str _,.str _=>Zh|.byt _,.byt _=>Zh
 | .int _,.str _=>Zh|.str _,.int _=>Zh|.bl _,.str _=>Zh|.str _,.bl _=>Zh
 | _,_=>Zc
def rEq:R2:=λ x y H Q=>scal x y=Zh/\Q (.bl (decide (x=y))) H
def rNe:R2:=λ x y H Q=>scal x y=Zh/\Q (.bl (!decide (x=y))) H
theorem Jox {i j:Int}:decide (V.int i=V.int j)=(i==j):=by
 rw[ZcM]
 simp
theorem Jtd {i j:Bool}:decide (V.bl i=V.bl j)=(i==j):=by
 rw[ZcM]
 simp
theorem Joy {i j:Str}:decide (V.str i=V.str j)=(i==j):=by
 rw[ZcM]
 simp
theorem Jow {i j:Array UInt8}:decide (V.byt i=V.byt j)=(i.toList==j.toList):=by
 rw[ZcM]
 cases i
 cases j
 simp
section
variable {X:Cx}{a b c:Expr}{ta tb tc:TE}{pos:Pos}
theorem JC {pj:PnT}{σ:St}{H:Hp}{s:Zj}{Q:VK}{k k':Bool}(I:Inv X pj σ H s)(q:Q (.bl k) H)(e:k=k'):EP X pj σ Q (.bool k') s:=by
 subst e
 exact⟨.bl k,H,I,rfl,q⟩
theorem J03:OpR X (Zav .Eq) rEq:=by
 intro pj s σ H x y v u Q I rx ry h
 obtain⟨hs,q⟩:=h
 cases x with
 | non =>
  cases rx
  cases y with
  | non=>cases ry;exact PySem.EqNone.eq_none_none (JC I q (by simp))
  | bl j=>cases ry;exact PySem.EqNone.eq_none_bool (JC I q (by simp))
  | int j=>obtain⟨t',rfl⟩:=ry;exact PySem.EqNone.eq_none_int (JC I q (by simp))
  | str j=>obtain⟨t',rfl⟩:=ry;exact PySem.EqNone.eq_none_str (JC I q (by simp))
  | _=>exact absurd (show Zc=Zh from hs) Zy
 | bl i =>
  cases rx
  cases y with
  | non=>cases ry;exact PySem.EqNone.eq_bool_none (JC I q (by simp))
  | bl j=>cases ry;exact eq_bool (JC I q Jtd)
  | str j=>obtain⟨t',rfl⟩:=ry;exact PySem.EqMixed.eq_bool_str (JC I q (by simp))
  | _=>exact absurd (show Zc=Zh from hs) Zy
 | int i =>
  obtain⟨t,rfl⟩:=rx
  cases y with
  | non=>cases ry;exact PySem.EqNone.eq_int_none (JC I q (by simp))
  | int j=>obtain⟨t',rfl⟩:=ry;exact eq_int (JC I q Jox)
  | str j=>obtain⟨t',rfl⟩:=ry;exact PySem.EqMixed.eq_int_str (JC I q (by simp))
  | _=>exact absurd (show Zc=Zh from hs) Zy
 | str i =>
  obtain⟨t,rfl⟩:=rx
  cases y with
  | non=>cases ry;exact PySem.EqNone.eq_str_none (JC I q (by simp))
  | bl j=>cases ry;exact PySem.EqMixed.eq_str_bool (JC I q (by simp))
  | int j=>obtain⟨t',rfl⟩:=ry;exact PySem.EqMixed.eq_str_int (JC I q (by simp))
  | str j=>obtain⟨t',rfl⟩:=ry;exact eq_str (JC I q Joy)
  | _=>exact absurd (show Zc=Zh from hs) Zy
 | byt i =>
  obtain⟨t,rfl⟩:=rx
  cases y with
  | byt j=>obtain⟨t',rfl⟩:=ry;exact W.eq_bytes (JC I q Jow)
  | _=>exact absurd (show Zc=Zh from hs) Zy
 | _=>cases y<;>exact absurd (show Zc=Zh from hs) Zy
theorem J08:OpR X (Zav .NotEq) rNe:=by
 intro pj s σ H x y v u Q I rx ry h
 obtain⟨hs,q⟩:=h
 cases x with
 | non =>
  cases rx
  cases y with
  | non=>cases ry;exact PySem.EqNone.ne_none_none (JC I q (by simp))
  | bl j=>cases ry;exact PySem.EqNone.ne_none_bool (JC I q (by simp))
  | int j=>obtain⟨t',rfl⟩:=ry;exact PySem.EqNone.ne_none_int (JC I q (by simp))
  | str j=>obtain⟨t',rfl⟩:=ry;exact PySem.EqNone.ne_none_str (JC I q (by simp))
  | _=>exact absurd (show Zc=Zh from hs) Zy
 | bl i =>
  cases rx
  cases y with
  | non=>cases ry;exact PySem.EqNone.ne_bool_none (JC I q (by simp))
  | bl j=>cases ry;exact ne_bool (JC I q (congrArg not Jtd))
  | str j=>obtain⟨t',rfl⟩:=ry;exact PySem.EqMixed.ne_bool_str (JC I q (by simp))
  | _=>exact absurd (show Zc=Zh from hs) Zy
 | int i =>
  obtain⟨t,rfl⟩:=rx
  cases y with
  | non=>cases ry;exact PySem.EqNone.ne_int_none (JC I q (by simp))
  | int j=>obtain⟨t',rfl⟩:=ry;exact ne_int (JC I q (congrArg not Jox))
  | str j=>obtain⟨t',rfl⟩:=ry;exact PySem.EqMixed.ne_int_str (JC I q (by simp))
  | _=>exact absurd (show Zc=Zh from hs) Zy
 | str i =>
  obtain⟨t,rfl⟩:=rx
  cases y with
  | non=>cases ry;exact PySem.EqNone.ne_str_none (JC I q (by simp))
  | bl j=>cases ry;exact PySem.EqMixed.ne_str_bool (JC I q (by simp))
  | int j=>obtain⟨t',rfl⟩:=ry;exact PySem.EqMixed.ne_str_int (JC I q (by simp))
  | str j=>obtain⟨t',rfl⟩:=ry;exact ne_str (JC I q (congrArg not Joy))
  | _=>exact absurd (show Zc=Zh from hs) Zy
 | byt i =>
  obtain⟨t,rfl⟩:=rx
  cases y with
  | byt j=>obtain⟨t',rfl⟩:=ry;exact W.ne_bytes (JC I q (congrArg not Jow))
  | _=>exact absurd (show Zc=Zh from hs) Zy
 | _=>cases y<;>exact absurd (show Zc=Zh from hs) Zy
theorem J07:OpR X (Zav .Lt) (rI0 λ i j=>.bl (decide (i<j))):=opB0 λ _ _ _ _ _ _ _ q=>lt_int q
theorem J06:OpR X (Zav .LtE) (rI0 λ i j=>.bl (decide (i<=j))):=opB0 λ _ _ _ _ _ _ _ q=>le_int q
theorem J05:OpR X (Zav .Gt) (rI0 λ i j=>.bl (decide (j<i))):=opB0 λ _ _ _ _ _ _ _ q=>gt_int q
theorem J04:OpR X (Zav .GtE) (rI0 λ i j=>.bl (decide (j<=i))):=opB0 λ _ _ _ _ _ _ _ q=>ge_int q
theorem Jp9:OpR X (Zav .Lt) (λ x y H Q=>∃i j,x=.str i/\y=.str j/\Q (.bl (decide (i.cps.toList<j.cps.toList))) H):=by
 intro pj s σ H x y v u Q I rx ry h
 obtain⟨i,j,rfl,rfl,q⟩:=h
 obtain⟨t,rfl⟩:=rx
 obtain⟨t',rfl⟩:=ry
 exact lt_str (JC I q rfl)
def TruV (K:W.Frag)(x:V)(H:Hp)(k:Bool):Prop :=
 match x with
 | .non=>k=Zc
 | .bl b=>k=b
 | .int i=>k=(i != 0)
 | .str y=>y.length<=sizeLine/\k=((y.length:Int) != 0)
 | .byt y=>y.size<=sizeLine/\k=((y.size:Int) != 0)
 | .ref p=>(∃xs,SqL K H p xs/\k=!xs.isEmpty)∨(∃xs,SqT K H p xs/\k=!xs.isEmpty)∨∃kvs,H p=Za (.dK kvs)/\k=!kvs.isEmpty
 | _=>False
theorem Jnn {κ:Type}{kvs:List (κ×V)}{vs:List (κ×Zg)}(r:KV kvs vs):(!vs.isEmpty)=!kvs.isEmpty:=by
 cases r<;>rfl
theorem Jig {xs:List V}{its:List Zg}(r:Vals xs its):(!its.toArray.isEmpty)=!xs.isEmpty:=by
 cases r<;>simp
theorem Yd:(sizeLine:Nat)<2^63:=by rw[Zec];decide
theorem Xn:TruR X (λ x H Q=>∃k,TruV X.K x H k/\Q k H):=by
 intro pj s σ H x v Q I rx h
 obtain⟨k,e,q⟩:=h
 have hl:=Yd
 have hs:sizeLine=16777216:=Zec
 cases x with
 | non =>
  cases rx
  have e':k=Zc:=e
  subst e'
  exact truthy_none ⟨H,I,q⟩
 | bl b =>
  cases rx
  have e':k=b:=e
  subst e'
  exact Zb2 ⟨H,I,q⟩
 | int i =>
  obtain⟨t,rfl⟩:=rx
  have e':k=(i != 0):=e
  subst e'
  exact PySem.P.truthy_int ⟨H,I,q⟩
 | str y =>
  obtain⟨t,rfl⟩:=rx
  obtain⟨hy,e'⟩:y.length<=sizeLine/\k=((y.length:Int) != 0):=e
  subst e'
  exact PySem.P.truthy_str (by omega) ⟨H,I.tok _,q⟩
 | byt y =>
  obtain⟨t,rfl⟩:=rx
  obtain⟨hy,e'⟩:y.size<=sizeLine/\k=((y.size:Int) != 0):=e
  subst e'
  exact W.truthy_bytes (by omega) ⟨H,I.tok _,q⟩
 | ref p =>
  cases rx
  have e':(∃xs,SqL X.K H p xs/\k=!xs.isEmpty)∨(∃xs,SqT X.K H p xs/\k=!xs.isEmpty)∨∃kvs,H p=Za (.dK kvs)/\k=!kvs.isEmpty:=e
  rcases e' with⟨xs,hx,e'⟩|⟨xs,hx,e'⟩|⟨kvs,hx,e'⟩
  ·subst e'
   obtain⟨its,r,pl,hz⟩:=I.list hx
   have hlen:=r.length
   exact wpAny_truthy_list pl.isList (by simp only[Z5];omega) ⟨H,I.tok _,by rw[Jig r];exact q⟩
  ·subst e'
   obtain⟨its,r,pl,hz⟩:=I.tuple hx
   have hlen:=r.length
   exact truthy_tuple pl (by simp only[Z5];omega) ⟨H,I.tok _,by rw[Jig r];exact q⟩
  ·subst e'
   obtain⟨hz,hS,vs,r,m⟩:kvs.length<=sizeLine/\(p==Zdd)=Zc/\∃vs,KV kvs vs/\s.heap.DictOf (VQ X.prog X.w) p vs:=I.hok p _ hx
   have hlen:kvs.length=vs.length:=Zep r
   exact wpAny_truthy_dict hS m (by omega) ⟨H,I.tok _,by rw[Jnn r];exact q⟩
 | _=>exact Zf e
theorem Jny:OpR X (ZaQ .Add) (λ x y H Q=>∃i j,x=.str i/\y=.str j/\i.length+j.length<=sizeLine/\Q (.str (i++j)) H):=by
 intro pj s σ H x y v u Q I rx ry h
 obtain⟨i,j,rfl,rfl,hz,q⟩:=h
 obtain⟨t,rfl⟩:=rx
 obtain⟨t',rfl⟩:=ry
 exact add_str (λ t' tk=>⟨.str (i++j),H,I.tok _,⟨_,rfl⟩,q⟩) hz
theorem QG {x:V}{us:List Zg}(r:Vals [x] us):∃u,us=[u]/\RelV x u:=by
 cases r with
 | cons r1 r2=>cases r2;exact⟨_,rfl,r1⟩
theorem J1p {x y:V}{us:List Zg}(r:Vals [x,y] us):∃u w',us=[u,w']/\RelV x u/\RelV y w':=by
 cases r with
 | cons r1 r2 =>
  cases r2 with
  | cons r3 r4=>cases r4;exact⟨_,_,rfl,r1,r3⟩
theorem Jou (hc:X.calm=Zh):Xw X (.builtin "max") (λ xs H Q=>∃i j,xs=[.int i,.int j]/\Q (.int (if j>i then j else i)) H):=by
 intro pj s σ H xs us Q I r h
 obtain⟨i,j,rfl,q⟩:=h
 obtain⟨u,w',rfl,⟨t,rfl⟩,⟨t',rfl⟩⟩:=J1p r
 refine max_two_ints (I.ok.hd hc) λ h' tk k=>⟨_,H,I.kept k,?_,q⟩
 by_cases hj:j>i
 ·rw[if_pos hj,if_pos hj];exact⟨_,rfl⟩
 ·rw[if_neg hj,if_neg hj];exact⟨_,rfl⟩
theorem Jjv:Xw X (.type "int") (λ xs H Q=>(∃i,xs=[.int i]/\Q (.int i) H)∨∃k,xs=[.bl k]/\Q (.int (if k then 1 else 0)) H):=by
 intro pj s σ H xs us Q I r h
 rcases h with⟨i,rfl,q⟩|⟨k,rfl,q⟩
 ·obtain⟨u,rfl,t,rfl⟩:=QG r
  exact call_int_int ⟨.int i,H,I,⟨_,rfl⟩,q⟩
 ·obtain⟨u,rfl,r1⟩:=QG r
  cases r1
  exact call_int_bool ⟨.int (if k then 1 else 0),H,I.tok _,⟨_,rfl⟩,q⟩
theorem Jjw:Xw X (.type "str") (λ xs H Q=>∃i,xs=[.int i]/\i.natAbs.log2<1920/\Q (.str (toString i)) H):=by
 intro pj s σ H xs us Q I r h
 obtain⟨i,rfl,hz,q⟩:=h
 obtain⟨u,rfl,t,rfl⟩:=QG r
 exact PySem.P.str_of_int hz ⟨.str _,H,I.tok _,⟨_,rfl⟩,q⟩
def LenV (K:W.Frag)(x:V)(H:Hp)(n:Nat):Prop :=
 match x with
 | .str y=>y.length<=sizeLine/\n=y.length
 | .byt y=>y.size<=sizeLine/\n=y.size
 | .ref p=>(∃xs,SqL K H p xs/\n=xs.length)∨∃xs,SqT K H p xs/\n=xs.length
 | _=>False
theorem Jg3:Xw X (.builtin "len") (λ xs H Q=>∃x n,xs=[x]/\LenV X.K x H n/\Q (.int n) H):=by
 intro pj s σ H xs us Q I r h
 obtain⟨x,n,rfl,e,q⟩:=h
 obtain⟨u,rfl,rx⟩:=QG r
 have hl:=Yd
 have hs:sizeLine=16777216:=Zec
 cases x with
 | str y =>
  obtain⟨t,rfl⟩:=rx
  obtain⟨hy,e'⟩:y.length<=sizeLine/\n=y.length:=e
  subst e'
  exact len_str (by omega) ⟨.int _,H,I.tok _,⟨_,rfl⟩,q⟩
 | byt y =>
  obtain⟨t,rfl⟩:=rx
  obtain⟨hy,e'⟩:y.size<=sizeLine/\n=y.size:=e
  subst e'
  exact W.len_bytes (by omega) ⟨.int _,H,I.tok _,⟨_,rfl⟩,q⟩
 | ref p =>
  cases rx
  have e':(∃xs,SqL X.K H p xs/\n=xs.length)∨∃xs,SqT X.K H p xs/\n=xs.length:=e
  rcases e' with⟨xs,hx,e'⟩|⟨xs,hx,e'⟩
  ·subst e'
   obtain⟨its,r',pl,hz⟩:=I.list hx
   have hlen:=r'.length
   exact Calls.call_len_list pl.isList (by simp only[Z5];omega) ⟨.int xs.length,H,I.tok _,⟨_,by simp only[Z5];rw[hlen]⟩,q⟩
  ·subst e'
   obtain⟨its,r',pl,hz⟩:=I.tuple hx
   have hlen:=r'.length
   exact len_tuple pl (by simp only[Z5];omega) ⟨.int xs.length,H,I.tok _,⟨_,by simp only[Z5];rw[hlen]⟩,q⟩
 | _=>exact Zf e
end
structure ObjM (h:Zak)(x dx C:Zi)(mA:Str->Option Zg):Prop where
 obj:h.get? x=Za (W.instObj C dx)
 ns:h.Ns1 dx mA
 ne:dx≠x
theorem Jpz {h:Zak}{dx:Zi}{mA:Str->Option Zg}(n:h.Ns1 dx mA):∃od,h.get? dx=Za od/\∀name,W.lookIn name od=Za (mA name):=by
 obtain⟨o,es,ep,ho,hd,hk,_,hm⟩:=n
 refine⟨o,ho,λ name=>?_⟩
 have e:=hm name
 unfold nsFind findBy at e
 rw[<- Array.find?_toList] at e
 unfold W.lookIn
 rw[hd]
 dsimp only
 split
 ·rename_i y q
  rw[q] at e
  exact congrArg Za e
 ·rename_i q
  rw[q] at e
  have a:es.toList.any (·.refKey)=Zc:=by
   rw[List.any_eq_false]
   intro y hy
   obtain⟨z,t,hkey⟩:=hk y (Array.mem_toList_iff.mp hy)
   simp[DictEntry.refKey,hkey]
  have a':¬es.toList.any (·.refKey)=Zh:=by rw[a];exact Zy
  rw[if_neg a']
  exact congrArg Za e
theorem ObjM.look {h:Zak}{x dx C:Zi}{mA:Str->Option Zg}(I:ObjM h x dx C mA):∃od,W.InstAt h x (W.instObj C dx) C (Za od)/\∀name,W.lookIn name od=Za (mA name) :=
 let ⟨od,ho,hl⟩:=Jpz I.ns
 ⟨od,⟨I.obj,rfl,rfl,ho⟩,hl⟩
section
variable {prog:ZG}{w:ZX}{A:ZO}{E:QvT}{s:Zj}{K:W.Frag}{x dx C f:Zi}{mA:Str->Option Zg}{name:Str}{v:Zg}
theorem Juu {expr:Bool}{Q:QvT}(X:K.In s.heap)(I:ObjM s.heap x dx C mA)(hg:W.plainGet K C name=Zh)(hh:W.hasDictIn K C=Zh)
  (ha:W.findIn K (.ref C) name=Za Ze)(hv:mA name=Za v)(hv':W.handedIn v=Zh)(h:Q v { s with toks:=s.toks+1 }) :
  Zz (ZE prog w) A (getAttr (.ref x) name expr) Q E s:=by
 obtain⟨od,J,hl⟩:=I.look
 exact W.get_value X J (W.plainGet_of hg).1 (W.findObj_own hh ha rfl (by rw[hl,hv])) hv' h
theorem Jrm {pl:Sem Bool}{Q:Zg×List Zg->Zj->Prop}(X:K.In s.heap)(I:ObjM s.heap x dx C mA)(hg:W.plainGet K C name=Zh)
  (hf:W.findIn K (.ref C) name=Za (Za (.ref f)))(ht:W.isFn K (.ref f)=Zh)(hv:mA name=Ze)(h:Q (.ref f,[.ref x]) s) :
  Zz (ZE prog w) A (Zem (.ref x) name pl) Q E s:=by
 obtain⟨od,J,hl⟩:=I.look
 exact W.method_fn X J (W.plainGet_of hg).1 (W.plainGet_of hg).2 hf (beq_iff_eq.mp ht) (by show(W.lookIn name od).map (·.isSome)=Za Zc;rw[hl,hv];rfl) h
theorem Jwd {ns:List Str}{Q:Unit->Zj->Prop}(X:K.In s.heap)(I:ObjM s.heap x dx C mA)
  (hs:W.findIn K (.ref C) "__setattr__"=Za (Za (.builtin "object.__setattr__")))(hp:W.plainOver K C=Zh)(ht:W.takerIn K C name=Za Ze)(hh:W.hasDictIn K C=Zh)
  (hw:Ze0 mA ns)(hsz:ns.length<=sizeLine)
  (h:∀h',ObjM h' x dx C (λ y=>if y=name then Za v else mA y)->ZbK dx s.heap h'->Q () { s with heap:=h',toks:=s.toks+2 }) :
  Zz (ZE prog w) A (setAttr (.ref x) name v) Q E s:=by
 obtain⟨od,J,hl⟩:=I.look
 refine W.set_plain X J hs (W.osa_open (s:={ s with toks:=s.toks+1 }) (r:=Ze) X J hp ht λ b=>?_)
 obtain⟨cd,hc,hd'⟩:=W.any_some hh
 have hx:s.heap.get? x=Za ⟨.ref C,Za dx,.plain,#[]⟩:=I.obj
 refine Zk (ZM (Zk (Zk (wpAny_loadPart hx (Zk (W.Looks.here (s:={ s with toks:=s.toks+1 }) (W.looks_clsIn X hc) ?_))))))
 rw[hd']
 refine ZM (a:=Za dx) (Zk (ZM (Zk ?_)))
 refine wpAny_nsSet1 (s:={ s with toks:=s.toks+1 }) I.ns λ h' hn2 hs2=>?_
 obtain⟨oD,esD,epD,hoD,hdD,hcD⟩:=hn2.count (PySem.Within.cons name v hw)
 refine Zk (wpAny_lookBehind hoD (by rw[hdD];exact pastItsLine_dict (Zau hcD (by rw[Z0];omega))) ?_)
 exact ZM (h _ ⟨(hs2.2 _ (Zao I.ne)).trans I.obj,hn2,I.ne⟩ hs2)
theorem Jr8 {R:Zdy->Zj->Prop}{vs:List Zg}{kw:List (Str×Zg)}(X:K.In s.heap)(hm:W.makesIn K C=Zh)
  (hi:W.findIn K (.ref C) "__init__"=Za (Za (.ref f)))(hf:W.typeIn K (.ref f)=Za (.type "function"))
  (h:Zcw (ZE prog w) (A.under (.builtin "type.__call__" ⟨.ref C::vs,kw⟩)) (.call (.ref f) ⟨.ref (s.heap.objs.size+1)::vs,kw⟩) (W.InitBack (s.heap.objs.size+1) R)
   { s with heap:=(s.heap.push W.emptyDict).push (W.instObj C s.heap.objs.size) }) :
  Zcw (ZE prog w) A (.call (.ref C) ⟨vs,kw⟩) R s:=by
 obtain⟨hh,g,d,t,os⟩:=s
 exact W.make_core (W.makes_of X hm) (W.looks_findIn X hi) (λ self=>W.bind_fn X self hf) (.inl rfl) h
end
def putF (f:Str)(v:V):List (Str×V)->List (Str×V)
 | []=>[(f,v)]
 | (g,x)::r=>if g=f then(g,v)::r else(g,x)::putF f v r
theorem Jhn (f g:Str)(v:V):∀fs:List (Str×V),(putF f v fs).lookup g=if g=f then Za v else fs.lookup g
 | []=>by
  show ZbI g [(f,v)]=_
  by_cases h:g=f
  ·have hb:(g==f)=Zh:=beq_iff_eq.mpr h
   simp only[ZbI,hb,if_pos h]
  ·have hb:(g==f)=Zc:=beq_eq_false_iff_ne.mpr h
   simp only[ZbI,hb,if_neg h]
 | (k,x)::r=>by
  have ih:=Jhn f g v r
  rw[show putF f v ((k,x)::r)=(if k=f then(k,v)::r else(k,x)::putF f v r) from rfl]
  by_cases hk:k=f
  ·rw[if_pos hk]
   by_cases h:g=k
   ·have hb:(g==k)=Zh:=beq_iff_eq.mpr h
    simp only[ZbI,hb,if_pos (h.trans hk)]
   ·have hb:(g==k)=Zc:=beq_eq_false_iff_ne.mpr h
    simp only[ZbI,hb,if_neg (λ e:g=f=>h (e.trans hk.symm))]
  ·rw[if_neg hk]
   by_cases h:g=k
   ·have hb:(g==k)=Zh:=beq_iff_eq.mpr h
    simp only[ZbI,hb,if_neg (λ e:g=f=>hk (h.symm.trans e))]
   ·have hb:(g==k)=Zc:=beq_eq_false_iff_ne.mpr h
    simp only[ZbI,hb]
    exact ih
theorem Jhl (f:Str)(v:V):∀fs:List (Str×V),f∈(putF f v fs).map (·.1)/\∀g,g∈fs.map (·.1)->g∈(putF f v fs).map (·.1)
 | []=>⟨by simp[putF],λ g h=>by simp at h⟩
 | (k,x)::r=>by
  obtain⟨i1,i2⟩:=Jhl f v r
  rw[show putF f v ((k,x)::r)=(if k=f then(k,v)::r else(k,x)::putF f v r) from rfl]
  by_cases hk:k=f
  ·rw[if_pos hk]
   subst hk
   exact⟨by simp,λ g h=>by simpa using h⟩
  ·rw[if_neg hk]
   refine⟨?_,λ g h=>?_⟩
   ·rw[ZA]
    exact Zs _ i1
   ·rw[ZA] at h ⊢
    rcases Zt.mp h with e|e
    ·exact Zt.mpr (.inl e)
    ·exact Zs _ (i2 g e)
theorem Jhm (f:Str)(v:V):∀fs:List (Str×V),(putF f v fs).length<=fs.length+1
 | []=>by simp[putF]
 | (k,x)::r=>by
  have ih:=Jhm f v r
  rw[show putF f v ((k,x)::r)=(if k=f then(k,v)::r else(k,x)::putF f v r) from rfl]
  by_cases hk:k=f
  ·rw[if_pos hk,Z0,Z0];omega
  ·rw[if_neg hk,Z0,Z0];omega
theorem RelO.some_of {v:V}{o:Option Zg}(r:RelO (Za v) o):∃u,o=Za u/\RelV v u:=by
 cases o with
 | none=>exact Zf r
 | some u=>exact⟨u,rfl,r⟩
theorem RelO.none_of {o:Option Zg}(r:RelO Ze o):o=Ze:=by
 cases o with
 | none=>rfl
 | some u=>exact Zf r
theorem Jpe {v:V}{u:Zg}(r:RelV v u):W.handedIn u=Zh:=by
 cases v with
 | non=>cases (show u=Zag from r);rfl
 | bl b=>cases (show u=Zco b from r);rfl
 | int i=>obtain⟨t,e⟩:=(show ∃t,u=Zd5 i t from r);cases e;rfl
 | str x=>obtain⟨t,e⟩:=(show ∃t,u=Zel x t from r);cases e;rfl
 | byt b=>obtain⟨t,e⟩:=(show ∃t,u=Value.bytes b t from r);cases e;rfl
 | flt b=>obtain⟨t,e⟩:=(show ∃t,u=Value.float b t from r);cases e;rfl
 | ref a=>cases (show u=ZaZ a from r);rfl
 | ty n=>cases (show u=Zc7 n from r);rfl
section
variable {P:ZG}{w:ZX}{H H':Hp}{h h':Zak}{a C dx:Zi}{fs fs':List (Str×V)}
theorem Ji5 (hok:HOk P w H h)(e:H a=Za (.ins C dx fs)):∃mA,ObjM h a dx C mA/\(∀f,RelO (fs.lookup f) (mA f))/\Ze0 mA (fs.map (·.1))/\fs.length<=1000/\H dx=Za (.own a):=by
 obtain⟨d,z,ne,ob,mA,n,r,q⟩:=(show Qa P w H h a (.ins C dx fs) from hok a _ e)
 exact⟨mA,⟨ob,n,ne⟩,r,q,z,d⟩
end
structure Cls (K:W.Frag)(C:Zi):Prop where
 pg:W.plainGet K C Zd7=Zh
 hd:W.hasDictIn K C=Zh
 po:W.plainOver K C=Zh
 sa:W.findIn K (.ref C) "__setattr__"=Za (Za (.builtin "object.__setattr__"))
theorem Cls.get {K:W.Frag}{C:Zi}(c:Cls K C)(f:Str):W.plainGet K C f=Zh:=c.pg
def VG (K:W.Frag)(C:Zi)(f:Str):Prop:=W.findIn K (.ref C) f=Za Ze
theorem VG.taker {K:W.Frag}{C:Zi}{f:Str}(n:VG K C f):W.takerIn K C f=Za Ze:=by
 unfold W.takerIn
 rw[show W.findIn K (.ref C) f=Za Ze from n]
 rfl
structure Meth (K:W.Frag)(C:Zi)(m:Str)(f:Zi):Prop where
 at_:W.findIn K (.ref C) m=Za (Za (.ref f))
 fn:W.isFn K (.ref f)=Zh
 kp:W.keepIn K (.ref f)=Zh
section
variable {X:Cx}{pj:PnT}{σ:St}{H:Hp}{s:Zj}{a C dx:Zi}{fs:List (Str×V)}{f:Str}{v:V}{A:ZO}{E:QvT}
theorem Jnk {b:Bool}{Q:QvT}(I:Inv X pj σ H s)(e:H a=Za (.ins C dx fs))(c:Cls X.K C)(n:VG X.K C f)(l:fs.lookup f=Za v)
  (h:∀u s',Inv X pj σ H s'->RelV v u->Q u s'):Zz (ZE X.prog X.w) A (getAttr (.ref a) f b) Q E s:=by
 obtain⟨mA,O,r,_,_,_⟩:=Ji5 I.hok e
 obtain⟨u,hu,ru⟩:=RelO.some_of (v:=v) (o:=mA f) (by rw[<- l];exact r f)
 exact Juu I.kIn O (c.get f) c.hd n hu (Jpe ru) (h u _ (I.tok _) ru)
theorem Jic {m:Str}{g:Zi}{pl:Sem Bool}{Q:Zg×List Zg->Zj->Prop}(I:Inv X pj σ H s)(e:H a=Za (.ins C dx fs))(c:Cls X.K C)(k:Meth X.K C m g)(l:fs.lookup m=Ze)
  (h:Q (.ref g,[.ref a]) s):Zz (ZE X.prog X.w) A (Zem (.ref a) m pl) Q E s:=by
 obtain⟨mA,O,r,_,_,_⟩:=Ji5 I.hok e
 have hn:mA m=Ze:=RelO.none_of (by rw[<- l];exact r m)
 exact Jrm I.kIn O (c.get m) k.at_ k.fn hn h
theorem Jn4 {y:V}{u:Zg}{Q:Unit->Zj->Prop}(I:Inv X pj σ H s)(e:H a=Za (.ins C dx fs))(c:Cls X.K C)(n:VG X.K C f)(hl:fs.length<1000)(ry:RelV y u)
  (h:∀s',Inv X pj σ (upd H a (.ins C dx (putF f y fs))) s'->Q () s'):Zz (ZE X.prog X.w) A (setAttr (.ref a) f u) Q E s:=by
 obtain⟨mA,O,r,wi,_,ho⟩:=Ji5 I.hok e
 have hz:(fs.map (·.1)).length<=sizeLine:=by rw[Zo,Zec];omega
 refine Jwd I.kIn O c.sa c.po n.taker c.hd wi hz λ h' O' sb=>h _ ?_
 have hd:∃o,h'.get? dx=Za o:=let ⟨o,_,_,e',_⟩:=O'.ns;⟨o,e'⟩
 refine I.write (x:=a) (e:=dx) (by rw[e];exact True.intro) (.inr ho) (λ b q hb z=>(sb.2 b hb).trans z) hd ?_
 refine⟨by rw[Jo O.ne];exact ho,?_,O.ne,O'.obj,_,O'.ns,λ g=>?_,λ g hg=>?_⟩
 ·have:=Jhm f y fs;omega
 ·show RelO ((putF f y fs).lookup g) (if g=f then Za u else mA g)
  rw[Jhn]
  by_cases q:g=f
  ·rw[if_pos q,if_pos q];exact ry
  ·rw[if_neg q,if_neg q];exact r g
 ·by_cases q:g=f
  ·rw[q];exact(Jhl f y fs).1
  ·refine(Jhl f y fs).2 g (wi g λ z=>hg ?_)
   show(if g=f then Za u else mA g)=Ze
   rw[if_neg q];exact z
theorem Inv.made (I:Inv X pj σ H s):Inv X pj σ (upd (upd H s.heap.objs.size (.own (s.heap.objs.size+1))) (s.heap.objs.size+1) (.ins C s.heap.objs.size []))
  { s with heap:=(s.heap.push W.emptyDict).push (W.instObj C s.heap.objs.size) }:=by
 have e1:(s.heap.push W.emptyDict).get? s.heap.objs.size=Za W.emptyDict:=Z8 s.heap rfl
 have e2:((s.heap.push W.emptyDict).push (W.instObj C s.heap.objs.size)).get? (s.heap.objs.size+1)=Za (W.instObj C s.heap.objs.size):=by
  have:=Z8 (s.heap.push W.emptyDict) (o:=W.instObj C s.heap.objs.size) rfl
  rwa [ZbV] at this
 have e3:(s.heap.push W.emptyDict).Ns s.heap.objs.size (λ _=>Ze):=⟨W.emptyDict,#[],_,e1,rfl,(λ e he=>absurd he (by simp)),λ _=>rfl⟩
 have I1:=I.laid (a:=s.heap.objs.size) (o:=.own (s.heap.objs.size+1)) (h':=s.heap.push W.emptyDict) (t':=s.toks) (λ b u q=>Zm _ q) (Zu _) ⟨_,e1⟩
 refine I1.laid (a:=s.heap.objs.size+1) (o:=.ins C s.heap.objs.size []) (t':=s.toks) (λ b u q=>Zm _ q) (Zcx (ZbV _ _)) ?_
 have ne:s.heap.objs.size≠s.heap.objs.size+1:=ZK (Zbv _)
 refine⟨by rw[Jo ne,J2],Zar _,ne,e2,λ _=>Ze,(Heap.Ns1.of_empty e3).at λ o q=>Zm _ q,λ _=>True.intro,λ y hy=>absurd rfl hy⟩
theorem Juh {prog:ZG}{w:ZX}{env:Env}{e:Expr}{f:Str}{pos:Pos}{s:Zj}{Q:QvT}(hb:ZcE e f env (ZaV e env)=ZaV e env)
  (h:Zz (ZE prog w) A (ZaV e env) (λ o s₁=>Zz (ZE prog w) A (getAttr o f Zh) Q E s₁) E s):Zz (ZE prog w) A (ZaV (.Attribute e f pos) env) Q E s :=
 Attribute_any_ h (by rw[arm_eval_Attribute,hb])
end
section
variable {X:Cx}{o e value:Expr}{f:Str}{pos pos' tpos:Pos}{ta tv:TE}
end
section
variable {X:Cx}{pj:PnT}{σ:St}{H:Hp}{s:Zj}{A:ZO}{E:QvT}{Q:QvT}{c:Zg}{b:Bool}
end
structure Room (k:Nat)(A:ZO):Prop where
 hd:A.handled=Ze
 dp:A.depth+3*k+5<recursionLimit
 un:A.units+16*k+200<Zeq
theorem Room.mono {j k:Nat}{A:ZO}(r:Room k A)(h:j<=k):Room j A:=⟨r.hd,by have:=r.dp;omega,by have:=r.un;omega⟩
theorem Room.deeper {k:Nat}{A:ZO}(r:Room (k+1) A)(env:Env):Room k (A.deeper env) :=
 ⟨r.hd,by have:=r.dp;show A.depth+1+3*k+5<_;omega,by have:=r.un;show A.units+3+16*k+200<_;omega⟩
theorem Room.in1 {k:Nat}{A:ZO}(r:Room (k+1) A):Room k A.in1 :=
 ⟨r.hd,by have:=r.dp;show A.depth+3*k+5<_;omega,by have:=r.un;show A.units+1+16*k+200<_;omega⟩
theorem Jnr {A:ZO}{C:Zi}{us:List Zg}{kw:List (Str×Zg)}:(A.under (.builtin "type.__call__" ⟨.ref C::us,kw⟩)).depth=A.depth+1:=by
 first|rfl|simp[Ze4,Code.weight,Code.isCreation,Code.isGuard,Code.isCaller,Code.frames,Ze5,guardIds]
theorem Jns {A:ZO}{C:Zi}{us:List Zg}{kw:List (Str×Zg)}:(A.under (.builtin "type.__call__" ⟨.ref C::us,kw⟩)).units=A.units+1:=by
 first|rfl|simp[Ze4,Code.cUnits,Code.frames,Ze5]
theorem Room.make {k:Nat}{A:ZO}(r:Room (k+1) A)(C:Zi)(us:List Zg)(kw:List (Str×Zg)):Room k (A.under (.builtin "type.__call__" ⟨.ref C::us,kw⟩)) :=
 ⟨r.hd,by have:=r.dp;rw[Jnr];omega,by have:=r.un;rw[Jns];omega⟩
theorem Room.depth {k:Nat}{A:ZO}(r:Room k A):A.depth<recursionLimit:=by have:=r.dp;omega
theorem Room.units {k:Nat}{A:ZO}(r:Room k A):A.units+64<Zeq:=by have:=r.un;omega
section
variable {X:Cx}{e:Expr}{es:List Expr}{te:TE}{t:TA}{pos:Pos}
end
abbrev Sp:=List V->Hp->VK->XK->Prop
abbrev CXT:=List Env->Hp->Zj->XK->QvT
structure Env0 (P:ZG)(w:ZX)(K:W.Frag)(mg:Str->Option Zg)(base:Zak)(A:ZO)(outer:List Env)(s:Zj)(H:Hp):Prop where
 frames:A.frames=Za outer
 mod:Mod K mg base
 bs:∀b o,base.get? b=Za o->s.heap.get? b=Za o/\H b=Ze
 bsz:base.objs.size<=s.heap.objs.size
 funs:s.heap.FunFrames base outer
 frf:∀b∈frs outer,H b=Ze
 hok:HOk P w H s.heap
 bare:ZcU s.gens
def CE (outer:List Env)(P:ZG)(w:ZX)(H:Hp)(s:Zj)(Q:VK)(u:Zg)(s':Zj):Prop :=
 ∃v H',s'.os=s.os/\ZcU s'.gens/\Un (frs outer) [] H H' s.heap s'.heap/\HOk P w H' s'.heap/\RelV v u/\Q v H'
def CR (CX:CXT)(outer:List Env)(P:ZG)(w:ZX)(H:Hp)(s:Zj)(Q:VK)(E:XK)(r:Zdy)(s':Zj):Prop :=
 match r with
 | .ok (.ret u)=>CE outer P w H s Q u s'
 | .ok _=>False
 | .error e=>CX outer H s E e s'
structure FnOk (P:ZG)(w:ZX)(K:W.Frag)(mg:Str->Option Zg)(base:Zak)(CX:CXT)(k:Nat)(f:Zi)(fd:Zax)(ps:List Str)(sp:Sp):Prop where
 len:∀vs H Q E,sp vs H Q E->vs.length=ps.length
 run:∀(A:ZO)(outer:List Env)(s:Zj)(H:Hp)(args:Args)(us:List Zg)(vs:List V)(Q:VK)(E:XK),Room k A->Env0 P w K mg base A outer s H->Zck s fd args (ps.zip us)->Vals vs us->sp vs H Q E ->
  Zcw (ZE P w) A (.call (.ref f) args) (CR CX outer P w H s Q E) s
theorem FnOk.mono {P:ZG}{w:ZX}{K:W.Frag}{mg:Str->Option Zg}{base:Zak}{CX:CXT}{j k:Nat}{f:Zi}{fd:Zax}{ps:List Str}{sp:Sp}(F:FnOk P w K mg base CX j f fd ps sp)(h:j<=k) :
  FnOk P w K mg base CX k f fd ps sp:=⟨F.len,λ A outer s H args us vs Q E hr=>F.run A outer s H args us vs Q E (hr.mono h)⟩
theorem FnOk.imp {P:ZG}{w:ZX}{K:W.Frag}{mg:Str->Option Zg}{base:Zak}{CX:CXT}{k:Nat}{f:Zi}{fd:Zax}{ps:List Str}{sp sp':Sp}(F:FnOk P w K mg base CX k f fd ps sp)
  (h:∀vs H Q E,sp' vs H Q E->sp vs H Q E):FnOk P w K mg base CX k f fd ps sp' :=
 ⟨λ vs H Q E q=>F.len vs H Q E (h _ _ _ _ q),λ A outer s H args us vs Q E hr he hb hv hs=>F.run A outer s H args us vs Q E hr he hb hv (h _ _ _ _ hs)⟩
theorem Env0.make {P:ZG}{w:ZX}{K:W.Frag}{mg:Str->Option Zg}{base:Zak}{A:ZO}{outer:List Env}{s:Zj}{H:Hp}(e:Env0 P w K mg base A outer s H)(C:Zi)(us:List Zg)(kw:List (Str×Zg)) :
  Env0 P w K mg base (A.under (.builtin "type.__call__" ⟨.ref C::us,kw⟩)) outer s H:=⟨by first|exact e.frames|(simpa [Ze4,Code.envs,Ze5,pushEnvs] using e.frames),e.mod,e.bs,e.bsz,e.funs,e.frf,e.hok,e.bare⟩
theorem Env0.in1 {P:ZG}{w:ZX}{K:W.Frag}{mg:Str->Option Zg}{base:Zak}{A:ZO}{outer:List Env}{s:Zj}{H:Hp}(e:Env0 P w K mg base A outer s H) :
  Env0 P w K mg base A.in1 outer s H:=⟨e.frames,e.mod,e.bs,e.bsz,e.funs,e.frf,e.hok,e.bare⟩
section
variable {X:Cx}{pj:PnT}{σ:St}{H:Hp}{s s':Zj}
theorem Inv.env0 (I:Inv X pj σ H s):Env0 X.prog X.w X.K X.mg X.base X.A X.stack s H :=
 ⟨I.ok.frames,I.ok.mod,I.bs,Zau I.ok.bsz I.sz,I.stack,I.stkFree,I.hok,I.bare⟩
theorem Inv.after {Q:VK}{u:Zg}(I:Inv X pj σ H s)(h:CE X.stack X.prog X.w H s Q u s'):EP X pj σ Q u s':=by
 obtain⟨v,H',os,bare,un,hok,r,q⟩:=h
 obtain⟨hh,g,d,t,os'⟩:=s'
 obtain rfl:os'=s.os:=os
 exact⟨v,H',I.call (h':=hh) (g':=g) (d':=d) (t':=t) (ch:=[]) un hok bare (λ b z=>absurd z (by simp)),r,q⟩
end
def Q2 (K:W.Frag)(fd:Zax)(ps:List Str)(ds:List Zg):Prop :=
 ∀(s:Zj)(us:List Zg),K.In s.heap->(us++ds).length=ps.length->Zck s fd ⟨us,[]⟩ (ps.zip (us++ds))
theorem Q2.all {K:W.Frag}{fd:Zax}{ps:List Str}(h:∀us:List Zg,us.length=ps.length->bindArgs fd ⟨us,[]⟩=pure (ps.zip us)):Q2 K fd ps []:=λ s us _ hl=>by
 rw[Za2] at hl ⊢
 exact .of_eq (h us hl)
section
variable {X:Cx}{CX:CXT}{k:Nat}{f C:Zi}{fd:Zax}{ps:List Str}{sp:Sp}{dvs:List V}{ds:List Zg}{E:XK}{x m:Str}{p pos apos:Pos}{e o:Expr}{es:List Expr}{ta:TE}{t:TA}
structure Mk (K:W.Frag)(C f:Zi):Prop where
 makes:W.makesIn K C=Zh
 init:W.findIn K (.ref C) "__init__"=Za (Za (.ref f))
 fn:W.isFn K (.ref f)=Zh
 kp:W.keepIn K (.ref C)=Zh
end
section
variable {X:Cx}{CX:CXT}{k:Nat}{f C:Zi}{fd:Zax}{ps ks:List Str}{sp:Sp}{E:XK}{x m:Str}{p pos apos kpos:Pos}{e o:Expr}{es:List Expr}{kws:List ZcV}{te ta:TE}{t tk:TA}{nm:Option Str}
variable {g:List Zg->List Zg->List Zg}{gV:List V->List V->List V}
end
structure FnScope (N P:List Str)(sc:Zbw):Prop where
 kind:sc.kind=.function
 co:sc.isCoroutine=Zc
 gen:sc.isGenerator=Zc
 nd:N.Nodup
 pre:N.take P.length=P
 par:∀x∈P,sc.names.lookup x=Za .local∨sc.names.lookup x=Za .cell
 nofree:∀y∈sc.names,y.2≠.free
theorem Jjs {kindOf:Str->Option ZaX}{x:Str}:∀{binds:List (Str×Zg)}{m:Str->Option Zg},(∀v,(x,v)∉binds)->bindL kindOf binds m x=m x
 | [],_,_=>rfl
 | (n,v)::r,m,h=>by
  unfold bindL
  rw[Jjs λ w hw=>h w (Zs _ hw)]
  split
  ·have:x≠n:=by rintro rfl;exact h v Zv
   simp[this]
  ·rfl
theorem Jjq {kindOf:Str->Option ZaX}{x:Str}:∀{binds:List (Str×Zg)}{m:Str->Option Zg},(∀v,(x,v)∉binds)->bindC kindOf binds m x=m x
 | [],_,_=>rfl
 | (n,v)::r,m,h=>by
  unfold bindC
  rw[Jjq λ w hw=>h w (Zs _ hw)]
  split
  ·rfl
  ·have:x≠n:=by rintro rfl;exact h v Zv
   simp[this]
theorem Jjr {kindOf:Str->Option ZaX}{x:Str}{v:Zg}:∀{P:List Str}{vs:List Zg}{i:Nat}{m:Str->Option Zg},P.Nodup->P[i]?=Za x->vs[i]?=Za v->kindOf x=Za .local ->
  bindL kindOf (P.zip vs) m x=Za v
 | [],_,_,_,_,h,_,_=>by simp at h
 | _::_,[],_,_,_,_,h,_=>by simp at h
 | p::P,w::vs,0,m,nd,h1,h2,hk=>by
  simp at h1 h2;subst h1;subst h2
  show bindL kindOf ((p,w)::P.zip vs) m p=_
  unfold bindL
  rw[Jjs λ v hv=>(Zcl.mp nd).1 (ZcN hv).1,if_pos hk]
  simp
 | p::P,w::vs,i+1,m,nd,h1,h2,hk=>by
  show bindL kindOf ((p,w)::P.zip vs) m x=_
  unfold bindL
  exact Jjr (i:=i) (Zcl.mp nd).2 (by simpa using h1) (by simpa using h2) hk
theorem Jjp {kindOf:Str->Option ZaX}{x:Str}{v:Zg}:∀{P:List Str}{vs:List Zg}{i:Nat}{m:Str->Option Zg},P.Nodup->P[i]?=Za x->vs[i]?=Za v->kindOf x≠Za .local ->
  bindC kindOf (P.zip vs) m x=Za v
 | [],_,_,_,_,h,_,_=>by simp at h
 | _::_,[],_,_,_,_,h,_=>by simp at h
 | p::P,w::vs,0,m,nd,h1,h2,hk=>by
  simp at h1 h2;subst h1;subst h2
  show bindC kindOf ((p,w)::P.zip vs) m p=_
  unfold bindC
  rw[Jjq λ v hv=>(Zcl.mp nd).1 (ZcN hv).1,if_neg hk]
  simp
 | p::P,w::vs,i+1,m,nd,h1,h2,hk=>by
  show bindC kindOf ((p,w)::P.zip vs) m x=_
  unfold bindC
  exact Jjp (i:=i) (Zcl.mp nd).2 (by simpa using h1) (by simpa using h2) hk
def start (N:List Str)(vs:List V):St:=vs.map Za++Zac (N.length-vs.length) Ze
def cxOf (CX:CXT)(P:ZG)(w:ZX)(K:W.Frag)(mg:Str->Option Zg)(base:Zak)(N:List Str)(qual:Str)(scope:Zbw)(f:Zi)(cd:Zg)(A:ZO)(outer:List Env)(s:Zj)(H:Hp)(E:XK):Cx where
 prog:=P
 w:=w
 K:=K
 mg:=mg
 base:=base
 A:=A.deeper (Zc9 qual scope s.heap.objs.size f cd)
 N:=N
 s₀:=s
 H₀:=H
 env:=Zc9 qual scope s.heap.objs.size f cd
 outer:=outer
 stack:=Zc9 qual scope s.heap.objs.size f cd::outer
 ex:=[]
 calm:=Zh
 fn:=λ _=>Zh
 pn:=[]
 xe:=λ e s'=>Zz (ZE P w) (A.deeper (Zc9 qual scope s.heap.objs.size f cd)) (leaving (Zc9 qual scope s.heap.objs.size f cd) e) (λ _ s''=>CX outer H s E e s'') (λ e' s''=>CX outer H s E e' s'') s'
theorem Jmh {sc:Zbw}{n:Nat}{x:Str}(h:sc.names.lookup x=Za .cell):∃c,(cellsFrom n sc.names []).lookup x=Za c:=by
 have q:=W.cellsFrom_some sc.names n [] (.inl h)
 exact Zch.mp q
theorem Jj9 {CX:CXT}{P:ZG}{w:ZX}{K:W.Frag}{mg:Str->Option Zg}{base:Zak}{N ps:List Str}{qual:Str}{scope:Zbw}{f:Zi}{cd:Zg}{A:ZO}{outer:List Env}{s s1:Zj}{H:Hp}{E:XK}{us:List Zg}{vs:List V}
  (S:FnScope N ps scope)(hd:A.handled=Ze)(e0:Env0 P w K mg base A outer s H)(hl:vs.length=ps.length)(r:Vals vs us)
  (x:InCallC s s.heap.objs.size (bindL (Zc9 qual scope s.heap.objs.size f cd).kindOf (ps.zip us) λ _=>Ze) (cellsFrom (s.heap.objs.size+1) scope.names []) (bindC (Zc9 qual scope s.heap.objs.size f cd).kindOf (ps.zip us) λ _=>Ze) s1) :
  Inv (cxOf CX P w K mg base N qual scope f cd A outer s H E) [] (start N vs) H s1:=by
 have hpl:ps.length<=N.length:=by have:=congrArg Zdr S.pre;rw[ZaH] at this;omega
 obtain⟨h1,tk,rfl,hk⟩:=x.done
 have noA:∀b:Zi,b∉(cxOf CX P w K mg base N qual scope f cd A outer s H E).ex:=λ b z=>absurd (show b∈([]:List Zi) from z) (by simp)
 refine⟨⟨e0.mod,S.kind,rfl,rfl,Zu _,λ y z c h1 h2=>?_,λ y hy=>?_,λ y c _ h=>?_,λ _=>hd,Around.frames_deeper e0.frames,.inr ⟨rfl,rfl⟩,λ b z=>absurd z (noA b),e0.bs,e0.bsz,λ b _ _=>noA b,λ b z=>absurd z (noA b),e0.funs,e0.frf⟩,
  rfl,e0.bare,Un.kept hk,⟨_,x.toInCall.ns,λ i y v h1 h2 h3=>?_⟩,λ y c h=>⟨_,x.cell y c h⟩,e0.hok.fresh (Zu _),λ y c h=>?_,λ p hp=>absurd (show p∈([]:PnT) from hp) (by simp),e0.hok.kept hk,?_⟩
 ·exact name_of_addr x.apart (Za9 h1) (Za9 h2)
 ·have hy:scope.names.lookup y=Za .cell∨scope.names.lookup y=Za .free:=hy
  rcases hy with hy|hy
  ·exact Jmh hy
  ·exact absurd rfl (S.nofree _ (Za9 hy))
 ·exact Ze1 (x.above y c (Za9 h))
 ·have hi:i<vs.length:=by
   unfold start at h2
   by_cases hi:i<vs.length
   ·exact hi
   ·rw[ZI (by simpa using hi)] at h2
    rw[ZbA] at h2
    split at h2<;>cases h2
  have ha:vs[i]?=Za v:=by
   unfold start at h2
   rw[ZF (by simpa using hi),Z6] at h2
   cases e:vs[i]? with
   | none=>rw[e] at h2;cases h2
   | some a=>rw[e] at h2;cases h2;rfl
  obtain⟨u,hu,rv⟩:=r.get ha
  have hp:ps[i]?=Za y:=by
   rw[<- S.pre,Zbb (by omega)];exact h1
  have ndP:ps.Nodup:=by rw[<- S.pre];exact S.nd.sublist (List.take_sublist _ _)
  refine⟨u,rv,?_⟩
  rcases S.par y (Za4 hp) with k|k
  ·exact .inl ⟨k,Jjr ndP hp hu k⟩
  ·obtain⟨c,e⟩:=Jmh (n:=s.heap.objs.size+1) k
   refine .inr ⟨.inl k,c,e,?_⟩
   have q:=x.cell y c e
   rw[Jjp ndP hp hu (by show scope.names.lookup y≠_;rw[k];decide)] at q
   exact q
 ·exact e0.hok.fresh (Ze1 (x.above y c (Za9 h)))
 ·unfold start
  show _=N.length
  rw[ZZ,Zo,ZbP]
  omega
theorem Jxg {CX:CXT}{P:ZG}{w:ZX}{K:W.Frag}{mg:Str->Option Zg}{base:Zak}{k:Nat}{f:Zi}{name qual:Str}{params:Arguments}{body:List Zbu}{scope:Zbw}{dV kV doc pm cdv ct oc:Zg}{an od:Option Zi}
  {osl:Array (Option Zg)}{N ps:List Str}{sp:Sp}(lk:K.lookup f=Za ⟨oc,od,.func (W.fnOf name qual params body scope dV kV doc pm an cdv ct),osl⟩)(hcd:W.codeIn K cdv qual=Zh)(S:FnScope N ps scope)
  (len:∀vs H Q E,sp vs H Q E->vs.length=ps.length)
  (hbody:∀(A:ZO)(outer:List Env)(s:Zj)(H:Hp)(vs:List V)(Q:VK)(E:XK),Room k (A.deeper (Zc9 qual scope s.heap.objs.size f cdv))->sp vs H Q E ->
   ∃t,PSs (cxOf CX P w K mg base N qual scope f cdv A outer s H E) body t/\t { nx:=λ _ H'=>Q .non H',rt:=Q } (start N vs) H) :
  FnOk P w K mg base CX (k+1) f (W.fnOf name qual params body scope dV kV doc pm an cdv ct) ps sp:=by
 refine⟨len,λ A outer s H args us vs Q E hr e0 hb r hsp=>?_⟩
 have hl:=len _ _ _ _ hsp
 have KX:K.In s.heap:=e0.mod.kin.keeps λ b o e=>(e0.bs b o e).1
 have lim:s.heap.NoLimit:=e0.mod.nolimit.keeps λ b o e=>(e0.bs b o e).1
 have hkind:∀y∈ps.zip us,scope.names.lookup y.1=Za .local∨(scope.names.lookup y.1=Za .cell/\((cellsFrom (s.heap.objs.size+1) scope.names []).lookup y.1).isSome=Zh):=λ ⟨n,v⟩ hy=>by
  rcases S.par n (ZcN hy).1 with q|q
  ·exact .inl q
  ·exact .inr ⟨q,W.cellsFrom_some _ _ _ (.inl q)⟩
 refine ZdY hr.depth (KX _ _ lk) rfl S.co S.gen rfl (W.codeRec_of KX hcd) (hb _ _ _ _ ?_)
 refine Zdi S.kind hkind λ env he s1 x=>?_
 subst he
 refine⟨lim.keeps x.toInCall.keep,codeAny_func ?_⟩
 obtain⟨t,ht,hq⟩:=hbody A outer s H vs Q E (hr.deeper _) hsp
 have I:Inv (cxOf CX P w K mg base N qual scope f cdv A outer s H E) [] (start N vs) H s1:=Jj9 S hr.hd e0 hl r x
 refine Zan (ht [] s1 (start N vs) H _ I hq) (λ fl s' hs=>?_) λ e s' hs=>hs
 have fin:∀{σ':St}{H':Hp}{v:V}{u:Zg},Inv (cxOf CX P w K mg base N qual scope f cdv A outer s H E) [] σ' H' s'->RelV v u->Q v H'->CE outer P w H s Q u s' :=
  λ {σ' H' v u} J rv q=>⟨v,H',J.os,J.bare,J.base,J.hok,rv,q⟩
 cases fl with
 | ret u =>
  obtain⟨v,σ',H',J,rv,q⟩:=hs
  exact fin J rv q
 | next =>
  obtain⟨σ',H',J,q⟩:=hs
  exact fin (v:=V.non) (u:=Zag) J rfl q
 | brk =>
  obtain⟨_,_,_,q⟩:=hs
  exact ZaP q
 | cont =>
  obtain⟨_,_,_,q⟩:=hs
  exact ZaP q
section
variable {X:Cx}{x:Str}{p pos:Pos}{e:Expr}{es:List Expr}{t:TA}{id T:String}{r:List V->Hp->VK->Prop}
end
end L2
namespace HT
open PySem PyProof.Rows
section
open PySem.SeqAt
open PySem.AutoSeq1 (wpAny_loadPart')
open PySem.MeetsSeq PySem.MeetsSeq2 PySem.MeetsSeq3
end
section
variable {prog:ZG}{w:ZX}{A:ZO}{E:QvT}{s:Zj}
theorem cat_tup {t b:Zi}{vs ws:List Zg}{Q:QvT}(ht:IsTup s.heap t vs.toArray)(hb:IsTup s.heap b ws.toArray)(hv:vs≠[])
  (h1:ws=[]->Q (.ref t) s)(h2:ws≠[]->Q (.ref s.heap.objs.size) { s with heap:=s.heap.push { cls:=.type "tuple",data:=.seq (vs++ws).toArray } })
  (hsz:vs.length+ws.length<=sizeLine):Zz (ZE prog w) A (ZaQ .Add (.ref t) (.ref b)) Q E s:=by
 obtain⟨⟨cls,dd,data,sl⟩,ho,hc,n,hd⟩:=id ht
 obtain⟨⟨cls2,dd2,data2,sl2⟩,ho2,hc2,n2,hd2⟩:=id hb
 simp only at hc hd hc2 hd2
 subst hc hd hc2 hd2
 have e:vs.toArray++ws.toArray=(vs++ws).toArray:=by simp
 by_cases hw:ws=[]
 ·exact concat_meets ⟨_,ho,rfl⟩ ⟨_,ho2,rfl⟩ noFill_tuple_add seq_tuple_add ZdI Zd8 (Zdz _ _)
   (tuple_addW1 t b vs.toArray ws.toArray n n2 dd dd2 sl sl2 (by simpa using hv) (by simp[hw])) ⟨ho,ho2,h1 hw⟩
 ·refine concat_meets ⟨_,ho,rfl⟩ ⟨_,ho2,rfl⟩ noFill_tuple_add seq_tuple_add ZdI Zd8 (Zdz _ _)
   (tuple_addW2 t b vs.toArray ws.toArray n n2 dd dd2 sl sl2 (by simpa using hv) (by simpa using hw) (by rw[Z5,Z5];exact hsz)) ⟨ho,ho2,?_⟩
  rw[e]
  exact h2 hw
def sIx (n d:Nat):Option Int->Nat
 | none=>d
 | some v=>if v<0 then(v+(n:Int)).toNat else min v.toNat n
theorem sIx_none (n d:Nat):sIx n d Ze=d:=rfl
theorem sIx_nat (n d k:Nat):sIx n d (Za (k:Int))=min k n:=by
 show(if (k:Int)<0 then((k:Int)+(n:Int)).toNat else min (k:Int).toNat n)=min k n
 rw[if_neg (by omega),Zcy]
end
end HT
namespace L2
open PySem PySem.Spec PyProof.Rows
abbrev TO:=St->Hp->(Option Int->Hp->Prop)->Prop
section
variable {X:Cx}{e:Expr}{te:TE}{lo hi:Option Expr}{tl th:TO}{pos p2:Pos}
def SlR (X:Cx)(r:V->Option Int->Option Int->Hp->VK->Prop):Prop :=
 ∀(pj:PnT)(s:Zj)(σ:St)(H:Hp)(x:V)(v vl vu:Zg)(lo hi:Option Int)(sl:Zi)(Q:VK),Inv X pj σ H s->RelV x v->s.heap.IsSliceOf sl vl vu .none->ZeB vl lo->ZeB vu hi->r x lo hi H Q ->
  ∃T id,typeLookup (.type T) "__getitem__"=pure (Za (.builtin id))/\s.TypeIs v T/\Zz (ZE X.prog X.w) X.A (Zen v (.ref sl)) (EP X pj σ Q) X.xe s
def cutV (xs:List V)(lo hi:Option Int):List V:=(xs.drop (HT.sIx xs.length 0 lo)).take (HT.sIx xs.length xs.length hi-HT.sIx xs.length 0 lo)
theorem Jlo (xs:List V)(lo hi:Option Int):(cutV xs lo hi).length<=xs.length:=by
 unfold cutV
 rw[ZaH,ZcA]
 omega
def J1c (K:W.Frag):R2:=λ x y H Q=>∃a b xs ys,x=.ref a/\y=.ref b/\SqT K H a xs/\SqT K H b ys/\xs≠[]/\xs.length+ys.length<=sizeLine /\
 (ys=[]->Q (.ref a) H)/\(ys≠[]->∀p,H p=Ze->Q (.ref p) (upd H p (.tup (xs++ys))))
theorem Vals.nil_iff {xs:List V}{us:List Zg}(r:Vals xs us):us=[]↔xs=[]:=by
 cases r with
 | nil=>simp
 | cons _ _=>simp
theorem Jvs:OpR X (ZaQ .Add) (J1c X.K):=by
 intro pj s σ H x y v u Q I rx ry h
 obtain⟨a,b,xs,ys,rfl,rfl,ha,hb,hx,hz,q1,q2⟩:=h
 cases rx
 cases ry
 obtain⟨its,r1,p1,_⟩:=I.tuple ha
 obtain⟨its2,r2,p2,_⟩:=I.tuple hb
 refine HT.cat_tup p1 p2 (λ z=>hx (r1.nil_iff.mp z)) (λ z=>⟨.ref a,H,I,rfl,q1 (r2.nil_iff.mp z)⟩) (λ z=>?_) (by rw[<- r1.length,<-r2.length];exact hz)
 refine⟨.ref s.heap.objs.size,_,I.laid (t':=s.toks) (o:=.tup (xs++ys)) (λ b ob q=>Zm _ q) (Zu _) ?_,rfl,q2 (λ w=>z (r2.nil_iff.mpr w)) _ (I.hok.fresh (Zu _))⟩
 exact⟨by rw[ZZ];exact hz,_,r1.append r2,IsTup.new _ _⟩
end
noncomputable def ixN (n:Nat)(i:Int):Option Nat:=if 0<=i then(if i<n then Za i.toNat else Ze) else if -(n:Int)<=i then Za (i+n).toNat else Ze
noncomputable def atI {α:Type}(xs:List α)(i:Int):Option α:=(ixN xs.length i).bind λ j=>xs[j]?
theorem Jpp {n:Nat}{i:Int}{j:Nat}(h:ixN n i=Za j):seqIndex? i n=Za j/\j<n/\ -(n:Int)<=i/\i<n:=by
 unfold ixN at h
 by_cases h0:0<=i
 ·rw[if_pos h0] at h
  by_cases h1:i<n
  ·rw[if_pos h1] at h
   have e:i.toNat=j:=Zaw h
   exact⟨by rw[seqIndex_of h0 h1,e],by omega,by omega,h1⟩
  ·rw[if_neg h1] at h;cases h
 ·rw[if_neg h0] at h
  by_cases h1: -(n:Int)<=i
  ·rw[if_pos h1] at h
   have e:(i+n).toNat=j:=Zaw h
   exact⟨by rw[Ze6 (by omega) h1,e],by omega,h1,by omega⟩
  ·rw[if_neg h1] at h;cases h
theorem Jlh {α:Type}{xs:List α}{i:Int}{v:α}(h:atI xs i=Za v):∃j,seqIndex? i xs.length=Za j/\xs[j]?=Za v/\j<xs.length/\ -(xs.length:Int)<=i/\i<xs.length:=by
 unfold atI at h
 cases e:ixN xs.length i with
 | none=>rw[e] at h;cases h
 | some j =>
  rw[e] at h
  obtain⟨h1,h2,h3,h4⟩:=Jpp e
  exact⟨j,h1,h,h2,h3,h4⟩
def Jof (b:Expr):Prop:=∀o i,Zed b Zc o i=operate [o,i] (Zen o i)
def IxR (X:Cx)(r:R2):Prop :=
 ∀(value slice:Expr)(pj:PnT)(s:Zj)(σ:St)(H:Hp)(x y:V)(v u:Zg)(Q:VK),Inv X pj σ H s->RelV x v->RelV y u->r x y H Q ->
  Zed slice Zc v u=operate [v,u] (Zen v u)->Zz (ZE X.prog X.w) X.A (Zd0 value slice v u) (EP X pj σ Q) X.xe s
section
variable {X:Cx}{a b:Expr}{ta tb:TE}{pos:Pos}
def rIxL (K:W.Frag):R2:=λ x y H Q=>∃p xs i v,x=.ref p/\y=.int i/\SqL K H p xs/\atI xs i=Za v/\Q v H
def rIxT (K:W.Frag):R2:=λ x y H Q=>∃p xs i v,x=.ref p/\y=.int i/\SqT K H p xs/\atI xs i=Za v/\Q v H
def rIxS:R2:=λ x y H Q=>∃z i c,x=.str z/\y=.int i/\z.length<=sizeLine/\atI z.cps.toList i=Za c/\Q (.str ⟨#[c]⟩) H
theorem Jpq:IxR X (rIxL X.K):=by
 intro value slice pj s σ H x y v u Q I rx ry h hs
 obtain⟨p,xs,i,z,rfl,rfl,hq,he,q⟩:=h
 cases rx
 obtain⟨t,rfl⟩:=ry
 obtain⟨its,r,pl,hz⟩:=I.list hq
 obtain⟨j,h1,h2,h3,h4,h5⟩:=Jlh he
 obtain⟨w,ew,rw'⟩:=r.get h2
 have hl:=r.length
 have hn:=Yd
 have fin:EP X pj σ Q w s:=⟨z,H,I,rw',q⟩
 by_cases h0:0<=i
 ·have hj:i.toNat=j:=by
   rw[seqIndex_of h0 h5] at h1
   exact Zaw h1
  exact item_listR pl.isList h0 (by omega) (by rw[hj];simpa using ew) fin hs
 ·have hj:(i+(its.toArray.size:Int)).toNat=j:=by
   rw[Ze6 (by omega) h4] at h1
   rw[Z5,<-hl]
   exact Zaw h1
  exact ZdJ (x:=w) pl.isList.typeIs slot_list_getitem.lookup
   (wpAny_getItem_list_neg (Q:=λ r s'=>r=w/\EP X pj σ Q r s') pl.isList (by omega) (by rw[Z5]<;>omega) (by omega) (by rw[hj];simpa using ew) ⟨rfl,fin⟩) hs
theorem Jx9:IxR X (rIxT X.K):=by
 intro value slice pj s σ H x y v u Q I rx ry h hs
 obtain⟨p,xs,i,z,rfl,rfl,hq,he,q⟩:=h
 cases rx
 obtain⟨t,rfl⟩:=ry
 obtain⟨its,r,pl,hz⟩:=I.tuple hq
 obtain⟨j,h1,h2,h3,h4,h5⟩:=Jlh he
 obtain⟨w,ew,rw'⟩:=r.get h2
 have hl:=r.length
 have hn:=Yd
 have fin:EP X pj σ Q w s:=⟨z,H,I,rw',q⟩
 exact ZdJ (x:=w) pl.typeIs slot_tuple_getitem.lookup
  (getItem_tuple (j:=j) (Q:=λ r s'=>r=w/\EP X pj σ Q r s') pl (by omega) (by omega) (by rw[Z5,<-hl];exact h1) (by simpa using ew) ⟨rfl,fin⟩) hs
theorem Jx8:IxR X rIxS:=by
 intro value slice pj s σ H x y v u Q I rx ry h hs
 obtain⟨z,i,c,rfl,rfl,hz,he,q⟩:=h
 obtain⟨t,rfl⟩:=rx
 obtain⟨t',rfl⟩:=ry
 obtain⟨j,h1,h2,h3,h4,h5⟩:=Jlh he
 have hl:z.cps.toList.length=z.length:=by simp[ZcB]
 rw[hl] at h1 h4 h5
 have hn:=Yd
 exact tail_any (ZcC s z t) slot_str_getitem.lookup (getItem_str (c:=c) (by
  have e1:decide (i< -(2^63:Int))=Zc:=decide_eq_false (by omega)
  have e2:decide (i ≥ 2^63)=Zc:=decide_eq_false (by omega)
  rw[e1,e2,Bool.or_false]) (by rw[h1];simpa using h2) ⟨.str ⟨#[c]⟩,H,I.tok _,⟨_,rfl⟩,q⟩) hs
theorem Jnt (its:List Zg)(n j:Nat)(u:Zg):ZdK (·.setIfInBounds j u) { cls:=.type "list",data:=.seq its.toArray n }={ cls:=.type "list",data:=.seq (its.set j u).toArray n }:=by
 simp[ZdK]
theorem Inv.lst {pj:PnT}{σ:St}{H:Hp}{s:Zj}{p:Zi}{xs:List V}(I:Inv X pj σ H s)(h:H p=Za (.lst xs)) :
  ∃(its:List Zg) (n:Nat),Vals xs its/\s.heap.get? p=Za { cls:=.type "list",data:=.seq its.toArray n }/\xs.length<=sizeLine:=by
 obtain⟨z,its,n,r,e⟩:=I.hok p _ h
 exact⟨its,n,r,e,z⟩
theorem Inv.lstUpd {pj:PnT}{σ:St}{H:Hp}{s:Zj}{p:Zi}{xs ys:List V}{its its':List Zg}{n n':Nat}{f:Obj->Obj}(I:Inv X pj σ H s)(h:H p=Za (.lst xs))
  (ho:s.heap.get? p=Za { cls:=.type "list",data:=.seq its.toArray n })(hf:f { cls:=.type "list",data:=.seq its.toArray n }={ cls:=.type "list",data:=.seq its'.toArray n' })(r:Vals ys its')(hz:ys.length<=sizeLine)(t:Nat) :
  Inv X pj σ (upd H p (.lst ys)) { s with heap:=s.heap.update p f,toks:=t }:=by
 have e:(s.heap.update p f).get? p=Za { cls:=.type "list",data:=.seq its'.toArray n' }:=by
  rw[Za0 f ho (by rw[hf]<;>rfl),hf]
 refine I.write (x:=p) (e:=p) (by rw[h];trivial) (.inl rfl) (λ b u hb q=>(Z2 _ _ (Zao hb)).trans q) ⟨_,e⟩ ?_
 exact⟨hz,its',n',r,e⟩
def J1d:V->V->V->Hp->(Hp->Prop)->Prop:=λ o i v H Q=>∃p xs k j,o=.ref p/\i=.int k/\H p=Za (.lst xs)/\ixN xs.length k=Za j/\Q (upd H p (.lst (xs.set j v)))
theorem Jsk:PSet X J1d:=by
 intro pj s σ H o i v ov iv u Q I ro ri rv h
 obtain⟨p,xs,k,j,rfl,rfl,hp,hj,q⟩:=h
 cases ro
 obtain⟨t,rfl⟩:=ri
 obtain⟨its,n,r,ho,hz⟩:=I.lst hp
 obtain⟨h1,h2,h3,h4⟩:=Jpp hj
 have hl:=r.length
 have hn:=Yd
 have I':Inv X pj σ (upd H p (.lst (xs.set j v))) { s with heap:=s.heap.update p (ZdK (·.setIfInBounds j u)) } :=
  I.lstUpd hp ho (Jnt its n j u) (r.set rv j) (by rw[Zbj];exact hz) s.toks
 by_cases h0:0<=k
 ·have hk:k.toNat=j:=by
   rw[seqIndex_of h0 h4] at h1
   exact Zaw h1
  exact W.ki_setAt ho h0 (by omega) (by rw[Z5,<-hl];exact h4) (by rw[hk];exact⟨_,I',q⟩)
 ·have hk:(k+(its.toArray.size:Int)).toNat=j:=by
   rw[Ze6 (by omega) h3] at h1
   rw[Z5,<-hl]
   exact Zaw h1
  exact W.ki_setBack ho (by omega) (by rw[Z5,<-hl];exact h3) (by omega) (by rw[hk];exact⟨_,I',q⟩)
theorem Jk1 (lo hi:Option Int)(n:Nat):(Zcr lo hi Ze n).1=((HT.sIx n 0 lo:Nat):Int)/\(Zcr lo hi Ze n).2.1=((HT.sIx n n hi:Nat):Int)/\(Zcr lo hi Ze n).2.2=1:=by
 refine⟨?_,?_,rfl⟩
 ·cases lo with
  | none=>simp[Zcr,HT.sIx]
  | some i =>
   simp only[Zcr,HT.sIx,Option.getD_none,show(1:Int)>0 by decide,if_true]
   by_cases h:i<0
   ·simp only[h,if_true]<;>omega
   ·simp only[h,if_false]<;>omega
 ·cases hi with
  | none=>simp[Zcr,HT.sIx]
  | some i =>
   simp only[Zcr,HT.sIx,Option.getD_none,show(1:Int)>0 by decide,if_true]
   by_cases h:i<0
   ·simp only[h,if_true]<;>omega
   ·simp only[h,if_false]<;>omega
theorem Jjj (its:List Zg)(lo hi:Option Int):slicePick its.toArray lo hi Ze=((its.drop (HT.sIx its.length 0 lo)).take (HT.sIx its.length its.length hi-HT.sIx its.length 0 lo)).toArray:=by
 obtain⟨h1,h2,h3⟩:=Jk1 lo hi its.toArray.size
 unfold slicePick
 rw[h1,h2,h3]
 simp only[sliceRange_one,pick_run,Z5]<;>rfl
def rSlL (K:W.Frag):V->Option Int->Option Int->Hp->VK->Prop:=λ x lo hi H Q=>∃a xs,x=.ref a/\SqL K H a xs/\∀p,H p=Ze->Q (.ref p) (upd H p (.lst (cutV xs lo hi)))
theorem Jqp:SlR X (rSlL X.K):=by
 intro pj s σ H x v vl vu lo hi sl Q I rx hs pl pu h
 obtain⟨a,xs,rfl,hx,q⟩:=h
 cases rx
 obtain⟨its,r,ht,hz⟩:=I.list hx
 have hlen:=r.length
 refine⟨"list",_,slot_list_getitem.lookup,ht.isList.typeIs,?_⟩
 refine wpAny_getItem_list_slice ht.isList hs pl pu .none (by simp) ?_ (by rw[Z5]<;>omega)
 rw[Jjj,<-hlen]
 refine⟨.ref s.heap.objs.size,_,I.laid (t':=s.toks) (o:=.lst (cutV xs lo hi)) (λ b ob q=>Zm _ q) (Zu _) ?_,rfl,q _ (I.hok.fresh (Zu _))⟩
 exact⟨Zau (Jlo xs lo hi) hz,_,0,(r.drop (HT.sIx xs.length 0 lo)).take (HT.sIx xs.length xs.length hi-HT.sIx xs.length 0 lo),Z8 _ rfl⟩
theorem Jd3:Xw X (.type "list") (λ xs H Q=>∃p ys,xs=[.ref p]/\(SqL X.K H p ys∨SqT X.K H p ys)/\∀l,H l=Ze->Q (.ref l) (upd H l (.lst ys))):=by
 intro pj s σ H xs us Q I r h
 obtain⟨p,ys,rfl,hq,q⟩:=h
 obtain⟨u,rfl,rx⟩:=QG r
 cases rx
 have fin:∀(its:List Zg),Vals ys its->ys.length<=sizeLine->∀(h':Zak)(c':Nat),(∀b o',s.heap.get? b=Za o'->h'.get? b=Za o') ->
   h'.get? s.heap.objs.size=Za { cls:=.type "list",dict:=Ze,data:=.seq its.toArray c',slots:=#[] }->EP X pj σ Q (.ref s.heap.objs.size) { s with heap:=h' }:=λ its r' hz h' c' kp e =>
  ⟨.ref s.heap.objs.size,_,I.laid (t':=s.toks) kp (Zu _) (show Qa X.prog X.w _ h' _ (.lst ys) from⟨hz,its,c',r',e⟩),rfl,q _ (I.hok.fresh (Zu _))⟩
 rcases hq with hq|hq
 ·obtain⟨its,r',pl,hz⟩:=I.list hq
  have hlen:=r'.length
  obtain⟨o,ho,hc,n,hd⟩:=pl.isList
  exact call_list_seq p (.inl rfl) ho hc hd (λ h' c' kp e=>fin its r' hz h' c' kp e) (by simp only[Z5]<;>omega)
 ·obtain⟨its,r',pl,hz⟩:=I.tuple hq
  have hlen:=r'.length
  obtain⟨o,ho,hc,n,hd⟩:=pl
  exact call_list_seq p (.inr rfl) ho hc hd (λ h' c' kp e=>fin its r' hz h' c' kp e) (by simp only[Z5]<;>omega)
theorem Jft:Xw X (.type "tuple") (λ xs H Q=>∃p ys,xs=[.ref p]/\((SqL X.K H p ys/\∀l,H l=Ze->Q (.ref l) (upd H l (.tup ys)))∨(SqT X.K H p ys/\Q (.ref p) H))):=by
 intro pj s σ H xs us Q I r h
 obtain⟨p,ys,rfl,h⟩:=h
 obtain⟨u,rfl,rx⟩:=QG r
 cases rx
 rcases h with⟨hq,q⟩|⟨hq,q⟩
 ·obtain⟨its,r',pl,hz⟩:=I.list hq
  have hlen:=r'.length
  refine call_tuple_list pl.isList (λ h' kp=>?_) (by simp only[Z5]<;>omega)
  have I1:Inv X pj σ H { s with heap:=h' }:=I.kept (t':=s.toks) kp
  have I2:Inv X pj σ (upd H h'.objs.size (.tup ys)) { s with heap:=h'.push { cls:=.type "tuple",data:=.seq its.toArray } } :=
   I1.laid (t':=s.toks) (λ b o e=>Zm _ e) (Zu _) (show Qa X.prog X.w _ _ _ (.tup ys) from⟨hz,its,r',IsTup.new _ _⟩)
  exact⟨.ref h'.objs.size,_,I2,rfl,q _ (I1.hok.fresh (Zu _))⟩
 ·obtain⟨its,r',pl,hz⟩:=I.tuple hq
  exact call_tuple_same pl ⟨.ref p,H,I,rfl,q⟩
def tyV (K:W.Frag)(T:String)(x:V)(H:Hp):Prop:=match x with
 | .str _=>T="str"
 | .int _=>T="int"
 | .ref p=>(T="list"/\∃xs,SqL K H p xs)∨(T="tuple"/\∃o,K.lookup p=Za o/\o.cls=.type "tuple"/\o.dict=Ze) ∨
   (T="dict"/\((∃kvs,H p=Za (.dK kvs))∨∃kvs,H p=Za (.dT kvs)))∨(T="set"/\∃S n,H p=Za (.set S n))
 | _=>False
theorem Jt7 {pj:PnT}{σ:St}{H:Hp}{s:Zj}{T:String}{x:V}{v:Zg}(I:Inv X pj σ H s)(r:RelV x v)(ty:tyV X.K T x H) :
  s.TypeIs v T/\∀a,v=.ref a->∃ob,s.heap.get? a=Za ob/\ob.dict=Ze:=by
 cases x with
 | str z =>
  obtain⟨t,rfl⟩:=r
  cases (show T="str" from ty)
  exact⟨ZcC s z t,λ _ e=>nomatch e⟩
 | int i =>
  obtain⟨t,rfl⟩:=r
  cases (show T="int" from ty)
  exact⟨typeIs_int s i t,λ _ e=>nomatch e⟩
 | ref p =>
  cases r
  rcases ty with⟨rfl,xs,hq⟩|⟨rfl,o,hk,hc,hd⟩|⟨rfl,hk⟩|⟨rfl,S,n,hk⟩
  ·obtain⟨its,_,pl,_⟩:=I.list hq
   refine⟨pl.isList.typeIs,λ a e=>?_⟩
   cases e
   obtain⟨o,n,e,c,hd,_⟩:=pl
   exact⟨o,e,hd⟩
  ·refine⟨⟨o,I.kIn p o hk,hc⟩,λ a e=>?_⟩
   cases e
   exact⟨o,I.kIn _ o hk,hd⟩
  ·have z:∃o,s.heap.get? p=Za o/\o.ExactDict:=by
    rcases hk with⟨kvs,hk⟩|⟨kvs,hk⟩
    ·obtain⟨_,_,_,_,o,_,_,e,ex,_⟩:=I.hok p _ hk
     exact⟨o,e,ex⟩
    ·obtain⟨_,_,_,_,o,_,_,e,ex,_⟩:=I.hok p _ hk
     exact⟨o,e,ex⟩
   obtain⟨o,e,ex⟩:=z
   refine⟨⟨o,e,ex.1⟩,λ a e2=>?_⟩
   cases e2
   exact⟨o,e,ex.2.1⟩
  ·obtain⟨o,_,_,_,e,ex,_⟩:=I.hok p _ hk
   refine⟨⟨o,e,ex.1⟩,λ a e2=>?_⟩
   cases e2
   exact⟨o,e,ex.2.1⟩
 | _=>exact ZaP ty
variable {o e:Expr}{es:List Expr}{to:TE}{t:TA}{name:Str}{apos cpos:Pos}{T id:String}{r:V->List V->Hp->VK->Prop}
end
def MtM (X:Cx)(id:String)(r:V->List V->Hp->VK->Prop):Prop :=
 ∀(pj:PnT)(s:Zj)(σ:St)(H:Hp)(x:V)(xs:List V)(v:Zg)(us:List Zg)(Q:VK),Inv X pj σ H s->RelV x v->Vals xs us->r x xs H Q ->
  Zz (ZE X.prog X.w) X.A (call (.builtin id) (v::us)) (EP X pj σ Q) X.xe s
theorem Vals.one:∀{x:V}{us:List Zg},Vals [x] us->∃u,us=[u]/\RelV x u
 | _,_,.cons r .nil=>⟨_,rfl,r⟩
theorem Vals.two:∀{x y:V}{us:List Zg},Vals [x,y] us->∃u v,us=[u,v]/\RelV x u/\RelV y v
 | _,_,_,.cons r (.cons q .nil)=>⟨_,_,rfl,r,q⟩
theorem Vals.zero:∀{us:List Zg},Vals [] us->us=[]
 | _,.nil=>rfl
theorem Vals.rep {xs:List V}{us:List Zg}(h:Vals xs us):∀k:Nat,Vals (Zac k xs).flatten (Zac k us).flatten
 | 0=>.nil
 | k+1=>by
  rw[ZaU,ZaU,Zbf,Zbf]
  exact Vals.append h (Vals.rep h k)
theorem Jj2 (its:List Zg):∀(k:Nat)(acc:List Zg),
  List.foldl (λ x1 x2=>x1++x2) acc.toArray (Zac k its.toArray)=(acc++(Zac k its).flatten).toArray
 | 0,acc=>by simp
 | k+1,acc=>by
  have e:acc.toArray++its.toArray=(acc++its).toArray:=by simp
  have e2:(acc++its)++(Zac k its).flatten=acc++(Zac (k+1) its).flatten:=by
   rw[ZaU,Zbf,Zaa]
  rw[<- e2,<-Jj2 its k (acc++its),<-e,ZaU,ZdT]
section
variable {X:Cx}{pj:PnT}{σ:St}{H:Hp}{s:Zj}{l b:Zi}{xs ys zs:List V}
theorem Inv.lset {its its':List Zg}{n:Nat}{f:Array Zg->Array Zg}{t':Nat}(I:Inv X pj σ H s)(hH:H l=Za (.lst xs))
  (e:s.heap.get? l=Za { cls:=.type "list",data:=.seq its.toArray n })(hf:f its.toArray=its'.toArray)(hv:Vals ys its')(hz:ys.length<=sizeLine) :
  Inv X pj σ (upd H l (.lst ys)) { s with heap:=s.heap.update l (ZdK f),toks:=t' }:=by
 have q:=PySem.IsL.update e f
 rw[hf] at q
 refine I.write (x:=l) (e:=l) (by rw[hH];exact trivial) (.inl rfl) (λ b' u hb hu=>(Z2 s.heap (ZdK f) (Zao hb)).trans hu) ⟨_,q⟩ ?_
 exact⟨hz,its',_,hv,q⟩
theorem Inv.lnew {its:List Zg}{t':Nat}(I:Inv X pj σ H s)(hv:Vals ys its)(hz:ys.length<=sizeLine) :
  Inv X pj σ (upd H s.heap.objs.size (.lst ys)) { s with heap:=s.heap.push { cls:=.type "list",data:=.seq its.toArray },toks:=t' } :=
 I.laid (λ _ _ q=>Zm _ q) (Zu _) ⟨hz,its,0,hv,Z8 _ rfl⟩
theorem Inv.fresh (I:Inv X pj σ H s):H s.heap.objs.size=Ze:=I.hok.fresh (Zu _)
theorem Inv.lstM (I:Inv X pj σ H s)(hH:H l=Za (.lst xs)):xs.length<=sizeLine/\∃(its:List Zg) (n:Nat),Vals xs its/\xs.length=its.length/\s.heap.get? l=Za { cls:=.type "list",data:=.seq its.toArray n }:=by
 obtain⟨z,its,n,r,e⟩:=I.hok l _ hH
 exact⟨z,its,n,r,r.length,e⟩
theorem Jmv {n:Nat}(h:n<=sizeLine):Zb8 n=Zc:=by
 unfold Zb8
 exact decide_eq_false (by omega)
end
section
variable {X:Cx}
def Jvw:V->List V->Hp->VK->Prop:=λ x vs H Q=>∃l xs y,x=.ref l/\vs=[y]/\H l=Za (.lst xs)/\xs.length<sizeLine/\Q .non (upd H l (.lst (xs++[y])))
theorem Jkf:MtM X "list.append" Jvw:=by
 intro pj s σ H x vs v us Q I rx rv h
 obtain⟨l,xs,y,rfl,rfl,hH,hz,q⟩:=h
 cases rx
 obtain⟨u,rfl,ru⟩:=rv.one
 obtain⟨z,its,n,r,hl,e⟩:=I.lstM hH
 refine ZbL F.slot_list_append ⟨_,e,rfl⟩ F.entry_list_append (F.args_list_append_2 _ _) (PySem.list_append l its.toArray n u (by rw[Z5];omega)) ⟨e,?_⟩
 refine⟨.non,_,I.lset (its':=its++[u]) hH e (by simp) (r.append (.cons ru .nil)) ?_,rfl,q⟩
 rw[ZZ,ZdZ]
 omega
def Jvx:V->List V->Hp->VK->Prop:=λ x vs H Q=>∃l b xs zs,x=.ref l/\vs=[.ref b]/\H l=Za (.lst xs)/\H b=Za (.lst zs)/\xs.length+zs.length<=sizeLine/\Q .non (upd H l (.lst (xs++zs)))
theorem Jyk:MtM X "list.extend" Jvx:=by
 intro pj s σ H x vs v us Q I rx rv h
 obtain⟨l,b,xs,zs,rfl,rfl,hH,hB,hz,q⟩:=h
 cases rx
 obtain⟨u,rfl,ru⟩:=rv.one
 cases ru
 obtain⟨z,its,n,r,hl,e⟩:=I.lstM hH
 obtain⟨z2,its2,n2,r2,hl2,e2⟩:=I.lstM hB
 have hsz:its.toArray.size+its2.toArray.size<=sizeLine:=by rw[Z5,Z5];omega
 have hlong:¬(!its.toArray.isEmpty&&Zb8 (its.toArray.size+its2.toArray.size))=Zh:=by
  rw[Jmv hsz,ZbB]
  exact Zy
 refine ZbL F.slot_list_extend ⟨_,e,rfl⟩ F.entry_list_extend (F.args_list_extend_2 _ _)
  (AutoSeq1.list_extend_list_list_0 l its.toArray n b its2.toArray n2 hlong (by rw[Z5];omega) (by omega)) ⟨e,e2,?_⟩
 refine⟨.non,_,I.lset (its':=its++its2) hH e (by simp) (r.append r2) ?_,rfl,q⟩
 rw[ZZ]
 omega
def rCat:R2:=λ x y H Q=>∃l b xs zs,x=.ref l/\y=.ref b/\H l=Za (.lst xs)/\H b=Za (.lst zs)/\xs.length+zs.length<=sizeLine/\∀p,H p=Ze->Q (.ref p) (upd H p (.lst (xs++zs)))
theorem Jyt:OpR X (ZaQ .Add) rCat:=by
 intro pj s σ H x y v u Q I rx ry h
 obtain⟨l,b,xs,zs,rfl,rfl,hH,hB,hz,q⟩:=h
 cases rx
 cases ry
 obtain⟨z,its,n,r,hl,e⟩:=I.lstM hH
 obtain⟨z2,its2,n2,r2,hl2,e2⟩:=I.lstM hB
 refine PySem.P.add_list e e2 ?_ (by rw[Z5,Z5];omega)
 have ea:its.toArray++its2.toArray=(its++its2).toArray:=by simp
 rw[ea]
 exact⟨.ref _,_,I.lnew (t':=s.toks) (r.append r2) (by rw[ZZ];omega),rfl,q _ I.fresh⟩
def rRep:R2:=λ x y H Q=>∃l k xs,x=.ref l/\y=.int k/\H l=Za (.lst xs)/\ -(2^63)<=k/\k<2^63/\xs.length*k.toNat<=sizeLine /\
 ∀p,H p=Ze->Q (.ref p) (upd H p (.lst (Zac k.toNat xs).flatten))
theorem Jvg {α:Type}(xs:List α)(k:Nat):(Zac k xs).flatten.length=k*xs.length:=by
 induction k with
 | zero=>simp
 | succ k ih=>rw[ZaU,Zbf,ZZ,ih,Nat.succ_mul,Nat.add_comm]
theorem Jyw:OpR X (ZaQ .Mult) rRep:=by
 intro pj s σ H x y v u Q I rx ry h
 obtain⟨l,k,xs,rfl,rfl,hH,h1,h2,hz,q⟩:=h
 cases rx
 obtain⟨t,rfl⟩:=ry
 obtain⟨z,its,n,r,hl,e⟩:=I.lstM hH
 have hlen:its.toArray.size*k.toNat<=sizeLine:=by rw[Z5,<-hl];exact hz
 have hcap:¬its.toArray.size*k.toNat>(2^63-1)/8:=by
  have:(sizeLine:Nat)<=(2^63-1)/8:=by decide
  omega
 have hfit:¬(!Builtin.List.listFitsIndex k)=Zh:=by
  rw[fitsIndex_both h1 h2]
  exact Zy
 have hlong:¬Zb8 (its.toArray.size*k.toNat)=Zh:=by
  rw[Jmv hlen]
  exact Zy
 have hnew:List.foldl (λ x1 x2=>x1++x2) #[] (Zac (if its.toArray.isEmpty=Zh then 0 else k.toNat) its.toArray)=(Zac k.toNat its).flatten.toArray:=by
  have f0:∀m:Nat,List.foldl (λ x1 x2=>x1++x2) #[] (Zac m its.toArray)=(Zac m its).flatten.toArray:=λ m=>by
   have:=Jj2 its m []
   rw[ZaM] at this
   exact this
  rw[f0]
  cases its with
  | nil=>simp
  | cons a r'=>rw[if_neg (by simp)]
 refine wpAny_binaryOp_repeat_ref (T:="list") (U:="int") (by decide) ⟨_,e,rfl⟩ (λ s'=>typeIs_int s' k t) noFill_list_mul F.fills_int_mul F.slot_int_rmul repeat_list F.slot_int_index.lookup
  (ZbL F.slot_int_rmul (typeIs_int s k t) F.entry_int_rmul (F.args_int_rmul_2 _ _) (int___rmul___int_list k t l its.toArray n)
   ⟨e,rfl,⟨_,e,rfl⟩,ZbL F.slot_list_mul ⟨_,e,rfl⟩ F.entry_list_mul (F.args_list_mul_2 _ _) (AutoListH.list___mul___list_int_3 l its.toArray n k t hfit hcap hlong) ⟨e,?_⟩⟩)
 rw[hnew]
 exact⟨.ref _,_,I.lnew (t':=s.toks) (r.rep k.toNat) (by rw[Jvg,Nat.mul_comm];exact hz),rfl,q _ I.fresh⟩
end
section
variable {prog:ZG}{w:ZX}{A:ZO}{E:QvT}{s:Zj}
end
section
variable {X:Cx}
end
section
variable {κ:Type}[DecidableEq κ]
def valV (kvs:List (κ×V))(k:κ):Option V:=(kvs.find? λ kv=>decide (kv.1=k)).map (·.2)
def putK (kvs:List (κ×V))(k:κ)(v:V):List (κ×V) :=
 if (kvs.any λ kv=>decide (kv.1=k))=Zh then kvs.map (λ kv=>if kv.1=k then(kv.1,v) else kv) else kvs++[(k,v)]
def Jxd (kvs:List (κ×V))(k:κ):List (κ×V):=kvs.filter λ kv=>decide (kv.1≠k)
theorem Jg8 {p:κ×V}{r:List (κ×V)}{k:κ}(e:p.1=k):valV (p::r) k=Za p.2:=by simp[valV,Zbk,e]
theorem Jg7 {p:κ×V}{r:List (κ×V)}{k:κ}(e:¬p.1=k):valV (p::r) k=valV r k:=by simp[valV,Zbk,e]
theorem Jm9 (k:κ):∀kvs:List (κ×V),(kvs.any λ kv=>decide (kv.1=k))=(valV kvs k).isSome
 | []=>rfl
 | p::r=>by
  rw[ZcF]
  by_cases e:p.1=k
  ·simp only[Jg8 e,decide_eq_true e,Bool.true_or,Option.isSome_some]
  ·rw[Jg7 e,decide_eq_false e,Bool.false_or];exact Jm9 k r
theorem Jlx (kvs:List (κ×V))(k:κ)(v:V):(putK kvs k v).length<=kvs.length+1:=by
 unfold putK
 split
 ·rw[Zo];omega
 ·rw[ZZ,Z0,Zal];omega
theorem RelO.isSome_eq {o:Option V}{u:Option Zg}(r:RelO o u):o.isSome=u.isSome:=by
 cases o with
 | none=>cases u with
  | none=>rfl
  | some _=>exact Zf r
 | some _=>cases u with
  | none=>exact Zf r
  | some _=>rfl
theorem RelO.getD {o:Option V}{u:Option Zg}{d:V}{d':Zg}(r:RelO o u)(rd:RelV d d'):RelV (o.getD d) (u.getD d'):=by
 cases o with
 | none=>cases u with
  | none=>exact rd
  | some _=>exact Zf r
 | some _=>cases u with
  | none=>exact Zf r
  | some _=>exact r
theorem KV.val {kvs:List (κ×V)}{vs:List (κ×Zg)}(r:KV kvs vs)(k:κ):RelO (valV kvs k) (Ze7 vs k):=by
 unfold KV at r
 induction r with
 | nil=>exact True.intro
 | @cons p q ps qs h t ih =>
  obtain⟨h1,h2⟩:=h
  by_cases e:p.1=k
  ·have e':q.1=k:=h1.symm.trans e
   have b:Ze7 (q::qs) k=Za q.2:=by simp[Ze7,Zbk,e']
   rw[Jg8 e,b];exact h2
  ·have e':¬q.1=k:=λ z=>e (h1.trans z)
   have b:Ze7 (q::qs) k=Ze7 qs k:=by simp[Ze7,Zbk,e']
   rw[Jg7 e,b];exact ih
theorem KV.any {kvs:List (κ×V)}{vs:List (κ×Zg)}(r:KV kvs vs)(k:κ):(kvs.any λ kv=>decide (kv.1=k))=vs.any λ kv=>decide (kv.1=k):=by
 unfold KV at r
 induction r with
 | nil=>rfl
 | cons h t ih=>rw[ZcF,ZcF,ih,h.1]
theorem KV.repl {kvs:List (κ×V)}{vs:List (κ×Zg)}(r:KV kvs vs)(k:κ){y:V}{u:Zg}(ry:RelV y u) :
  KV (kvs.map λ kv=>if kv.1=k then(kv.1,y) else kv) (vs.map λ kv=>if kv.1=k then(kv.1,u) else kv):=by
 unfold KV at r ⊢
 induction r with
 | nil=>exact .nil
 | @cons p q ps qs h t ih =>
  rw[ZA,ZA]
  refine .cons ?_ ih
  obtain⟨h1,h2⟩:=h
  by_cases e:p.1=k
  ·rw[if_pos e,if_pos (h1.symm.trans e)];exact⟨h1,ry⟩
  ·rw[if_neg e,if_neg (λ z=>e (h1.trans z))];exact⟨h1,h2⟩
theorem KV.put {kvs:List (κ×V)}{vs:List (κ×Zg)}(r:KV kvs vs)(k:κ){y:V}{u:Zg}(ry:RelV y u):KV (putK kvs k y) (stored vs k u):=by
 unfold putK stored
 rw[r.any k]
 by_cases e:(vs.any λ kv=>decide (kv.1=k))=Zh
 ·rw[if_pos e,if_pos e];exact r.repl k ry
 ·rw[if_neg e,if_neg e];exact Paired.snoc r ⟨rfl,ry⟩
theorem KV.drop {kvs:List (κ×V)}{vs:List (κ×Zg)}(r:KV kvs vs)(k:κ):KV (Jxd kvs k) (without vs k):=by
 unfold KV at r ⊢
 unfold Jxd without
 induction r with
 | nil=>exact .nil
 | @cons p q ps qs h t ih =>
  obtain⟨h1,h2⟩:=h
  rw[List.filter_cons,List.filter_cons]
  by_cases e:p.1=k
  ·have a:¬decide (p.1≠k)=Zh:=by simp[e]
   have b:¬decide (q.1≠k)=Zh:=by simp[h1.symm.trans e]
   rw[if_neg a,if_neg b];exact ih
  ·have e':¬q.1=k:=λ z=>e (h1.trans z)
   have a:decide (p.1≠k)=Zh:=by simp[e]
   have b:decide (q.1≠k)=Zh:=by simp[e']
   rw[if_pos a,if_pos b];exact .cons ⟨h1,h2⟩ ih
theorem KV.keys {kvs:List (κ×V)}{vs:List (κ×Zg)}(r:KV kvs vs):kvs.map (·.1)=vs.map (·.1):=by
 unfold KV at r
 induction r with
 | nil=>rfl
 | cons h t ih=>rw[ZA,ZA,ih,h.1]
theorem KV.length {kvs:List (κ×V)}{vs:List (κ×Zg)}(r:KV kvs vs):kvs.length=vs.length:=Zep r
end
theorem Jya {P:ZG}{w:ZX}{k:Key}{u:Zg}(r:RelV (kV k) u):(VQ P w).is k u=Zh:=by
 cases k with
 | inl i=>obtain⟨t,e⟩:=(show ∃t,u=Zd5 i t from r);subst e;exact Jl1 P w i t
 | inr x=>obtain⟨t,e⟩:=(show ∃t,u=Zel x t from r);subst e;exact Jl2 P w x t
abbrev KT (H:Hp):List (List Key×V)->List (List Key×Zi×Zg)->Prop:=Paired λ p q=>p.1=q.1/\H q.2.1=Za (.tup (p.1.map kV))/\RelV p.2 q.2.2
theorem KT.val {H:Hp}{kvs:List (List Key×V)}{xs:List (List Key×Zi×Zg)}(r:KT H kvs xs)(k:List Key):RelO (valV kvs k) ((atKey xs k).map (·.2)):=by
 induction r with
 | nil=>exact True.intro
 | @cons p q ps qs h t ih =>
  obtain⟨h1,_,h2⟩:=h
  by_cases e:p.1=k
  ·have e':q.1=k:=h1.symm.trans e
   have b:atKey (q::qs) k=Za q.2:=by simp[atKey,Zbk,e']
   rw[Jg8 e,b];exact h2
  ·have e':¬q.1=k:=λ z=>e (h1.trans z)
   have b:atKey (q::qs) k=atKey qs k:=by simp[atKey,Zbk,e']
   rw[Jg7 e,b];exact ih
theorem KT.repl {H:Hp}{kvs:List (List Key×V)}{xs:List (List Key×Zi×Zg)}(r:KT H kvs xs)(k:List Key){y:V}{u:Zg}(ry:RelV y u) :
  KT H (kvs.map λ kv=>if kv.1=k then(kv.1,y) else kv) (xs.map (putAt k u)):=by
 induction r with
 | nil=>exact .nil
 | @cons p q ps qs h t ih =>
  rw[ZA,ZA]
  refine .cons ?_ ih
  obtain⟨h1,h2,h3⟩:=h
  unfold putAt
  by_cases e:p.1=k
  ·rw[if_pos e,if_pos (h1.symm.trans e)];exact⟨h1,h2,ry⟩
  ·rw[if_neg e,if_neg (λ z=>e (h1.trans z))];exact⟨h1,h2,h3⟩
theorem KT.put {H:Hp}{kvs:List (List Key×V)}{xs:List (List Key×Zi×Zg)}(r:KT H kvs xs)(k:List Key){b:Zi}{y:V}{u:Zg}(hb:H b=Za (.tup (k.map kV)))(ry:RelV y u) :
  KT H (putK kvs k y) (storedH xs k b u):=by
 have e:(kvs.any λ kv=>decide (kv.1=k))=(atKey xs k).isSome:=by
  rw[Jm9,(r.val k).isSome_eq,Option.isSome_map]
 unfold putK storedH
 rw[e]
 by_cases q:(atKey xs k).isSome=Zh
 ·rw[if_pos q,if_pos q];exact r.repl k ry
 ·rw[if_neg q,if_neg q];exact Paired.snoc r ⟨rfl,hb,ry⟩
theorem KT.keeps {H H':Hp}{kvs:List (List Key×V)}{xs:List (List Key×Zi×Zg)}(r:KT H kvs xs)(ht:∀b ys,H b=Za (.tup ys)->H' b=Za (.tup ys)):KT H' kvs xs :=
 Paired.mapP r λ _ _ z=>⟨z.1,ht _ _ z.2.1,z.2.2⟩
section
variable {P:ZG}{w:ZX}{H:Hp}{h:Zak}{a:Zi}
theorem J1g {u:HO}(ok:HOk P w H h)(e:Rd H a u):Qa P w H h a u:=e.ok ok
theorem J0h {kvs:List (Key×V)}(ok:HOk P w H h)(e:Rd H a (.dK kvs)):kvs.length<=sizeLine/\(a==Zdd)=Zc/\∃vs,KV kvs vs/\h.DictOf (VQ P w) a vs :=
 show Qa P w H h a (.dK kvs) from J1g ok e
theorem Jxa {kvs:List (Key×V)}(ok:HOk P w H h)(e:H a=Za (.dK kvs)):kvs.length<=sizeLine/\(a==Zdd)=Zc/\∃vs,KV kvs vs/\h.DictOf (VQ P w) a vs:=J0h ok (.inl e)
end
def DGet (H:Hp)(a:Zi)(y:V)(r:Option V):Prop :=
 (∃kvs k,Rd H a (.dK kvs)/\y=kV k/\r=valV kvs k)∨∃kvs k b,Rd H a (.dT kvs)/\y=.ref b/\H b=Za (.tup (k.map kV))/\r=valV kvs k
def DPut (H:Hp)(a:Zi)(y v:V)(H':Hp):Prop :=
 (∃kvs k,H a=Za (.dK kvs)/\y=kV k/\kvs.length<sizeLine/\H'=upd H a (.dK (putK kvs k v))) ∨
 ∃kvs k b,H a=Za (.dT kvs)/\y=.ref b/\H b=Za (.tup (k.map kV))/\kvs.length<sizeLine/\H'=upd H a (.dT (putK kvs k v))
theorem DGet.k {H:Hp}{a:Zi}{kvs:List (Key×V)}{k:Key}(e:H a=Za (.dK kvs)):DGet H a (kV k) (valV kvs k):=.inl ⟨kvs,k,.inl e,rfl,rfl⟩
theorem DGet.t {H:Hp}{a b:Zi}{kvs:List (List Key×V)}{k:List Key}(e:H a=Za (.dT kvs))(eb:H b=Za (.tup (k.map kV))):DGet H a (.ref b) (valV kvs k):=.inr ⟨kvs,k,b,.inl e,rfl,eb,rfl⟩
theorem DPut.k {H:Hp}{a:Zi}{kvs:List (Key×V)}{k:Key}{v:V}(e:H a=Za (.dK kvs))(hl:kvs.length<sizeLine):DPut H a (kV k) v (upd H a (.dK (putK kvs k v))):=.inl ⟨kvs,k,e,rfl,hl,rfl⟩
theorem DPut.t {H:Hp}{a b:Zi}{kvs:List (List Key×V)}{k:List Key}{v:V}(e:H a=Za (.dT kvs))(eb:H b=Za (.tup (k.map kV)))(hl:kvs.length<sizeLine) :
  DPut H a (.ref b) v (upd H a (.dT (putK kvs k v))):=.inr ⟨kvs,k,b,e,rfl,eb,hl,rfl⟩
section
variable {X:Cx}{pj:PnT}{σ:St}{H:Hp}{s:Zj}{a:Zi}{y v:V}{u r:Zg}{o:Option V}{A:ZO}{E:QvT}
theorem Jun {h':Zak}{t':Nat}{ob:HO}(I:Inv X pj σ H s)(mu:Mut (H a))(hs:ZbK a s.heap h')(he:∃q,h'.get? a=Za q)(new:Qa X.prog X.w (upd H a ob) h' a ob) :
  Inv X pj σ (upd H a ob) { s with heap:=h',toks:=t' } :=
 I.write (x:=a) (e:=a) mu (.inl rfl) (λ b q hb z=>(hs.2 b hb).trans z) he new
theorem Jw9 {P:ZG}{w:ZX}{H':Hp}{h':Zak}{kvs:List (Key×V)}{vs:List (Key×Zg)}(z:kvs.length<=sizeLine)(hd:(a==Zdd)=Zc)(rel:KV kvs vs)(dd:h'.DictOf (VQ P w) a vs) :
  Qa P w H' h' a (.dK kvs):=⟨z,hd,vs,rel,dd⟩
end
section
variable {X:Cx}{pj:PnT}{σ:St}{H:Hp}{s:Zj}{a:Zi}{kvs:List (Key×V)}{k:Key}{u:Zg}{A:ZO}{E:QvT}
end
section
variable {X:Cx}{o i e value:Expr}{pos pos' tpos:Pos}{td ty tv:TE}
end
section
variable {X:Cx}{pos:Pos}
end
section
variable {X:Cx}{pj:PnT}{σ:St}{H:Hp}{s:Zj}{a:Zi}{y d:V}{u r:Zg}{o:Option V}{A:ZO}{E:QvT}
end
section
variable {X:Cx}{o e f:Expr}{apos cpos:Pos}{td ty tx:TE}
end
section
variable {X:Cx}{pj:PnT}{σ:St}{H:Hp}{s:Zj}{a:Zi}{kvs:List (Key×V)}{A:ZO}{E:QvT}
end
end L2
namespace Att
open PySem PySem.W PySem.Calls PyProof.Rows
theorem Jhj {P:Params}{h:Zak}:∀(ns:List Int)(vs:List Zg),WellAll P h vs (ns.map WData.int)->Zds vs ns:=by
 intro ns
 induction ns with
 | nil =>
  intro vs w
  rw[Zbr] at w
  cases w
  exact .nil
 | cons n ns ih =>
  intro vs w
  rw[ZA] at w
  cases w with
  | cons a b =>
   cases a
   exact .cons _ _ (ih _ b)
theorem Jqn {l:OpenLaw}{n:Nat}(hn:l.most=Za n){P:Params}{h:Zak}{args:List WData}{vals:List Zg}
  (hpre:l.row.toRowW.claim.pre args=Zh)(hwl:WellAll P h vals args) :
  ∃a vs ns,vals=[ZaZ a]/\args=[WData.list (ns.map WData.int)]/\h.get? a=Za { cls:=.type "list",data:=.seq vs.toArray }/\Zds vs ns/\ns.length<=n:=by
 have hsh:WShape.hasAll [] args [.list .int]=Zh:=(pre_splitW hpre).1
 have hc:l.pre.holds [] { args:=args }=Zh:=(pre_splitW hpre).2
 obtain⟨d,r,rfl,h1,h2⟩:=hasAllW_cons hsh
 obtain rfl:=hasAllW_nil h2
 obtain⟨xs,rfl,h3⟩:=hasW_list h1
 obtain⟨ns,rfl⟩:=items_int h3
 have hlen:ns.length<=n:=by
  unfold OpenLaw.pre at hc
  have h4:(WTm.not (.lt (.lit (.int (n:Int))) (.len (.arg 0)))).holds [] { args:=[.list (ns.map .int)] }=Zh:=by
   have h4:=(holds_andW hc).1
   rw[hn] at h4
   exact h4
  have h5:=condW_of h4 (w_not (w_lt w_lit (w_len_list (w_arg rfl))))
  rw[Zo] at h5
  refine Zd9 λ q=>?_
  have q':(n:Int)<((ns.length:Nat):Int):=by omega
  first
   | (rw[decide_eq_true q'] at h5;exact absurd h5 (by decide))
   | (simp at h5;omega)
 cases hwl with
 | cons w1 w2 =>
  cases w2
  cases w1 with
  | list ho hall=>exact⟨_,_,ns,rfl,rfl,ho,Jhj ns _ hall,hlen⟩
theorem Jqc (l:OpenLaw)(args:List WData):l.row.toRowW.claim.post args (.bool Zh) args=Zh :=
 postW_of (r:=l.row.toRowW) (X:=(Zh==Zh))
  (show WShape.has [] (.bool Zh) .bool=Zh by first|rfl|decide|simp[WShape.has,WShape.arms,WShape.armsAll])
  (show(WTm.eq .res (.lit (.bool Zh))).value [] { args:=args,res:=Za (.bool Zh),after:=args }=Za (.bool (Zh==Zh)) from w_eq_bool (w_res rfl) w_lit) rfl
theorem attach_call {l:OpenLaw}{n:Nat}{q:ZG}{loose:List Str}{XP:(Str->Option Zg)->Zak->Prop}{YP:ZX->Zak->Prop}{d:DefRec}
  (hn:l.most=Za n)(hdf:d.params.defaults=[])
  (call:∀(w:ZX)(s₀ s₁:Zj)(mg mb:Str->Option Zg)(fa:Zi)(o:Obj)(pm cd doc:Zg)(a:Zi)(vs:List Zg)(ns:List Int),
   Ground q loose [] XP w s₀ mg mb s₁.heap->YP w s₁.heap ->
   s₁.heap.get? fa=Za o->o.data=.func (docDef d.name d.params d.body d.scope pm cd doc)->s₁.heap.CodeRec cd d.name->mg d.name=Za (.ref fa) ->
   s₁.heap.get? a=Za { cls:=.type "list",data:=.seq vs.toArray }->Zds vs ns->ns.length<=n->s₁.gens=#[] ->
   Zcw (ZE l.prog w) Zeo (.call (.ref fa) ⟨[.ref a],[]⟩) (λ r s'=>r=.ok (.ret (.bool Zh))/\OldK s₁.heap s'.heap/\s'.os=s₁.os/\ZcU s'.gens) s₁) :
  WalkO q loose XP YP l.row.toRowW d [] (λ f vs=>PySem.call f vs):=by
 intro w s₀ s₁ mg mb G Y fa o pm cd doc dV kV ho hd hcd hD hmg hg args vals as hpre hlay hrd hwl hlo
 obtain rfl:dV=.none:=Dflts.none hD hdf
 obtain rfl:kV=.none:=Dflts.noKw hD
 obtain⟨a,vs,ns,rfl,rfl,hobj,hints,hlen⟩:=Jqn hn hpre hwl
 refine enter_call (Zcb (call w s₀ s₁ mg mb fa o pm cd doc a vs ns G Y ho (fd_plain hd) hcd hmg hobj hints hlen hg) λ r s' hq=>?_)
 obtain⟨rfl,h2,h3,h4⟩:=hq
 exact⟨.inl ⟨.bool Zh,.bool Zh,[],rfl,λ _=>rfl,.bool Zh,Jqc l _,λ _=>⟨List.Pairwise.nil,λ _ hm=>(nomatch hm)⟩⟩,h2,h3,h4⟩
section
variable {prog:ZG}{w:ZX}{A:ZO}{E:QvT}{s:Zj}{K:Frag}
end
end Att
namespace L2
open PySem PySem.Spec PyProof.Rows
theorem Jf8:∀{vs:List Zg}{ns:List Int},Zds vs ns->Vals (ns.map V.int) vs
 | _,_,.nil=>.nil
 | _,_,.cons n t h=>.cons ⟨t,rfl⟩ (Jf8 h)
def Only (H:Hp):Prop:=∀b,H b=Ze∨∃o xs,H b=Za (.frz o (.lst xs))
theorem Jr3 {P:ZG}{w:ZX}{K:W.Frag}{mg mb:Str->Option Zg}{CX:CXT}{k:Nat}{fa a:Zi}{fd:Zax}{x:Str}{sp:Sp}{s₁:Zj}{vs:List Zg}{ns:List Int}
  (KX:K.In s₁.heap)(hns:s₁.heap.Ns Zp mg)(hb:s₁.heap.Ns Zdf mb)(hbb:∀x:Str,x≠"__name__"->mb x=Zbo x)(hlim:s₁.heap.NoLimit)(hg:s₁.gens=#[])
  (ha:s₁.heap.get? a=Za { cls:=.type "list",data:=.seq vs.toArray })(hi:Zds vs ns)(hl:ns.length<=sizeLine)(hr:Room k Zeo)
  (F:∀base:Zak,K.In base->base.Ns Zp mg->FnOk P w K mg base CX k fa fd [x] sp)(hbind:∀(s:Zj)(u:Zg),Zck s fd ⟨[u],[]⟩ [(x,u)])
  (hsp:∀H:Hp,Only H->SqL K H a (ns.map V.int)->sp [.ref a] H (λ v _=>v=.bl Zh) λ _ _ _=>False)
  (hCX:∀H e s',CX [] H s₁ (λ _ _ _=>False) e s'->False) :
  Zcw (ZE P w) Zeo (.call (.ref fa) ⟨[.ref a],[]⟩) (λ r s'=>r=.ok (.ret (.bool Zh))/\OldK s₁.heap s'.heap/\s'.os=s₁.os/\ZcU s'.gens) s₁:=by
 have rv:=Jf8 hi
 have lenV:=hi.length
 -- from an abstract heap in which nothing but the script may be tracked
 have core:∀H:Hp,Only H->SqL K H a (ns.map V.int)->HOk P w H s₁.heap->(∀b,H b≠Ze->b=a)->(H a≠Ze->K.lookup a=Ze) ->
   Zcw (ZE P w) Zeo (.call (.ref fa) ⟨[.ref a],[]⟩) (λ r s'=>r=.ok (.ret (.bool Zh))/\OldK s₁.heap s'.heap/\s'.os=s₁.os/\ZcU s'.gens) s₁:=by
  intro H hO hS hok hA hK
  have base_of:∀{b:Zi}{o:Obj},s₁.heap.get? b=Za o->H b=Ze->(hidT s₁.heap H).get? b=Za o:=λ e n=>Jrq e n
  have noA:∀{b:Zi}{o:Obj}{es:Array DictEntry}{ep:Nat},s₁.heap.get? b=Za o->o.data=.dict es ep->H b=Ze:=λ {b o es ep} e d=>by
   cases q:H b with
   | none=>rfl
   | some u =>
    have e':b=a:=hA b (by rw[q];simp)
    subst e'
    rw[ha] at e;cases e
    have d':Data.seq vs.toArray _=Data.dict es ep:=d
    cases d'
  have nsK:∀{b:Zi}{m:Str->Option Zg},s₁.heap.Ns b m->(hidT s₁.heap H).Ns b m:=λ {b m} ⟨o,es,ep,e,d,r⟩=>⟨o,es,ep,base_of e (noA e d),d,r⟩
  have hKb:K.In (hidT s₁.heap H):=λ b o e=>base_of (KX b o e) (by
   cases q:H b with
   | none=>rfl
   | some u =>
    have e':b=a:=hA b (by rw[q];simp)
    subst e'
    rw[hK (by rw[q];simp)] at e;cases e)
  have hM:Mod K mg (hidT s₁.heap H):=⟨hKb,nsK hns,⟨mb,nsK hb,hbb⟩,let ⟨mc,h1,h2⟩:=hlim;⟨mc,nsK h1,h2⟩⟩
  have e0:Env0 P w K mg (hidT s₁.heap H) Zeo [] s₁ H:=⟨rfl,hM,λ b o e=>Jvr e,Zcx (Jph _ _),trivial,λ b hb=>absurd (show b∈([]:List Zi) from hb) (by simp),hok,.of_eq hg⟩
  refine Zcb ((F _ hKb (nsK hns)).run Zeo [] s₁ H ⟨[.ref a],[]⟩ [.ref a] [.ref a] _ _ hr e0 (hbind s₁ (.ref a)) (.cons rfl .nil) (hsp H hO hS)) λ r s' h=>?_
  cases r with
  | error e=>exact(hCX H e s' h).elim
  | ok fl =>
   cases fl with
   | next=>exact ZaP h
   | brk=>exact ZaP h
   | cont=>exact ZaP h
   | ret u =>
    obtain⟨v,H',os,bare,un,hok',r',q⟩:=h
    have q':v=.bl Zh:=q
    subst q'
    obtain rfl:u=Zco Zh:=r'
    refine⟨rfl,OldK.of_keep λ b o e=>?_,os,bare⟩
    cases q:H b with
    | none=>exact un.keep b o e q (by intro z;exact absurd (show b∈([]:List Zi) from z) (by simp)) (by simp)
    | some u =>
     rcases hO b with z|⟨ob,xs,z⟩
     ·rw[q] at z;cases z
     ·have z2:=un.frzs b ob _ z
      obtain⟨e1,_⟩:=hok b _ z
      obtain⟨e2,_⟩:=hok' b _ z2
      rw[e] at e1;cases e1
      exact e2
 cases hk:K.lookup a with
 | some o =>
  -- the script is one of the module's own objects
  have e:=KX a o hk
  rw[ha] at e
  cases e
  refine core (λ _=>Ze) (λ _=>.inl rfl) (.inr ⟨_,vs.toArray,_,hk,rfl,rfl,rfl,by rw[Z5,lenV];exact hl,by simpa using rv⟩) (λ b u z=>by have z':(Ze:Option HO)=Za u:=z;cases z') (λ b z=>absurd rfl z) λ z=>absurd rfl z
 | none =>
  refine core (λ b=>if b=a then Za (.frz { cls:=.type "list",data:=.seq vs.toArray } (.lst (ns.map V.int))) else Ze) (λ b=>?_) (.inl (.inr ⟨{ cls:=.type "list",data:=.seq vs.toArray },if_pos rfl⟩)) (λ b u z=>?_) (λ b z=>?_) λ _=>hk
  ·by_cases hb:b=a
   ·exact .inr ⟨_,_,if_pos hb⟩
   ·exact .inl (if_neg hb)
  ·by_cases hb:b=a
   ·have z':=(if_pos hb).symm.trans z
    cases z'
    subst hb
    exact⟨ha,by rw[Zo];exact hl,vs,_,rv,ha⟩
   ·have z':=(if_neg hb).symm.trans z
    cases z'
  ·by_cases hb:b=a
   ·exact hb
   ·exact absurd (if_neg hb) z
theorem Jwm {l:W.OpenLaw}{n k:Nat}{q:ZG}{loose:List Str}{XP:(Str->Option Zg)->Zak->Prop}{YP:ZX->Zak->Prop}{d:DefRec}{K:Params->W.Frag}{CX:ZX->CXT}{sp:ZX->Sp}{x:Str}
  (hn:l.most=Za n)(hn2:n<=sizeLine)(hdf:d.params.defaults=[])(hr:Room k Zeo)
  (hY:∀(w:ZX)(h:Zak),YP w h->(K w.params).In h)
  (F:∀(w:ZX)(mg:Str->Option Zg)(fa:Zi)(h:Zak),(K w.params).In h->h.Ns Zp mg->mg d.name=Za (.ref fa) ->
   ∃fd:Zax,(∀(s:Zj)(u:Zg),Zck s fd ⟨[u],[]⟩ [(x,u)]) /\
    ∀base:Zak,(K w.params).In base->base.Ns Zp mg->FnOk l.prog w (K w.params) mg base (CX w) k fa fd [x] (sp w))
  (hsp:∀(w:ZX)(H:Hp)(a:Zi)(ns:List Int),ns.length<=n->Only H->SqL (K w.params) H a (ns.map V.int)->sp w [.ref a] H (λ v _=>v=.bl Zh) λ _ _ _=>False)
  (hCX:∀(w:ZX)(H:Hp)(s:Zj)(e:Zg)(s':Zj),CX w [] H s (λ _ _ _=>False) e s'->False) :
  W.WalkO q loose XP YP l.row.toRowW d [] (λ f vs=>PySem.call f vs):=by
 refine Att.attach_call hn hdf λ w s₀ s₁ mg mb fa o pm cd doc a vs ns G Y ho hd hcd hmg hobj hints hlen hg=>?_
 have KX:=hY w _ Y
 obtain⟨fd,hb,hF⟩:=F w mg fa _ KX G.T.g hmg
 exact Jr3 KX G.T.g G.T.b G.T.builtins G.T.nolimit hg hobj hints (Zau hlen hn2) hr hF hb (λ H hO hS=>hsp w H a ns hlen hO hS) λ H e s'=>hCX w H s₁ e s'
noncomputable def YS (s:Zbu)(j:Nat):Zbu:=match s with
 | .ClassDef _ _ _ body _ _ _ _ _ _ _=>body.getD j (.Pass ⟨0,0,0,0⟩)
 | _=>.Pass ⟨0,0,0,0⟩
def QR (s:Zbu):Arguments:=match s with
 | .FunctionDef _ a _ _ _ _ _ _ _ _=>a
 | _=>{ posonlyargs:=[],args:=[],vararg:=Ze,kwonlyargs:=[],kw_defaults:=[],kwarg:=Ze,defaults:=[] }
def Qc (s:Zbu):List Zbu:=match s with
 | .FunctionDef _ _ b _ _ _ _ _ _ _=>b
 | _=>[]
def Jx (s:Zbu):Zbw:=match s with
 | .FunctionDef _ _ _ _ _ _ sc _ _ _=>sc
 | _=>{ kind:=.function,names:=[],isGenerator:=Zc,isCoroutine:=Zc }
abbrev CX0:CXT:=λ _ _ _ _ _ _=>False
structure Fun (K:W.Frag)(x qual:Str)(st:Zbu)(f:Zi)(fd:Zax):Prop where
 ex:∃(oc:Zg)(od:Option Zi)(kV doc pm:Zg)(an:Option Zi)(cdv ct:Zg)(osl:Array (Option Zg)),
  fd=W.fnOf x qual (QR st) (Qc st) (Jx st) .none kV doc pm an cdv ct/\K.lookup f=Za ⟨oc,od,.func fd,osl⟩/\W.codeIn K cdv qual=Zh
 kp:W.keepIn K (.ref f)=Zh
section
variable {P:ZG}{w:ZX}{K:W.Frag}{mg:Str->Option Zg}{base:Zak}
theorem Fun.ok {x qual:Str}{st:Zbu}{f:Zi}{fd:Zax}{N ps:List Str}{k:Nat}{sp:Sp}(F:Fun K x qual st f fd)(S:FnScope N ps (Jx st))(len:∀vs H Q E,sp vs H Q E->vs.length=ps.length)
  (hbody:∀(cdv:Zg)(A:ZO)(outer:List Env)(s:Zj)(H:Hp)(vs:List V)(Q:VK)(E:XK),Room k (A.deeper (Zc9 qual (Jx st) s.heap.objs.size f cdv))->sp vs H Q E ->
   ∃t,PSs (cxOf CX0 P w K mg base N qual (Jx st) f cdv A outer s H E).nox (Qc st) t/\t { nx:=λ _ H'=>Q .non H',rt:=Q } (start N vs) H):FnOk P w K mg base CX0 (k+1) f fd ps sp:=by
 obtain⟨oc,od,kV,doc,pm,an,cdv,ct,osl,rfl,lk,hcd⟩:=F.ex
 refine Jxg lk hcd S len λ A outer s H vs Q E hr hsp=>?_
 obtain⟨t,h,q⟩:=hbody cdv A outer s H vs Q E hr hsp
 exact⟨t,h.nox,q⟩
theorem Fun.binds {x qual:Str}{st:Zbu}{f:Zi}{fd:Zax}{ps:List Str}(F:Fun K x qual st f fd)
  (h:∀(kV doc pm:Zg)(an:Option Zi)(cdv ct:Zg)(us:List Zg),us.length=ps.length->bindArgs (W.fnOf x qual (QR st) (Qc st) (Jx st) .none kV doc pm an cdv ct) ⟨us,[]⟩=pure (ps.zip us)):Q2 K fd ps []:=by
 obtain⟨oc,od,kV,doc,pm,an,cdv,ct,osl,rfl,lk,hcd⟩:=F.ex
 exact .all (h kV doc pm an cdv ct)
end
section
variable {X:Cx}
end
def Same (H H':Hp):Prop:=∀b o,H b=Za o->H' b=Za o
theorem Same.refl (H:Hp):Same H H:=λ _ _ h=>h
theorem Same.trans {H H1 H2:Hp}(a:Same H H1)(b:Same H1 H2):Same H H2:=λ c o h=>b c o (a c o h)
theorem Same.free {H H':Hp}(e:Same H H'){l:Zi}(h:H' l=Option.none):H l=Option.none:=by
 cases q:H l with
 | none=>rfl
 | some o =>
  rw[e l o q] at h
  cases h
theorem Same.seq {K:W.Frag}{H H':Hp}{a:Zi}{xs:List V}(e:Same H H')(h:SqL K H a xs):SqL K H' a xs:=by
 rcases h with(h|⟨o,h⟩)|h
 ·exact .inl (.inl (e _ _ h))
 ·exact .inl (.inr ⟨o,e _ _ h⟩)
 ·exact .inr h
end L2
set_option maxHeartbeats 4000000
namespace L3
open PySem PySem.Spec PyProof.Rows L2
inductive IV where
 | non|bl (b:Bool)|int (i:Int)|str (x:Str)|tup (xs:List IV)|rol (xs:List IV)|ref (i:Nat)
inductive IX where
 | lst (xs:List IV)
 | ins (c:Str) (fs:List (Str×IV))
 | dct (kvs:List (Key×IV))
 | exc (c:Str) (fs:List (Str×IV))
 | tab (q:Str)
 | hld (c:Str) (fs:List (Str×IV))
abbrev IH:=List IX
abbrev ISt:=List (Option IV)
inductive Res (α:Type) where
 | ok (a:α) (h:IH)|exc (n:Nat) (h:IH)|stuck
noncomputable def Res.bind {α β:Type}:Res α->(α->IH->Res β)->Res β
 | .ok a h,f=>f a h
 | .exc n h,_=>.exc n h
 | .stuck,_=>.stuck
inductive SRes where
 | next (σ:ISt) (h:IH)|ret (v:IV) (h:IH)|brk (σ:ISt) (h:IH)|cont (σ:ISt) (h:IH)|exc (n:Nat) (σ:ISt) (h:IH)|stuck
def SqR (K:W.Frag)(H:Hp)(a:Zi)(xs:List V):Prop :=
 (∃o,H a=Za (.frz o (.lst xs))) ∨
  ∃(o:Obj) (its:Array Zg) (n:Nat),K.lookup a=Za o/\o.cls=.type "list"/\o.dict=Ze/\o.data=.seq its n/\its.size<=sizeLine/\Vals xs its.toList
theorem SqR.sq {K:W.Frag}{H:Hp}{a:Zi}{xs:List V}(h:SqR K H a xs):SqL K H a xs:=by
 rcases h with⟨o,h⟩|h
 ·exact .inl (.inr ⟨o,h⟩)
 ·exact .inr h
mutual
def RV (K:W.Frag)(ι:List Zi)(H:Hp):IV->V->Prop
 | .non,v=>v=.non
 | .bl b,v=>v=.bl b
 | .int i,v=>v=.int i
 | .str x,v=>v=.str x
 | .tup xs,v=>∃a vs,v=.ref a/\SqT K H a vs/\RVs K ι H xs vs
 | .rol xs,v=>∃a vs,v=.ref a/\SqR K H a vs/\RVs K ι H xs vs
 | .ref i,v=>∃a,v=.ref a/\ι[i]?=Za a
def RVs (K:W.Frag)(ι:List Zi)(H:Hp):List IV->List V->Prop
 | [],vs=>vs=[]
 | x::xs,vs=>∃v r,vs=v::r/\RV K ι H x v/\RVs K ι H xs r
end
structure Ext (H H':Hp):Prop where
 tups:∀b xs,H b=Za (.tup xs)->H' b=Za (.tup xs)
 frzs:∀b o u,H b=Za (.frz o u)->H' b=Za (.frz o u)
structure Nxt (ι:List Zi)(H:Hp)(ι':List Zi)(H':Hp):Prop where
 pre:∃m,ι'=ι++m
 ext:Ext H H'
theorem Nxt.refl {ι:List Zi}{H:Hp}:Nxt ι H ι H:=⟨⟨[],by simp⟩,⟨λ _ _ h=>h,λ _ _ _ h=>h⟩⟩
theorem Nxt.trans {ι ι1 ι2:List Zi}{H H1 H2:Hp}(a:Nxt ι H ι1 H1)(b:Nxt ι1 H1 ι2 H2):Nxt ι H ι2 H2:=by
 obtain⟨⟨m,e⟩,x⟩:=a
 obtain⟨⟨m',e'⟩,y⟩:=b
 exact⟨⟨m++m',by rw[e',e,Zaa]⟩,⟨λ b xs h=>y.tups b xs (x.tups b xs h),λ b o u h=>y.frzs b o u (x.frzs b o u h)⟩⟩
theorem Nxt.at {ι ι':List Zi}{H H':Hp}(n:Nxt ι H ι' H'){i:Nat}{a:Zi}(h:ι[i]?=Za a):ι'[i]?=Za a:=by
 obtain⟨⟨m,e⟩,_⟩:=n
 subst e
 rw[ZF (ZB.mp h).1]
 exact h
theorem Ext.rd {H H':Hp}(x:Ext H H'){a:Zi}{xs:List V}(h:Rd H a (.tup xs)):Rd H' a (.tup xs):=by
 rcases h with h|⟨o,h⟩
 ·exact .inl (x.tups _ _ h)
 ·exact .inr ⟨o,x.frzs _ _ _ h⟩
theorem Ext.sqT {K:W.Frag}{H H':Hp}(x:Ext H H'){a:Zi}{xs:List V}(h:SqT K H a xs):SqT K H' a xs:=by
 rcases h with h|h
 ·exact .inl (x.rd h)
 ·exact .inr h
theorem Ext.sqR {K:W.Frag}{H H':Hp}(x:Ext H H'){a:Zi}{xs:List V}(h:SqR K H a xs):SqR K H' a xs:=by
 rcases h with⟨o,h⟩|h
 ·exact .inl ⟨o,x.frzs _ _ _ h⟩
 ·exact .inr h
mutual
theorem RV.mono {K:W.Frag}{ι ι':List Zi}{H H':Hp}(n:Nxt ι H ι' H'):∀(x:IV)(v:V),RV K ι H x v->RV K ι' H' x v
 | .non,_,h=>h
 | .bl _,_,h=>h
 | .int _,_,h=>h
 | .str _,_,h=>h
 | .tup xs,_,h=>by
  obtain⟨a,vs,e,q,r⟩:=h
  exact⟨a,vs,e,n.ext.sqT q,RVs.mono n xs vs r⟩
 | .rol xs,_,h=>by
  obtain⟨a,vs,e,q,r⟩:=h
  exact⟨a,vs,e,n.ext.sqR q,RVs.mono n xs vs r⟩
 | .ref i,_,h=>by
  obtain⟨a,e,q⟩:=h
  exact⟨a,e,n.at q⟩
theorem RVs.mono {K:W.Frag}{ι ι':List Zi}{H H':Hp}(n:Nxt ι H ι' H'):∀(xs:List IV)(vs:List V),RVs K ι H xs vs->RVs K ι' H' xs vs
 | [],_,h=>h
 | x::xs,_,h=>by
  obtain⟨v,r,e,q,t⟩:=h
  exact⟨v,r,e,RV.mono n x v q,RVs.mono n xs r t⟩
end
theorem RVs.length {K:W.Frag}{ι:List Zi}{H:Hp}:∀{xs:List IV}{vs:List V},RVs K ι H xs vs->vs.length=xs.length
 | [],_,h=>by
  have e:_=[]:=h
  subst e
  rfl
 | x::xs,_,h=>by
  obtain⟨v,r,e,_,t⟩:=h
  subst e
  simp[RVs.length t]
theorem RVs.get {K:W.Frag}{ι:List Zi}{H:Hp}:∀{xs:List IV}{vs:List V}{i:Nat}{x:IV},RVs K ι H xs vs->xs[i]?=Za x->∃v,vs[i]?=Za v/\RV K ι H x v
 | [],_,_,_,_,e=>by simp at e
 | x::xs,_,0,y,h,e=>by
  obtain⟨v,r,e1,q,t⟩:=h
  subst e1
  simp at e
  subst e
  exact⟨v,rfl,q⟩
 | x::xs,_,i+1,y,h,e=>by
  obtain⟨v,r,e1,q,t⟩:=h
  subst e1
  obtain⟨u,h1,h2⟩:=RVs.get (i:=i) (x:=y) t (by simpa using e)
  exact⟨u,by simpa using h1,h2⟩
theorem RVs.append {K:W.Frag}{ι:List Zi}{H:Hp}:∀{xs ys:List IV}{vs us:List V},RVs K ι H xs vs->RVs K ι H ys us->RVs K ι H (xs++ys) (vs++us)
 | [],_,_,_,h,g=>by
  have e:_=[]:=h
  subst e
  exact g
 | x::xs,_,_,_,h,g=>by
  obtain⟨v,r,e,q,t⟩:=h
  subst e
  exact⟨v,_,rfl,q,RVs.append t g⟩
theorem RVs.take {K:W.Frag}{ι:List Zi}{H:Hp}:∀{xs:List IV}{vs:List V}(n:Nat),RVs K ι H xs vs->RVs K ι H (xs.take n) (vs.take n)
 | _,_,0,_=>by simp;exact rfl
 | [],_,n+1,h=>by
  have e:_=[]:=h
  subst e
  exact rfl
 | x::xs,_,n+1,h=>by
  obtain⟨v,r,e,q,t⟩:=h
  subst e
  exact⟨v,r.take n,rfl,q,RVs.take n t⟩
theorem RVs.drop {K:W.Frag}{ι:List Zi}{H:Hp}:∀{xs:List IV}{vs:List V}(n:Nat),RVs K ι H xs vs->RVs K ι H (xs.drop n) (vs.drop n)
 | _,_,0,h=>h
 | [],_,n+1,h=>by
  have e:_=[]:=h
  subst e
  exact rfl
 | x::xs,_,n+1,h=>by
  obtain⟨v,r,e,q,t⟩:=h
  subst e
  exact RVs.drop n t
theorem RVs.set {K:W.Frag}{ι:List Zi}{H:Hp}{x:IV}{v:V}(q:RV K ι H x v):∀{xs:List IV}{vs:List V}(i:Nat),RVs K ι H xs vs->RVs K ι H (xs.set i x) (vs.set i v)
 | [],_,_,h=>by
  have e:_=[]:=h
  subst e
  exact rfl
 | y::xs,_,0,h=>by
  obtain⟨u,r,e,_,t⟩:=h
  subst e
  exact⟨v,r,rfl,q,t⟩
 | y::xs,_,i+1,h=>by
  obtain⟨u,r,e,p,t⟩:=h
  subst e
  exact⟨u,r.set i v,rfl,p,RVs.set q i t⟩
theorem RVs.one {K:W.Frag}{ι:List Zi}{H:Hp}{x:IV}{v:V}(q:RV K ι H x v):RVs K ι H [x] [v]:=⟨v,[],rfl,q,rfl⟩
theorem RVs.ints {K:W.Frag}{ι:List Zi}{H:Hp}:∀(ns:List Int),RVs K ι H (ns.map IV.int) (ns.map V.int)
 | []=>rfl
 | _::ns=>⟨_,_,rfl,rfl,RVs.ints ns⟩
def RPs {κ:Type}(K:W.Frag)(ι:List Zi)(H:Hp):List (κ×IV)->List (κ×V)->Prop
 | [],vs=>vs=[]
 | x::xs,vs=>∃v r,vs=(x.1,v)::r/\RV K ι H x.2 v/\RPs K ι H xs r
theorem RPs.mono {κ:Type}{K:W.Frag}{ι ι':List Zi}{H H':Hp}(n:Nxt ι H ι' H'):∀(xs:List (κ×IV))(vs:List (κ×V)),RPs K ι H xs vs->RPs K ι' H' xs vs
 | [],_,h=>h
 | x::xs,_,h=>by
  obtain⟨v,r,e,q,t⟩:=h
  exact⟨v,r,e,RV.mono n _ v q,RPs.mono n xs r t⟩
theorem RPs.length {κ:Type}{K:W.Frag}{ι:List Zi}{H:Hp}:∀{xs:List (κ×IV)}{vs:List (κ×V)},RPs K ι H xs vs->vs.length=xs.length
 | [],_,h=>by
  have e:_=[]:=h
  subst e
  rfl
 | x::xs,_,h=>by
  obtain⟨v,r,e,_,t⟩:=h
  subst e
  simp[RPs.length t]
theorem RPs.lookup {κ:Type}[BEq κ]{K:W.Frag}{ι:List Zi}{H:Hp}{f:κ}:∀{xs:List (κ×IV)}{vs:List (κ×V)},RPs K ι H xs vs ->
  (∀x,xs.lookup f=Za x->∃v,vs.lookup f=Za v/\RV K ι H x v)/\(xs.lookup f=Ze->vs.lookup f=Ze)
 | [],_,h=>by
  have e:_=[]:=h
  subst e
  exact⟨λ x e=>by simp at e,λ _=>rfl⟩
 | (k,x)::xs,_,h=>by
  obtain⟨v,r,e,q,t⟩:=h
  subst e
  have ih:=RPs.lookup (f:=f) t
  simp only[Zai]
  cases hb:f==k with
  | true=>exact⟨λ y e=>by cases e;exact⟨v,rfl,q⟩,λ e=>by cases e⟩
  | false=>exact ih
def Jit (H:Hp)(q:Str)(cv:Zg):Prop:=∃c oc vs t,cv=.ref c/\H c=Za (.frz oc (.own 0))/\oc.data=.fields vs/\vs[1]?=Za (.str (q++".<locals>."++"<lambda>") t)
def TabO (K:W.Frag)(H:Hp)(q:Str)(a:Zi):Prop:=(∀cdv,W.codeIn K cdv q=Zh->∃c,cdv=.ref c/\W.codeHdIn K c a=Zh) /\
 ∃ps,H a=Za (.tbl ps)/\TriplesOk ps.toList/\∀pos cv,codeAmong pos ps.toList=Za cv->Jit H q cv
theorem TabO.mono {K:W.Frag}{H H':Hp}{q:Str}{a:Zi}(fz:∀b o u,H b=Za (.frz o u)->H' b=Za (.frz o u))(k:∀u,H a=Za u->H' a=Za u)(h:TabO K H q a):TabO K H' q a:=by
 obtain⟨h1,ps,e,ht,hc⟩:=h
 refine⟨h1,ps,k _ e,ht,λ pos cv q=>?_⟩
 obtain⟨c,oc,vs,t,e1,e2,r⟩:=hc pos cv q
 exact⟨c,oc,vs,t,e1,fz _ _ _ e2,r⟩
def ExF (a C:Zi)(tv:Zg)(d:Option Zi):HO:=.ext λ h=>∃oe vs,h.get? a=Za oe/\oe.cls=.ref C/\oe.data=.fields vs/\vs[1]?=Za tv/\vs[2]?=Za .none/\oe.dict=d
def XV (ι:List Zi):IV->Zg->Prop
 | .int i,u=>∃t,u=.int i t
 | .ref j,u=>∃b,u=.ref b/\ι[j]?=Za b
 | _,_=>False
def XdOk (ι:List Zi)(H:Hp)(d:Option Zi)(fs:List (Str×IV)):Prop:=(fs=[]/\d=Ze)∨∃f v dx od u,fs=[(f,v)]/\d=Za dx/\H dx=Za (.frz od (.own 0))/\W.lookIn f od=Za (Za u)/\XV ι v u
theorem XdOk.mono {ι:List Zi}{H H':Hp}{d:Option Zi}{fs:List (Str×IV)}(fz:∀b o u,H b=Za (.frz o u)->H' b=Za (.frz o u))(h:XdOk ι H d fs):XdOk ι H' d fs:=by
 rcases h with h|⟨f,i,dx,od,t,e,q,r,z⟩
 ·exact .inl h
 ·exact .inr ⟨f,i,dx,od,t,e,q,fz _ _ _ r,z⟩
theorem XdOk.nxt {ι ι':List Zi}{H H':Hp}{d:Option Zi}{fs:List (Str×IV)}(n:Nxt ι H ι' H')(h:XdOk ι H d fs):XdOk ι' H' d fs:=by
 rcases h with h|⟨f,v,dx,od,t,e,q,r,z,x⟩
 ·exact .inl h
 ·refine .inr ⟨f,v,dx,od,t,e,q,n.ext.frzs _ _ _ r,z,?_⟩
  cases v with
  | ref j =>
   obtain⟨b,e,q⟩:=x
   obtain⟨⟨m,rfl⟩,_⟩:=n
   exact⟨b,e,by rw[ZF (ZB.mp q).1];exact q⟩
  | _=>exact x
def TvOk (H:Hp)(tv:Zg):Prop:=tv=.none∨∃T oT ts,tv=.ref T/\H T=Za (.frz oT (.own 0))/\oT.data=.fields ts/\ts[3]?=Za .none
theorem TvOk.mono {H H':Hp}{tv:Zg}(fz:∀b o u,H b=Za (.frz o u)->H' b=Za (.frz o u))(h:TvOk H tv):TvOk H' tv:=by
 rcases h with h|⟨T,oT,ts,e,q,r⟩
 ·exact .inl h
 ·exact .inr ⟨T,oT,ts,e,fz _ _ _ q,r⟩
def RO (ce:CeT)(K:W.Frag)(ι:List Zi)(H:Hp)(a:Zi):IX->Prop
 | .lst xs=>∃vs,H a=Za (.lst vs)/\RVs K ι H xs vs
 | .ins c fs=>∃C dx vs,ce c=Za C/\H a=Za (.ins C dx vs)/\RPs K ι H fs vs
 | .dct kvs=>∃vs,H a=Za (.dK vs)/\RPs K ι H kvs vs
 | .exc c fs=>∃C tv d,XdOk ι H d fs/\W.nsIn K Zp c=Za (Za (.ref C))/\H a=Za (ExF a C tv d)/\TvOk H tv
 | .tab q=>TabO K H q a
 | .hld c fs=>∃C oe u vs,XdOk ι H oe.dict fs/\W.nsIn K Zp c=Za (Za (.ref C))/\H a=Za (.frz oe u)/\oe.cls=.ref C/\oe.data=.fields vs/\vs[2]?=Za .none
theorem RO.some {ce:CeT}{K:W.Frag}{ι:List Zi}{H:Hp}{a:Zi}{o:IX}(h:RO ce K ι H a o):∃u,H a=Za u:=by
 cases o with
 | lst xs=>obtain⟨vs,e,_⟩:=h;exact⟨_,e⟩
 | ins c fs=>obtain⟨_,_,vs,_,e,_⟩:=h;exact⟨_,e⟩
 | dct kvs=>obtain⟨vs,e,_⟩:=h;exact⟨_,e⟩
 | exc c fs=>obtain⟨C,tv,d,_,_,e,_⟩:=h;exact⟨_,e⟩
 | tab q=>obtain⟨_,ps,e,_⟩:=h;exact⟨_,e⟩
 | hld c fs=>obtain⟨_,_,_,_,_,_,e,_⟩:=h;exact⟨_,e⟩
theorem RO.mono {ce:CeT}{K:W.Frag}{ι ι':List Zi}{H H':Hp}{a:Zi}{o:IX}(n:Nxt ι H ι' H')(k:∀u,H a=Za u->H' a=Za u)(h:RO ce K ι H a o):RO ce K ι' H' a o:=by
 cases o with
 | lst xs=>obtain⟨vs,e,r⟩:=h;exact⟨vs,k _ e,RVs.mono n _ _ r⟩
 | ins c fs=>obtain⟨C,dx,vs,c1,e,r⟩:=h;exact⟨C,dx,vs,c1,k _ e,RPs.mono n _ _ r⟩
 | dct kvs=>obtain⟨vs,e,r⟩:=h;exact⟨vs,k _ e,RPs.mono n _ _ r⟩
 | exc c fs=>obtain⟨C,tv,d,e0,c1,e,r⟩:=h;exact⟨C,tv,d,e0.nxt n,c1,k _ e,r.mono n.ext.frzs⟩
 | tab q=>exact TabO.mono n.ext.frzs k h
 | hld c fs=>obtain⟨C,oe,u,vs,e0,c1,e,r⟩:=h;exact⟨C,oe,u,vs,e0.nxt n,c1,k _ e,r⟩
structure Rel (ce:CeT)(K:W.Frag)(ι:List Zi)(h:IH)(H:Hp):Prop where
 len:ι.length=h.length
 nd:ι.Nodup
 at_:∀(i:Nat)(o:IX),h[i]?=Za o->∃a,ι[i]?=Za a/\RO ce K ι H a o
section
variable {ce:CeT}{K:W.Frag}{ι:List Zi}{h:IH}{H:Hp}
theorem Rel.some (R:Rel ce K ι h H){i:Nat}{a:Zi}(e:ι[i]?=Za a):∃u,H a=Za u:=by
 have hi:i<h.length:=by rw[<- R.len];exact(ZB.mp e).1
 obtain⟨b,e',r⟩:=R.at_ i _ (Zn hi)
 rw[e] at e'
 cases e'
 exact r.some
theorem Rel.notin (R:Rel ce K ι h H){l:Zi}(e:H l=Ze):l∉ι:=λ hl=>by
 obtain⟨i,hi,q⟩:=ZaB.mp hl
 obtain⟨u,hu⟩:=R.some (i:=i) (a:=l) (by rw[Zn hi,q])
 rw[e] at hu
 cases hu
theorem Ext.upd_new {l:Zi}{o:HO}(e:H l=Ze):Ext H (upd H l o) :=
 ⟨λ b xs q=>by rw[Jo (Vq q e)];exact q,λ b o u q=>by rw[Jo (Vq q e)];exact q⟩
theorem Rel.grow {l:Zi}{o:HO}(R:Rel ce K ι h H)(e:H l=Ze):Rel ce K ι h (upd H l o)/\Nxt ι H ι (upd H l o):=by
 have n:Nxt ι H ι (upd H l o):=⟨⟨[],by simp⟩,Ext.upd_new e⟩
 refine⟨⟨R.len,R.nd,λ i u q=>?_⟩,n⟩
 obtain⟨a,e1,r⟩:=R.at_ i u q
 exact⟨a,e1,r.mono n λ w hw=>by rw[Jo (Vq hw e)];exact hw⟩
theorem Rel.alloc {l:Zi}{o:HO}{io:IX}(R:Rel ce K ι h H)(e:H l=Ze)(r:RO ce K (ι++[l]) (upd H l o) l io):Rel ce K (ι++[l]) (h++[io]) (upd H l o)/\Nxt ι H (ι++[l]) (upd H l o):=by
 have n:Nxt ι H (ι++[l]) (upd H l o):=⟨⟨[l],rfl⟩,Ext.upd_new e⟩
 refine⟨⟨by simp[R.len],?_,λ i u q=>?_⟩,n⟩
 ·rw[List.nodup_append]
  refine⟨R.nd,by simp,λ a ha b hb=>?_⟩
  have:b=l:=by simpa using hb
  subst this
  rintro rfl
  exact R.notin e ha
 ·by_cases hi:i<h.length
  ·rw[ZF hi] at q
   obtain⟨a,e1,r1⟩:=R.at_ i u q
   exact⟨a,n.at e1,r1.mono n λ w hw=>by rw[Jo (Vq hw e)];exact hw⟩
  ·have hi2:i=h.length:=by
    have:=(ZB.mp q).1
    simp at this
    omega
   subst hi2
   rw[ZI (Zu _)] at q
   simp at q
   subst q
   refine⟨l,?_,r⟩
   rw[<- R.len,ZI (Zu _)]
   simp
theorem Rel.inj (R:Rel ce K ι h H){i j:Nat}{a:Zi}(e1:ι[i]?=Za a)(e2:ι[j]?=Za a):i=j:=by
 obtain⟨h1,q1⟩:=ZB.mp e1
 obtain⟨h2,q2⟩:=ZB.mp e2
 exact(Zd6 R.nd).mp (q1.trans q2.symm)
theorem Ext.upd_mut {l:Zi}{o u:HO}(e:H l=Za u)(m:Mut (H l)):Ext H (upd H l o):=by
 refine⟨λ b xs q=>?_,λ b ob w q=>?_⟩
 ·by_cases hb:b=l
  ·subst hb
   rw[q] at m
   exact Zf m
  ·rw[Jo hb];exact q
 ·by_cases hb:b=l
  ·subst hb
   rw[q] at m
   exact Zf m
  ·rw[Jo hb];exact q
theorem Rel.write {i:Nat}{a:Zi}{o u:HO}{io:IX}(R:Rel ce K ι h H)(e:ι[i]?=Za a)(ha:H a=Za u)(m:Mut (H a))(r:RO ce K ι (upd H a o) a io):Rel ce K ι (h.set i io) (upd H a o)/\Nxt ι H ι (upd H a o):=by
 have n:Nxt ι H ι (upd H a o):=⟨⟨[],by simp⟩,Ext.upd_mut ha m⟩
 refine⟨⟨by simp[R.len],R.nd,λ j w q=>?_⟩,n⟩
 by_cases hj:j=i
 ·subst hj
  have hl:j<h.length:=by
   have:=(ZB.mp q).1
   simpa using this
  rw[Z1 hl] at q
  cases q
  exact⟨a,e,r⟩
 ·rw[ZP (Zao hj)] at q
  obtain⟨b,e1,r1⟩:=R.at_ j w q
  refine⟨b,e1,r1.mono n λ v hv=>?_⟩
  have:b≠a:=by
   rintro rfl
   exact hj (R.inj e1 e)
  rw[Jo this]
  exact hv
end
structure RSt (K:W.Frag)(ι:List Zi)(H:Hp)(σi:ISt)(σ:L2.St):Prop where
 len:σi.length=σ.length
 at_:∀(j:Nat)(v:IV),σi[j]?=Za (Za v)->∃u,σ[j]?=Za (Za u)/\RV K ι H v u
theorem RSt.mono {K:W.Frag}{ι ι':List Zi}{H H':Hp}{σi:ISt}{σ:L2.St}(n:Nxt ι H ι' H')(r:RSt K ι H σi σ):RSt K ι' H' σi σ :=
 ⟨r.len,λ j v e=>let ⟨u,e1,q⟩:=r.at_ j v e;⟨u,e1,RV.mono n _ _ q⟩⟩
theorem RSt.set {K:W.Frag}{ι:List Zi}{H:Hp}{σi:ISt}{σ:L2.St}(r:RSt K ι H σi σ)(i:Nat){x:IV}{v:V}(q:RV K ι H x v):RSt K ι H (σi.set i (Za x)) (σ.set i (Za v)):=by
 refine⟨by simp[r.len],λ j w e=>?_⟩
 by_cases hj:j=i
 ·subst hj
  have hl:j<σi.length:=by
   have:=(ZB.mp e).1
   simpa using this
  rw[Z1 hl] at e
  cases e
  exact⟨v,by rw[Z1 (by rw[<- r.len];exact hl)],q⟩
 ·rw[ZP (Zao hj)] at e
  obtain⟨u,e1,q1⟩:=r.at_ j w e
  exact⟨u,by rw[ZP (Zao hj)];exact e1,q1⟩
structure Now (ce:CeT)(X:Cx)(pj:PnT)(ι:List Zi)(σi:ISt)(h:IH)(σ:L2.St)(H:Hp)(s:Zj):Prop where
 inv:Inv X pj σ H s
 rel:Rel ce X.K ι h H
 st:RSt X.K ι H σi σ
def RU (K:W.Frag)(ι:List Zi)(H:Hp)(v:IV)(u:Zg):Prop:=∃x,RelV x u/\RV K ι H v x
theorem RU.mono {K:W.Frag}{ι ι':List Zi}{H H':Hp}{v:IV}{u:Zg}(n:Nxt ι H ι' H')(r:RU K ι H v u):RU K ι' H' v u :=
 let ⟨x,a,b⟩:=r;⟨x,a,RV.mono n _ _ b⟩
def RUs (K:W.Frag)(ι:List Zi)(H:Hp)(vs:List IV)(us:List Zg):Prop:=∃xs,Vals xs us/\RVs K ι H vs xs
theorem RUs.mono {K:W.Frag}{ι ι':List Zi}{H H':Hp}{v:List IV}{u:List Zg}(n:Nxt ι H ι' H')(r:RUs K ι H v u):RUs K ι' H' v u :=
 let ⟨x,a,b⟩:=r;⟨x,a,RVs.mono n _ _ b⟩
abbrev REL (α β:Type):=W.Frag->List Zi->Hp->α->β->Prop
def RB:REL Bool Bool:=λ _ _ _ b c=>c=b
section
variable {α β γ δ:Type}
def Kont (ce:CeT)(X:Cx)(R:REL α β)(pj:PnT)(ι:List Zi)(σi:ISt)(σ:L2.St)(H:Hp)(r:Res α)(Q:β->Zj->Prop)(E:QvT):Prop :=
 match r with
 | .ok v h'=>∀u s' H' ι',Now ce X pj ι' σi h' σ H' s'->Nxt ι H ι' H'->R X.K ι' H' v u->Q u s'
 | .exc n h'=>∀pl a s' H' ι',Now ce X (pj++pl) ι' σi h' σ H' s'->Nxt ι H ι' H'->ι'[n]?=Za a->E (.ref a) s'
 | .stuck=>False
variable {ce:CeT}{X:Cx}{R:REL α β}{R':REL γ δ}{pj:PnT}{ι ι':List Zi}{σi:ISt}{σ:L2.St}{H H':Hp}
theorem Kont.mono {r:Res α}{Q:β->Zj->Prop}{E:QvT}(k:Kont ce X R pj ι σi σ H r Q E)(n:Nxt ι H ι' H'):Kont ce X R pj ι' σi σ H' r Q E:=by
 cases r with
 | ok v h'=>exact λ u s' H2 ι2 N n2 q=>k u s' H2 ι2 N (n.trans n2) q
 | exc m h'=>exact λ pl a s' H2 ι2 N n2 q=>k pl a s' H2 ι2 N (n.trans n2) q
 | stuck=>exact k
def PX (ce:CeT)(X:Cx)(R:REL α β)(t:Sem β)(m:ISt->IH->Res α):Prop :=
 ∀(pj:PnT)(s:Zj)(σ:L2.St)(H:Hp)(ι:List Zi)(σi:ISt)(h:IH)(Q:β->Zj->Prop)(E:QvT),Now ce X pj ι σi h σ H s->Kont ce X R pj ι σi σ H (m σi h) Q E ->
  Zz (ZE X.prog X.w) X.A t Q E s
theorem PX.run {t:Sem β}{m:ISt->IH->Res α}(p:PX ce X R t m){s:Zj}{h:IH}(N:Now ce X pj ι σi h σ H s){g:α->IH->Res γ}{Q:δ->Zj->Prop}{E:QvT}{Q1:β->Zj->Prop}
  (K:Kont ce X R' pj ι σi σ H ((m σi h).bind g) Q E)
  (step:∀x h1 u s1 H1 ι1,Now ce X pj ι1 σi h1 σ H1 s1->Nxt ι H ι1 H1->R X.K ι1 H1 x u->Kont ce X R' pj ι1 σi σ H1 (g x h1) Q E->Q1 u s1):Zz (ZE X.prog X.w) X.A t Q1 E s:=by
 refine p pj s σ H ι σi h Q1 E N ?_
 cases e:m σi h with
 | ok v h' =>
  rw[e] at K
  exact λ u s' H' ι' N' n' r=>step v h' u s' H' ι' N' n' r (Kont.mono (r:=g v h') K n')
 | exc n h' =>
  rw[e] at K
  exact K
 | stuck =>
  rw[e] at K
  exact K
end
abbrev PEi (ce:CeT)(X:Cx)(e:Expr)(m:ISt->IH->Res IV):Prop:=PX ce X RU (ZaV e X.env) m
abbrev PTi (ce:CeT)(X:Cx)(e:Expr)(m:ISt->IH->Res Bool):Prop:=PX ce X RB (Zew e X.env (ZaV e X.env)) m
def PWi (ce:CeT)(X:Cx)(e:Expr)(m:ISt->IH->Res Bool):Prop:=∀whole:Sem Zg,PX ce X RB (Zew e X.env whole) m
def PAi (ce:CeT)(X:Cx)(es:List Expr)(m:ISt->IH->Res (List IV)):Prop:=∀pos:Pos,PX ce X RUs (spliced (Zba pos (ZN es X.env))) m
abbrev E1:=ISt->IH->Res IV
abbrev T1:=ISt->IH->Res Bool
abbrev A1:=ISt->IH->Res (List IV)
noncomputable def Jb (i:Nat):E1:=λ σ h=>match σ[i]? with|some (Za v)=>.ok v h|_=>.stuck
noncomputable def eC (v:IV):E1:=λ _ h=>.ok v h
def Jc (f:IV->IV->IH->Res IV)(a b:E1):E1:=λ σ h=>(a σ h).bind λ x h1=>(b σ h1).bind λ y h2=>f x y h2
def eUn (f:IV->IH->Res IV)(a:E1):E1:=λ σ h=>(a σ h).bind λ x h1=>f x h1
def eAnd (a b:E1)(tr:IV->IH->Res Bool):E1:=λ σ h=>(a σ h).bind λ x h1=>(tr x h1).bind λ c h2=>if c then b σ h2 else .ok x h2
def eOr (a b:E1)(tr:IV->IH->Res Bool):E1:=λ σ h=>(a σ h).bind λ x h1=>(tr x h1).bind λ c h2=>if c then .ok x h2 else b σ h2
def eIf (t:T1)(a b:E1):E1:=λ σ h=>(t σ h).bind λ c h1=>if c then a σ h1 else b σ h1
def Jsw (a b:T1):T1:=λ σ h=>(a σ h).bind λ c h1=>if c then b σ h1 else .ok Zc h1
def tOrI (a b:T1):T1:=λ σ h=>(a σ h).bind λ c h1=>if c then .ok Zh h1 else b σ h1
def JA (a:T1):T1:=λ σ h=>(a σ h).bind λ c h1=>.ok (!c) h1
def Jj (tr:IV->IH->Res Bool)(a:E1):T1:=λ σ h=>(a σ h).bind λ x h1=>tr x h1
noncomputable def Jd:A1:=λ _ h=>.ok [] h
def Ja (a:E1)(r:A1):A1:=λ σ h=>(a σ h).bind λ x h1=>(r σ h1).bind λ xs h2=>.ok (x::xs) h2
def Va (f g:IV->IV->IH->Res IV)(a b c:E1):E1:=λ σ h=>(a σ h).bind λ x h1=>(b σ h1).bind λ y h2=>(f x y h2).bind λ k h3 =>
 match k with
 | .bl Zh=>(c σ h3).bind λ z h4=>g y z h4
 | .bl Zc=>.ok (.bl Zc) h3
 | _=>.stuck
section
variable {ce:CeT}{X:Cx}{a b c:Expr}{ma mb mc:E1}{pos:Pos}
def OpI (ce:CeT)(X:Cx)(f:Zg->Zg->Sem Zg)(g:IV->IV->IH->Res IV):Prop :=
 ∀(pj:PnT)(s:Zj)(σ:L2.St)(H:Hp)(ι:List Zi)(σi:ISt)(h:IH)(x y:IV)(v u:Zg)(Q:QvT)(E:QvT),Now ce X pj ι σi h σ H s->RU X.K ι H x v->RU X.K ι H y u ->
  Kont ce X RU pj ι σi σ H (g x y h) Q E->Zz (ZE X.prog X.w) X.A (f v u) Q E s
def UnI (ce:CeT)(X:Cx)(f:Zg->Sem Zg)(g:IV->IH->Res IV):Prop :=
 ∀(pj:PnT)(s:Zj)(σ:L2.St)(H:Hp)(ι:List Zi)(σi:ISt)(h:IH)(x:IV)(v:Zg)(Q:QvT)(E:QvT),Now ce X pj ι σi h σ H s->RU X.K ι H x v ->
  Kont ce X RU pj ι σi σ H (g x h) Q E->Zz (ZE X.prog X.w) X.A (f v) Q E s
def TrI (ce:CeT)(X:Cx)(g:IV->IH->Res Bool):Prop :=
 ∀(pj:PnT)(s:Zj)(σ:L2.St)(H:Hp)(ι:List Zi)(σi:ISt)(h:IH)(x:IV)(v:Zg)(Q:Bool->Zj->Prop)(E:QvT),Now ce X pj ι σi h σ H s->RU X.K ι H x v ->
  Kont ce X RB pj ι σi σ H (g x h) Q E->Zz (ZE X.prog X.w) X.A (truthy v) Q E s
def QY (ce:CeT)(X:Cx)(f:Zg)(g:List IV->IH->Res IV):Prop :=
 ∀(pj:PnT)(s:Zj)(σ:L2.St)(H:Hp)(ι:List Zi)(σi:ISt)(h:IH)(xs:List IV)(us:List Zg)(Q:QvT)(E:QvT),Now ce X pj ι σi h σ H s->RUs X.K ι H xs us ->
  Kont ce X RU pj ι σi σ H (g xs h) Q E->Zz (ZE X.prog X.w) X.A (call f us) Q E s
theorem Yq {pj:PnT}{s:Zj}{σ:L2.St}{H:Hp}{Q:QvT}{E:QvT}{e:Expr}{t:TE}(p:PE (X.wish E) e t)(I:Inv X pj σ H s)
  (k:t σ H λ z H'=>∀u s',Inv X pj σ H' s'->RelV z u->Q u s'):Zz (ZE X.prog X.w) X.A (ZaV e X.env) Q E s :=
 Zan (p pj s σ H _ (I.wish E) k) (λ u s' ⟨_,_,I',r,q⟩=>q u s' I'.unwish r) λ _ _ z=>z
theorem Q4 {pj:PnT}{s:Zj}{σ:L2.St}{H:Hp}{Q:QvT}{E:QvT}{f:Zg->Zg->Sem Zg}{r:R2}{x y:V}{v u:Zg}(p:OpR (X.wish E) f r)(I:Inv X pj σ H s)(rx:RelV x v)(ry:RelV y u)
  (k:r x y H λ z H'=>∀u s',Inv X pj σ H' s'->RelV z u->Q u s'):Zz (ZE X.prog X.w) X.A (f v u) Q E s :=
 Zan (p pj s σ H x y v u _ (I.wish E) rx ry k) (λ u s' ⟨_,_,I',r,q⟩=>q u s' I'.unwish r) λ _ _ z=>z
theorem Jzx {pj:PnT}{s:Zj}{σ:L2.St}{H:Hp}{Q:QvT}{E:QvT}{f:Zg->Sem Zg}{r:V->Hp->VK->Prop}{x:V}{v:Zg}(p:UnR (X.wish E) f r)(I:Inv X pj σ H s)(rx:RelV x v)
  (k:r x H λ z H'=>∀u s',Inv X pj σ H' s'->RelV z u->Q u s'):Zz (ZE X.prog X.w) X.A (f v) Q E s :=
 Zan (p pj s σ H x v _ (I.wish E) rx k) (λ u s' ⟨_,_,I',r,q⟩=>q u s' I'.unwish r) λ _ _ z=>z
theorem Xo {pj:PnT}{s:Zj}{σ:L2.St}{H:Hp}{Q:Bool->Zj->Prop}{E:QvT}{r:V->Hp->(Bool->Hp->Prop)->Prop}{x:V}{v:Zg}(p:TruR (X.wish E) r)(I:Inv X pj σ H s)(rx:RelV x v)
  (k:r x H λ z H'=>∀s',Inv X pj σ H' s'->Q z s'):Zz (ZE X.prog X.w) X.A (truthy v) Q E s :=
 Zan (p pj s σ H x v _ (I.wish E) rx k) (λ _ s' ⟨_,I',q⟩=>q s' I'.unwish) λ _ _ z=>z
theorem QU {pj:PnT}{s:Zj}{σ:L2.St}{H:Hp}{Q:QvT}{E:QvT}{f:Zg}{r:List V->Hp->VK->Prop}{xs:List V}{us:List Zg}(p:Xw (X.wish E) f r)(I:Inv X pj σ H s)(rx:Vals xs us)
  (k:r xs H λ z H'=>∀u s',Inv X pj σ H' s'->RelV z u->Q u s'):Zz (ZE X.prog X.w) X.A (call f us) Q E s :=
 Zan (p pj s σ H xs us _ (I.wish E) rx k) (λ u s' ⟨_,_,I',r,q⟩=>q u s' I'.unwish r) λ _ _ z=>z
theorem Jvb (i:Nat){x:Str}{pos:Pos}(hN:X.N[i]?=Za x:=by rfl)(hv:Vis X.env.scope x:=by assumption)(hd:(x==("__debug__":Str))=Zc:=by decide)
  (hcd:(x==("__classdict__":Str))=Zc:=by decide):PEi ce X (.Name x pos) (Jb i):=by
 intro pj s σ H ι σi h Q E N K
 unfold Jb at K
 cases e:σi[i]? with
 | none =>
  rw[e] at K
  exact Zf K
 | some o =>
  cases o with
  | none =>
   rw[e] at K
   exact Zf K
  | some v =>
   rw[e] at K
   obtain⟨u,e1,q⟩:=N.st.at_ i v e
   exact Yq (Jy5 (X:=X.wish E) hN hv hd hcd) N.inv ⟨u,e1,λ u' s' I' r'=>K u' s' H ι ⟨I',N.rel,N.st⟩ .refl ⟨u,r',q⟩⟩
theorem Jxv {i j pos}:PEi ce X (.Constant (.int i) j pos) (eC (.int i)):=λ _ _ _ H ι _ _ _ E N K=>Yq (Jy2 (X:=X.wish E)) N.inv λ u' s' I' r'=>K u' s' H ι ⟨I',N.rel,N.st⟩ .refl ⟨_,r',rfl⟩
theorem i_bl {i j pos}:PEi ce X (.Constant (.bool i) j pos) (eC (.bl i)):=λ _ _ _ H ι _ _ _ E N K=>Yq (J09 (X:=X.wish E)) N.inv λ u' s' I' r'=>K u' s' H ι ⟨I',N.rel,N.st⟩ .refl ⟨_,r',rfl⟩
theorem Jx1 {j pos}:PEi ce X (.Constant .none j pos) (eC .non):=λ _ _ _ H ι _ _ _ E N K=>Yq (Jy3 (X:=X.wish E)) N.inv λ u' s' I' r'=>K u' s' H ι ⟨I',N.rel,N.st⟩ .refl ⟨_,r',rfl⟩
theorem Jx3 {i j pos}:PEi ce X (.Constant (.str i) j pos) (eC (.str i)):=λ _ _ _ H ι _ _ _ E N K=>Yq (Jy4 (X:=X.wish E)) N.inv λ u' s' I' r'=>K u' s' H ι ⟨I',N.rel,N.st⟩ .refl ⟨_,r',rfl⟩
theorem Jxu {x:Str}{v:V}{iv:IV}{u:Zg}{pos:Pos}(hg:Gl X x)(hm:X.mg x=Za u)(r:RelV v u)(q:∀ι H,RV X.K ι H iv v)(hd:(x==("__debug__":Str))=Zc:=by decide):PEi ce X (.Name x pos) (eC iv) :=
 λ _ _ _ H ι _ _ _ E N K=>Yq (Jvv (X:=X.wish E) hg hm r hd) N.inv λ u' s' I' r'=>K u' s' H ι ⟨I',N.rel,N.st⟩ .refl ⟨_,r',q _ _⟩
theorem Jxq {op:Operator}{f:IV->IV->IH->Res IV}(ho:OpI ce X (ZaQ op) f)(ha:PEi ce X a ma)(hb:PEi ce X b mb):PEi ce X (.BinOp a op b pos) (Jc f ma mb) :=
 λ pj s σ H ι σi h Q E N K=>wpAny_BinOp (ha.run N K λ x h1 u s1 H1 ι1 N1 n1 r1 K1=>hb.run N1 K1 λ y h2 w s2 H2 ι2 N2 n2 r2 K2=>ho pj s2 σ H2 ι2 σi h2 x y u w Q E N2 (r1.mono n2) r2 K2)
theorem i_un {op:UnaryOp}{f:IV->IH->Res IV}(ho:UnI ce X (unaryOp op) f)(ha:PEi ce X a ma):PEi ce X (.UnaryOp op a pos) (eUn f ma) :=
 λ pj s σ H ι σi h Q E N K=>UnaryOp_ (ha.run N K λ x h1 u s1 H1 ι1 N1 n1 r1 K1=>ho pj s1 σ H1 ι1 σi h1 x u Q E N1 r1 K1)
theorem Jxs {op:CmpOp}{f:IV->IV->IH->Res IV}(ho:OpI ce X (Zav op) f)(ha:PEi ce X a ma)(hb:PEi ce X b mb)(hm:Zbc op b=Zc:=by assumption):PEi ce X (.Compare a [op] [b] pos) (Jc f ma mb) :=
 λ pj s σ H ι σi h Q E N K=>wpAny_Compare1 (ha.run N K λ x h1 u s1 H1 ι1 N1 n1 r1 K1=>hb.run N1 K1 λ y h2 w s2 H2 ι2 N2 n2 r2 K2=>ho pj s2 σ H2 ι2 σi h2 x y u w Q E N2 (r1.mono n2) r2 K2) hm
noncomputable def asB:IV->IH->Res Bool
 | .bl b,h=>.ok b h
 | _,_=>.stuck
theorem Kont.asB {pj:PnT}{σ:L2.St}{H:Hp}{ι:List Zi}{σi:ISt}{r:Res IV}{Q:Bool->Zj->Prop}{E:QvT}(K:Kont ce X RB pj ι σi σ H (r.bind asB) Q E) :
  Kont ce X RU pj ι σi σ H r (λ v s=>Zz (ZE X.prog X.w) X.A (truthy v) Q E s) E:=by
 cases r with
 | exc n h=>exact K
 | stuck=>exact K
 | ok v h =>
  intro u s' H' ι' N n q
  obtain⟨x,rx,q⟩:=q
  cases v with
  | bl b =>
   have e:x=.bl b:=q
   subst e
   cases rx
   exact Zb2 (K b s' H' ι' N n rfl)
  | _=>exact Zf K
theorem Res.bind_bind {α β γ:Type}(r:Res α)(f:α->IH->Res β)(g:β->IH->Res γ):(r.bind f).bind g=r.bind λ x h=>(f x h).bind g:=by
 cases r<;>rfl
theorem Jzq {op:CmpOp}{f:IV->IV->IH->Res IV}(ho:OpI ce X (Zav op) f)(ha:PEi ce X a ma)(hb:PEi ce X b mb)(hm:Zbc op b=Zc:=by assumption):PTi ce X (.Compare a [op] [b] pos) (Jj asB (Jc f ma mb)) :=
 λ pj s σ H ι σi h Q E N K=>by
  have K':Kont ce X RB pj ι σi σ H ((ma σi h).bind λ x h1=>(mb σi h1).bind λ y h2=>(f x y h2).bind asB) Q E:=by
   unfold Jj Jc at K
   rw[Res.bind_bind] at K
   simp only[Res.bind_bind] at K
   exact K
  exact wpAny_isTrue_Compare1 (ha.run N K' λ x h1 u s1 H1 ι1 N1 n1 r1 K1=>hb.run N1 K1 λ y h2 w s2 H2 ι2 N2 n2 r2 K2=>ho pj s2 σ H2 ι2 σi h2 x y u w _ E N2 (r1.mono n2) r2 (Kont.asB K2)) hm
theorem Jsz {tr:IV->IH->Res Bool}(ht:TrI ce X tr)(ha:PEi ce X a ma)(he:∀whole,Zew a X.env whole=(do let v<-whole;Ze8 a.pos;Zcz [v] (truthy v)):=by intro _;rfl):PTi ce X a (Jj tr ma) :=
 λ pj s σ H ι σi h Q E N K=>isTrue_plain (ha.run N K λ x h1 u s1 H1 ι1 N1 n1 r1 K1=>ht pj s1 σ H1 ι1 σi h1 x u Q E N1 r1 K1) (he _)
variable {rest:List Expr}{ta tb:T1}
theorem Jwk (ha:PTi ce X a ta):PWi ce X (.BoolOp .And [a] pos) ta:=λ wh pj s σ H ι σi h Q E N K=>by
 refine isTrue_and (ha pj s σ H ι σi h _ E N ?_)
 cases e:ta σi h with
 | ok v h' =>
  rw[e] at K
  intro u s' H' ι' N' n' r
  have r':u=v:=r
  subst r'
  cases u with
  | true=>exact isTrue_and_nil (K Zh s' H' ι' N' n' rfl)
  | false=>exact K Zc s' H' ι' N' n' rfl
 | exc n h'=>rw[e] at K;exact K
 | stuck=>rw[e] at K;exact K
theorem Jzv (ha:PTi ce X a ta):PWi ce X (.BoolOp .Or [a] pos) ta:=λ wh pj s σ H ι σi h Q E N K=>by
 refine isTrue_or (ha pj s σ H ι σi h _ E N ?_)
 cases e:ta σi h with
 | ok v h' =>
  rw[e] at K
  intro u s' H' ι' N' n' r
  have r':u=v:=r
  subst r'
  cases u with
  | false=>exact isTrue_or_nil (K Zc s' H' ι' N' n' rfl)
  | true=>exact K Zh s' H' ι' N' n' rfl
 | exc n h'=>rw[e] at K;exact K
 | stuck=>rw[e] at K;exact K
theorem Jzu (ha:PTi ce X a ta)(hb:PWi ce X (.BoolOp .And (b::rest) pos) tb):PWi ce X (.BoolOp .And (a::b::rest) pos) (Jsw ta tb):=λ wh pj s σ H ι σi h Q E N K =>
 isTrue_and (ha.run N K λ c h1 u s1 H1 ι1 N1 n1 r1 K1=>by
  have r':u=c:=r1
  subst r'
  cases u with
  | true=>exact hb wh pj s1 σ H1 ι1 σi h1 Q E N1 K1
  | false=>exact K1 Zc s1 H1 ι1 N1 .refl rfl)
theorem J1l (ha:PTi ce X a ta)(hb:PWi ce X (.BoolOp .Or (b::rest) pos) tb):PWi ce X (.BoolOp .Or (a::b::rest) pos) (tOrI ta tb):=λ wh pj s σ H ι σi h Q E N K =>
 isTrue_or (ha.run N K λ c h1 u s1 H1 ι1 N1 n1 r1 K1=>by
  have r':u=c:=r1
  subst r'
  cases u with
  | false=>exact hb wh pj s1 σ H1 ι1 σi h1 Q E N1 K1
  | true=>exact K1 Zh s1 H1 ι1 N1 .refl rfl)
theorem PWi.t (h:PWi ce X a ta):PTi ce X a ta:=h _
theorem Jzr (ha:PTi ce X a ta):PTi ce X (.UnaryOp .Not a pos) (JA ta):=λ pj s σ H ι σi h Q E N K =>
 isTrue_not (ha.run N K λ c h1 u s1 H1 ι1 N1 n1 r1 K1=>by
  have r':u=c:=r1
  subst r'
  exact K1 (!u) s1 H1 ι1 N1 .refl rfl)
theorem Jx2 {op}(h:PEi ce X a ma):PEi ce X (.BoolOp op [a] pos) ma:=λ pj s σ H ι σi h' Q E N K=>BoolOp_one (h pj s σ H ι σi h' Q E N K)
theorem J0s {tr:IV->IH->Res Bool}(ht:TrI ce X tr)(ha:PEi ce X a ma)(hb:PEi ce X (.BoolOp .And (b::rest) pos) mb):PEi ce X (.BoolOp .And (a::b::rest) pos) (eAnd ma mb tr):=λ pj s σ H ι σi h Q E N K =>
 BoolOp_and (ha.run N K λ x h1 u s1 H1 ι1 N1 n1 r1 K1=>by
  refine ht pj s1 σ H1 ι1 σi h1 x u _ E N1 r1 ?_
  cases e:tr x h1 with
  | ok c h2 =>
   rw[e] at K1
   intro d s2 H2 ι2 N2 n2 r2
   have r':d=c:=r2
   subst r'
   have K2:=Kont.mono (r:=if d=Zh then mb σi h2 else .ok x h2) K1 n2
   cases d with
   | true=>exact hb pj s2 σ H2 ι2 σi h2 Q E N2 K2
   | false=>exact K2 u s2 H2 ι2 N2 .refl (r1.mono n2)
  | exc n h'=>rw[e] at K1;exact K1
  | stuck=>rw[e] at K1;exact K1)
theorem i_or {tr:IV->IH->Res Bool}(ht:TrI ce X tr)(ha:PEi ce X a ma)(hb:PEi ce X (.BoolOp .Or (b::rest) pos) mb):PEi ce X (.BoolOp .Or (a::b::rest) pos) (eOr ma mb tr):=λ pj s σ H ι σi h Q E N K =>
 BoolOp_or (ha.run N K λ x h1 u s1 H1 ι1 N1 n1 r1 K1=>by
  refine ht pj s1 σ H1 ι1 σi h1 x u _ E N1 r1 ?_
  cases e:tr x h1 with
  | ok c h2 =>
   rw[e] at K1
   intro d s2 H2 ι2 N2 n2 r2
   have r':d=c:=r2
   subst r'
   have K2:=Kont.mono (r:=if d=Zh then .ok x h2 else mb σi h2) K1 n2
   cases d with
   | false=>exact hb pj s2 σ H2 ι2 σi h2 Q E N2 K2
   | true=>exact K2 u s2 H2 ι2 N2 .refl (r1.mono n2)
  | exc n h'=>rw[e] at K1;exact K1
  | stuck=>rw[e] at K1;exact K1)
def X8 (tr:IV->IH->Res Bool):IV->IH->Res IV:=λ x h=>(tr x h).bind λ c h1=>.ok (.bl (!c)) h1
theorem Jwl {tr:IV->IH->Res Bool}(ht:TrI ce X tr):UnI ce X (unaryOp .Not) (X8 tr):=λ pj s σ H ι σi h x v Q E N r K=>by
 refine not_of (ht pj s σ H ι σi h x v _ E N r ?_)
 unfold X8 at K
 cases e:tr x h with
 | ok c h2 =>
  rw[e] at K
  intro d s2 H2 ι2 N2 n2 r2
  have r':d=c:=r2
  subst r'
  exact K _ s2 H2 ι2 N2 n2 ⟨.bl (!d),rfl,rfl⟩
 | exc n h'=>rw[e] at K;exact K
 | stuck=>rw[e] at K;exact K
theorem Ju6 {t:Expr}{mt:T1}(ht:PTi ce X t mt)(ha:PEi ce X a ma)(hb:PEi ce X b mb):PEi ce X (.IfExp t a b pos) (eIf mt ma mb):=λ pj s σ H ι σi h Q E N K =>
 wpAny_IfExp (ht.run N K λ c h1 u s1 H1 ι1 N1 n1 r1 K1=>by
  have r':u=c:=r1
  subst r'
  cases u with
  | true=>exact ha pj s1 σ H1 ι1 σi h1 Q E N1 K1
  | false=>exact hb pj s1 σ H1 ι1 σi h1 Q E N1 K1)
theorem Ju3 {op op':CmpOp}{f g:IV->IV->IH->Res IV}(ho:OpI ce X (Zav op) f)(ho':OpI ce X (Zav op') g)(ha:PEi ce X a ma)(hb:PEi ce X b mb)(hc:PEi ce X c mc)
  (hm:ZdA [op,op'] [b,c]=Zc:=by with_unfolding_all rfl):PEi ce X (.Compare a [op,op'] [b,c] pos) (Va f g ma mb mc):=λ pj s σ H ι σi h Q E N K =>
 Compare_chain (ha.run N K λ x h1 u s1 H1 ι1 N1 n1 r1 K1=>chain_link (hb.run N1 K1 λ y h2 w s2 H2 ι2 N2 n2 r2 K2=>by
  refine ho pj s2 σ H2 ι2 σi h2 x y u w _ E N2 (r1.mono n2) r2 ?_
  cases e:f x y h2 with
  | exc n h'=>rw[e] at K2;exact K2
  | stuck=>rw[e] at K2;exact K2
  | ok k h3 =>
   rw[e] at K2
   intro d s3 H3 ι3 N3 n3 r3
   obtain⟨z,rz,q⟩:=r3
   cases k with
   | bl k =>
    have e':z=.bl k:=q
    subst e'
    cases rz
    refine Zb2 ?_
    have K3:=Kont.mono (r:=match IV.bl k with|.bl Zh=>(mc σi h3).bind λ z h4=>g y z h4|.bl Zc=>.ok (.bl Zc) h3|_=>.stuck) K2 n3
    cases k with
    | false=>exact ite_ff (K3 _ s3 H3 ι3 N3 .refl ⟨.bl Zc,rfl,rfl⟩)
    | true=>exact ite_tt (chain_last (hc.run N3 K3 λ z h4 w' s4 H4 ι4 N4 n4 r4 K4=>ho' pj s4 σ H4 ι4 σi h4 y z w w' Q E N4 ((r2.mono n3).mono n4) r4 K4))
   | _=>exact Zf K2)) hm
theorem Jwi {op op':CmpOp}{f g:IV->IV->IH->Res IV}(ho:OpI ce X (Zav op) f)(ho':OpI ce X (Zav op') g)(ha:PEi ce X a ma)(hb:PEi ce X b mb)(hc:PEi ce X c mc)
  (hm:ZdA [op,op'] [b,c]=Zc:=by with_unfolding_all rfl):PTi ce X (.Compare a [op,op'] [b,c] pos) (Jj asB (Va f g ma mb mc)):=λ pj s σ H ι σi h Q E N K=>by
 have K':Kont ce X RB pj ι σi σ H ((ma σi h).bind λ x h1=>(mb σi h1).bind λ y h2=>(f x y h2).bind λ k h3=>(match k with|.bl Zh=>(mc σi h3).bind λ z h4=>g y z h4|.bl Zc=>.ok (.bl Zc) h3|_=>.stuck:Res IV).bind asB) Q E:=by
  unfold Jj Va at K
  rw[Res.bind_bind] at K
  simp only[Res.bind_bind] at K
  exact K
 refine isTrue_chain (ha.run N K' λ x h1 u s1 H1 ι1 N1 n1 r1 K1=>test_link (hb.run N1 K1 λ y h2 w s2 H2 ι2 N2 n2 r2 K2=>?_)) hm
 refine ho pj s2 σ H2 ι2 σi h2 x y u w _ E N2 (r1.mono n2) r2 ?_
 cases e:f x y h2 with
 | exc n h'=>rw[e] at K2;exact K2
 | stuck=>rw[e] at K2;exact K2
 | ok k h3 =>
  rw[e] at K2
  intro d s3 H3 ι3 N3 n3 r3
  obtain⟨z,rz,q⟩:=r3
  cases k with
  | bl k =>
   have e':z=.bl k:=q
   subst e'
   cases rz
   refine Zb2 ?_
   have K3:=Kont.mono (r:=(match IV.bl k with|.bl Zh=>(mc σi h3).bind λ z h4=>g y z h4|.bl Zc=>.ok (.bl Zc) h3|_=>.stuck:Res IV).bind asB) K2 n3
   cases k with
   | false=>exact ite_ff (K3 _ s3 H3 ι3 N3 .refl rfl)
   | true =>
    have K3':Kont ce X RB pj ι3 σi σ H3 ((mc σi h3).bind λ z h4=>(g y z h4).bind asB) Q E:=by
     have:=K3
     dsimp only at this
     rw[Res.bind_bind] at this
     exact this
    exact ite_tt (test_last (hc.run N3 K3' λ z h4 w' s4 H4 ι4 N4 n4 r4 K4=>ho' pj s4 σ H4 ι4 σi h4 y z w w' _ E N4 ((r2.mono n3).mono n4) r4 (Kont.asB K4)))
  | _=>exact Zf K2
variable {es:List Expr}{mr:A1}
theorem RUs.nil {K:W.Frag}{ι:List Zi}{H:Hp}:RUs K ι H [] []:=⟨[],.nil,rfl⟩
theorem RUs.cons {K:W.Frag}{ι:List Zi}{H:Hp}{x:IV}{u:Zg}{xs:List IV}{us:List Zg}(a:RU K ι H x u)(b:RUs K ι H xs us):RUs K ι H (x::xs) (u::us) :=
 let ⟨v,r,q⟩:=a;let ⟨vs,rs,qs⟩:=b;⟨v::vs,.cons r rs,v,vs,rfl,q,qs⟩
theorem Vk:PAi ce X [] Jd:=λ _ pj s σ H ι σi h Q E N K=>Calls.spliced_nil (K [] s H ι N .refl .nil)
theorem QZ (ha:PEi ce X a ma)(hr:PAi ce X es mr)(hs:ZN (a::es) X.env=(Zc,ZaV a X.env)::ZN es X.env:=by rfl):PAi ce X (a::es) (Ja ma mr):=by
 intro pos pj s σ H ι σi h Q E N K
 rw[hs]
 show Zz _ _ (spliced ((Zc,ZaV a X.env)::Zba pos (ZN es X.env))) _ _ s
 exact Zdj (ha.run N K λ x h1 u s1 H1 ι1 N1 n1 r1 K1=>(hr pos).run N1 K1 λ xs h2 us s2 H2 ι2 N2 n2 r2 K2=>K2 _ s2 H2 ι2 N2 .refl (.cons (r1.mono n2) r2))
end
noncomputable def Jf:IV->IV->IH->Res IV
 | .int i,.int j,h=>.ok (.int (i+j)) h
 | .str x,.str y,h=>if x.length+y.length<=sizeLine then .ok (.str (x++y)) h else .stuck
 | .ref i,.ref j,h=>match h[i]?,h[j]? with
  | some (.lst xs),Za (.lst ys)=>if xs.length+ys.length<=sizeLine then .ok (.ref h.length) (h++[.lst (xs++ys)]) else .stuck
  | _,_=>.stuck
 | .tup xs,.tup ys,h=>if xs≠[]/\ys≠[]/\xs.length+ys.length<=sizeLine then .ok (.tup (xs++ys)) h else .stuck
 | _,_,_=>.stuck
noncomputable def YY:IV->IV->IH->Res IV
 | .int i,.int j,h=>.ok (.int (i-j)) h
 | _,_,_=>.stuck
def V0 (i j:Int):Prop:=i.natAbs<2^64∨j.natAbs<2^64∨(i.natAbs.log2<1048576/\j.natAbs.log2<1048576)
instance (i j:Int):Decidable (V0 i j):=by unfold V0;exact inferInstance
def Yh:IV->IV->IH->Res IV
 | .int i,.int j,h=>if V0 i j then .ok (.int (i*j)) h else .stuck
 | .ref i,.int k,h=>match h[i]? with
  | some (.lst xs)=>if -(2^63)<=k/\k<2^63/\xs.length*k.toNat<=sizeLine then .ok (.ref h.length) (h++[.lst (Zac k.toNat xs).flatten]) else .stuck
  | _=>.stuck
 | _,_,_=>.stuck
def J8:IV->IV->IH->Res IV
 | .int i,.int j,h=>if 0<j/\j.natAbs.log2<9000 then .ok (.int (i/j)) h else .stuck
 | _,_,_=>.stuck
def Ju:IV->IV->IH->Res IV
 | .int i,.int j,h=>if 0<j then .ok (.int (i%j)) h else .stuck
 | _,_,_=>.stuck
def Vu:IV->IV->IH->Res IV
 | .int i,.int j,h=>if 0<=j/\j<=1000000/\i.natAbs<2^64 then .ok (.int (i^j.toNat)) h else .stuck
 | _,_,_=>.stuck
noncomputable def Jsa:IV->IH->Res IV
 | .int i,h=>.ok (.int (-i)) h
 | _,_=>.stuck
section
variable {ce:CeT}{X:Cx}
theorem fin0 {pj:PnT}{s:Zj}{σ:L2.St}{H:Hp}{ι:List Zi}{σi:ISt}{h:IH}{v:IV}{w:V}{Q:QvT}{E:QvT}(N:Now ce X pj ι σi h σ H s)(K:Kont ce X RU pj ι σi σ H (.ok v h) Q E)
  (q:RV X.K ι H v w):∀u s',Inv X pj σ H s'->RelV w u->Q u s':=λ u s' I r=>K u s' H ι ⟨I,N.rel,N.st⟩ .refl ⟨w,r,q⟩
theorem finA {pj:PnT}{s:Zj}{σ:L2.St}{H:Hp}{ι:List Zi}{σi:ISt}{h:IH}{io:IX}{o:HO}{Q:QvT}{E:QvT}(N:Now ce X pj ι σi h σ H s)
  (K:Kont ce X RU pj ι σi σ H (.ok (.ref h.length) (h++[io])) Q E)(l:Zi)(e:H l=Ze)(r:RO ce X.K (ι++[l]) (upd H l o) l io):∀u s',Inv X pj σ (upd H l o) s'->RelV (.ref l) u->Q u s':=λ u s' I ru=>by
 obtain⟨R,n⟩:=N.rel.alloc e r
 refine K u s' _ _ ⟨I,R,N.st.mono n⟩ n ⟨.ref l,ru,l,rfl,?_⟩
 rw[<- N.rel.len,ZI (Zu _)]
 simp
theorem finT {pj:PnT}{s:Zj}{σ:L2.St}{H:Hp}{ι:List Zi}{σi:ISt}{h:IH}{xs:List IV}{vs:List V}{Q:QvT}{E:QvT}(N:Now ce X pj ι σi h σ H s)
  (K:Kont ce X RU pj ι σi σ H (.ok (.tup xs) h) Q E)(l:Zi)(e:H l=Ze)(r:RVs X.K ι H xs vs):∀u s',Inv X pj σ (upd H l (.tup vs)) s'->RelV (.ref l) u->Q u s':=λ u s' I ru=>by
 obtain⟨R,n⟩:=N.rel.grow (o:=.tup vs) e
 exact K u s' _ _ ⟨I,R,N.st.mono n⟩ n ⟨.ref l,ru,l,vs,rfl,SqT.of J2,RVs.mono n _ _ r⟩
theorem RVs.new {K:W.Frag}{ι:List Zi}{H:Hp}{l:Zi}{o:HO}(e:H l=Ze){xs:List IV}{vs:List V}(r:RVs K ι H xs vs):RVs K (ι++[l]) (upd H l o) xs vs:=RVs.mono ⟨⟨[l],rfl⟩,Ext.upd_new e⟩ _ _ r
theorem Now.at {pj:PnT}{s:Zj}{σ:L2.St}{H:Hp}{ι:List Zi}{σi:ISt}{h:IH}(N:Now ce X pj ι σi h σ H s){i:Nat}{o:IX}(e:h[i]?=Za o){a:Zi}(ha:ι[i]?=Za a):RO ce X.K ι H a o:=by
 obtain⟨b,e1,r⟩:=N.rel.at_ i o e
 rw[ha] at e1
 cases e1
 exact r
theorem J0w:OpI ce X (ZaQ .Add) Jf:=by
 intro pj s σ H ι σi h x y v u Q E N rx ry K
 obtain⟨xv,rx,qx⟩:=rx
 obtain⟨yv,ry,qy⟩:=ry
 cases x with
 | int i =>
  cases y with
  | int j =>
   have e1:xv=.int i:=qx
   have e2:yv=.int j:=qy
   subst e1 e2
   exact Q4 (Jys (X:=X.wish E)) N.inv rx ry ⟨i,j,rfl,rfl,fin0 N K rfl⟩
  | _=>exact Zf K
 | str i =>
  cases y with
  | str j =>
   have e1:xv=.str i:=qx
   have e2:yv=.str j:=qy
   subst e1 e2
   dsimp only[Jf] at K
   split at K
   ·rename_i hz
    exact Q4 (Jny (X:=X.wish E)) N.inv rx ry ⟨i,j,rfl,rfl,hz,fin0 N K rfl⟩
   ·exact Zf K
  | _=>exact Zf K
 | tup xs =>
  cases y with
  | tup ys =>
   obtain⟨a,vs,e1,sa,ra⟩:=qx
   obtain⟨b,ws,e2,sb,rb⟩:=qy
   subst e1 e2
   dsimp only[Jf] at K
   split at K
   ·rename_i hz
    obtain⟨h1,h2,h3⟩:=hz
    have n1:vs≠[]:=λ z=>h1 (by have:=ra.length;rw[z] at this;exact ZaK this.symm)
    have n2:ws≠[]:=λ z=>h2 (by have:=rb.length;rw[z] at this;exact ZaK this.symm)
    exact Q4 (Jvs (X:=X.wish E)) N.inv rx ry ⟨a,b,vs,ws,rfl,rfl,sa,sb,n1,by rw[ra.length,rb.length];exact h3,λ z=>absurd z n2,λ _ p hp=>finT N K p hp (ra.append rb)⟩
   ·exact Zf K
  | _=>exact Zf K
 | ref i =>
  cases y with
  | ref j =>
   obtain⟨a,e1,ha⟩:=qx
   obtain⟨b,e2,hb⟩:=qy
   subst e1 e2
   dsimp only[Jf] at K
   cases hi:h[i]? with
   | none=>rw[hi] at K;exact Zf K
   | some oi =>
    cases hj:h[j]? with
    | none=>rw[hi,hj] at K;cases oi<;>exact Zf K
    | some oj =>
     rw[hi,hj] at K
     cases oi with
     | lst xs =>
      cases oj with
      | lst ys =>
       dsimp only at K
       split at K
       ·rename_i hz
        obtain⟨vs,e1,r1⟩:=N.at hi ha
        obtain⟨ws,e2,r2⟩:=N.at hj hb
        exact Q4 (Jyt (X:=X.wish E)) N.inv rx ry ⟨a,b,vs,ws,rfl,rfl,e1,e2,by rw[r1.length,r2.length];exact hz,λ p hp=>finA N K p hp ⟨_,J2,RVs.new hp (r1.append r2)⟩⟩
       ·exact Zf K
      | _=>exact Zf K
     | _=>exact Zf K
  | _=>exact Zf K
 | _=>cases y<;>exact Zf K
theorem J02:OpI ce X (ZaQ .Sub) YY:=by
 intro pj s σ H ι σi h x y v u Q E N rx ry K
 obtain⟨xv,rx,qx⟩:=rx
 obtain⟨yv,ry,qy⟩:=ry
 cases x with
 | int i =>
  cases y with
  | int j =>
   have e1:xv=.int i:=qx
   have e2:yv=.int j:=qy
   subst e1 e2
   exact Q4 (Jyx (X:=X.wish E)) N.inv rx ry ⟨i,j,rfl,rfl,fin0 N K rfl⟩
  | _=>exact Zf K
 | _=>cases y<;>exact Zf K
theorem V0.ok {i j:Int}(h:V0 i j):IntMulOk i j:=by
 rcases h with h|h|⟨h1,h2⟩
 ·exact .of_left (Zdx (by omega) (by omega))
 ·exact .of_right (Zdx (by omega) (by omega))
 ·refine .of_bits ?_ ?_
  ·unfold Builtin.Int.intBits
   split
   ·exact Zar _
   ·have:(2:Nat)^20=1048576:=by decide
    omega
  ·unfold Builtin.Int.intBits
   split
   ·exact Zar _
   ·have:(2:Nat)^20=1048576:=by decide
    omega
theorem Jvt:OpR X (ZaQ .Mult) (rI V0 λ i j=>.int (i*j)):=opI λ _ _ _ _ _ _ _ hc q=>mul_int q hc.ok
theorem J00:OpI ce X (ZaQ .Mult) Yh:=by
 intro pj s σ H ι σi h x y v u Q E N rx ry K
 obtain⟨xv,rx,qx⟩:=rx
 obtain⟨yv,ry,qy⟩:=ry
 cases x with
 | int i =>
  cases y with
  | int j =>
   have e1:xv=.int i:=qx
   have e2:yv=.int j:=qy
   subst e1 e2
   dsimp only[Yh] at K
   split at K
   ·rename_i hz
    exact Q4 (Jvt (X:=X.wish E)) N.inv rx ry ⟨i,j,rfl,rfl,hz,fin0 N K rfl⟩
   ·exact Zf K
  | _=>exact Zf K
 | ref i =>
  cases y with
  | int k =>
   obtain⟨a,e1,ha⟩:=qx
   have e2:yv=.int k:=qy
   subst e1 e2
   dsimp only[Yh] at K
   cases hi:h[i]? with
   | none=>rw[hi] at K;exact Zf K
   | some oi =>
    rw[hi] at K
    cases oi with
    | lst xs =>
     dsimp only at K
     split at K
     ·rename_i hz
      obtain⟨vs,e1,r1⟩:=N.at hi ha
      have rr:∀n:Nat,RVs X.K ι H (Zac n xs).flatten (Zac n vs).flatten:=λ n=>by
       induction n with
       | zero=>exact rfl
       | succ n ih =>
        rw[ZaU,ZaU,Zbf,Zbf]
        exact r1.append ih
      exact Q4 (Jyw (X:=X.wish E)) N.inv rx ry ⟨a,k,vs,rfl,rfl,e1,hz.1,hz.2.1,by rw[r1.length];exact hz.2.2,λ p hp=>finA N K p hp ⟨_,J2,RVs.new hp (rr _)⟩⟩
     ·exact Zf K
    | _=>exact Zf K
  | _=>exact Zf K
 | _=>cases y<;>exact Zf K
theorem Jsb:OpR X (ZaQ .FloorDiv) (rI (λ _ j=>0<j/\j.natAbs.log2<9000) λ i j=>.int (i/j)):=opI λ i j _ _ _ _ _ hc q=>by
 have h1:(0:Int)<j:=hc.1
 exact floordiv_int (by omega) (by rw[Int.fdiv_eq_ediv_of_nonneg i (by omega)];exact q) (.inl (PyProof.noPylong_of_log2 hc.2))
theorem Jyp:OpI ce X (ZaQ .FloorDiv) J8:=by
 intro pj s σ H ι σi h x y v u Q E N rx ry K
 obtain⟨xv,rx,qx⟩:=rx
 obtain⟨yv,ry,qy⟩:=ry
 cases x with
 | int i =>
  cases y with
  | int j =>
   have e1:xv=.int i:=qx
   have e2:yv=.int j:=qy
   subst e1 e2
   dsimp only[J8] at K
   split at K
   ·rename_i hz
    exact Q4 (Jsb (X:=X.wish E)) N.inv rx ry ⟨i,j,rfl,rfl,hz,fin0 N K rfl⟩
   ·exact Zf K
  | _=>exact Zf K
 | _=>cases y<;>exact Zf K
theorem J0z:OpI ce X (ZaQ .Mod) Ju:=by
 intro pj s σ H ι σi h x y v u Q E N rx ry K
 obtain⟨xv,rx,qx⟩:=rx
 obtain⟨yv,ry,qy⟩:=ry
 cases x with
 | int i =>
  cases y with
  | int j =>
   have e1:xv=.int i:=qx
   have e2:yv=.int j:=qy
   subst e1 e2
   dsimp only[Ju] at K
   split at K
   ·rename_i hz
    exact Q4 (Jyu (X:=X.wish E)) N.inv rx ry ⟨i,j,rfl,rfl,hz,fin0 N K rfl⟩
   ·exact Zf K
  | _=>exact Zf K
 | _=>cases y<;>exact Zf K
theorem J01:OpI ce X (ZaQ .Pow) Vu:=by
 intro pj s σ H ι σi h x y v u Q E N rx ry K
 obtain⟨xv,rx,qx⟩:=rx
 obtain⟨yv,ry,qy⟩:=ry
 cases x with
 | int i =>
  cases y with
  | int j =>
   have e1:xv=.int i:=qx
   have e2:yv=.int j:=qy
   subst e1 e2
   dsimp only[Vu] at K
   split at K
   ·rename_i hz
    exact Q4 (Jyv (X:=X.wish E)) N.inv rx ry ⟨i,j,rfl,rfl,hz,fin0 N K rfl⟩
   ·exact Zf K
  | _=>exact Zf K
 | _=>cases y<;>exact Zf K
theorem J1m:UnI ce X (unaryOp .USub) Jsa:=by
 intro pj s σ H ι σi h x v Q E N rx K
 obtain⟨xv,rx,qx⟩:=rx
 cases x with
 | int i =>
  have e1:xv=.int i:=qx
  subst e1
  exact Jzx (Jzw (X:=X.wish E)) N.inv rx ⟨i,rfl,fin0 N K rfl⟩
 | _=>exact Zf K
noncomputable def cLt:IV->IV->IH->Res IV
 | .int i,.int j,h=>.ok (.bl (decide (i<j))) h
 | .str x,.str y,h=>.ok (.bl (decide (x.cps.toList<y.cps.toList))) h
 | _,_,_=>.stuck
noncomputable def cLe:IV->IV->IH->Res IV
 | .int i,.int j,h=>.ok (.bl (decide (i<=j))) h
 | .str x,.str y,h=>.ok (.bl (!decide (y.cps.toList<x.cps.toList))) h
 | _,_,_=>.stuck
noncomputable def cGt:IV->IV->IH->Res IV
 | .int i,.int j,h=>.ok (.bl (decide (j<i))) h
 | _,_,_=>.stuck
noncomputable def cGe:IV->IV->IH->Res IV
 | .int i,.int j,h=>.ok (.bl (decide (j<=i))) h
 | _,_,_=>.stuck
theorem o_lt:OpI ce X (Zav .Lt) cLt:=by
 intro pj s σ H ι σi h x y v u Q E N rx ry K
 obtain⟨xv,rx,qx⟩:=rx
 obtain⟨yv,ry,qy⟩:=ry
 cases x with
 | int i =>
  cases y with
  | int j =>
   have e1:xv=.int i:=qx
   have e2:yv=.int j:=qy
   subst e1 e2
   exact Q4 (J07 (X:=X.wish E)) N.inv rx ry ⟨i,j,rfl,rfl,fin0 N K rfl⟩
  | _=>exact Zf K
 | str i =>
  cases y with
  | str j =>
   have e1:xv=.str i:=qx
   have e2:yv=.str j:=qy
   subst e1 e2
   exact Q4 (Jp9 (X:=X.wish E)) N.inv rx ry ⟨i,j,rfl,rfl,fin0 N K rfl⟩
  | _=>exact Zf K
 | _=>cases y<;>exact Zf K
theorem o_le:OpI ce X (Zav .LtE) cLe:=by
 intro pj s σ H ι σi h x y v u Q E N rx ry K
 obtain⟨xv,rx,qx⟩:=rx
 obtain⟨yv,ry,qy⟩:=ry
 cases x with
 | int i =>
  cases y with
  | int j =>
   have e1:xv=.int i:=qx
   have e2:yv=.int j:=qy
   subst e1 e2
   exact Q4 (J06 (X:=X.wish E)) N.inv rx ry ⟨i,j,rfl,rfl,fin0 N K rfl⟩
  | _=>exact Zf K
 | str i =>
  cases y with
  | str j =>
   have e1:xv=.str i:=qx
   have e2:yv=.str j:=qy
   subst e1 e2
   obtain⟨t,rfl⟩:=rx
   obtain⟨t',rfl⟩:=ry
   exact PySem.P.le_str (fin0 N K rfl _ s N.inv rfl)
  | _=>exact Zf K
 | _=>cases y<;>exact Zf K
theorem o_gt:OpI ce X (Zav .Gt) cGt:=by
 intro pj s σ H ι σi h x y v u Q E N rx ry K
 obtain⟨xv,rx,qx⟩:=rx
 obtain⟨yv,ry,qy⟩:=ry
 cases x with
 | int i =>
  cases y with
  | int j =>
   have e1:xv=.int i:=qx
   have e2:yv=.int j:=qy
   subst e1 e2
   exact Q4 (J05 (X:=X.wish E)) N.inv rx ry ⟨i,j,rfl,rfl,fin0 N K rfl⟩
  | _=>exact Zf K
 | _=>cases y<;>exact Zf K
theorem o_ge:OpI ce X (Zav .GtE) cGe:=by
 intro pj s σ H ι σi h x y v u Q E N rx ry K
 obtain⟨xv,rx,qx⟩:=rx
 obtain⟨yv,ry,qy⟩:=ry
 cases x with
 | int i =>
  cases y with
  | int j =>
   have e1:xv=.int i:=qx
   have e2:yv=.int j:=qy
   subst e1 e2
   exact Q4 (J04 (X:=X.wish E)) N.inv rx ry ⟨i,j,rfl,rfl,fin0 N K rfl⟩
  | _=>exact Zf K
 | _=>cases y<;>exact Zf K
noncomputable def tru:IV->IH->Res Bool
 | .non,h=>.ok Zc h
 | .bl b,h=>.ok b h
 | .int i,h=>.ok (i != 0) h
 | .str x,h=>if x.length<=sizeLine then .ok ((x.length:Int) != 0) h else .stuck
 | .tup xs,h=>.ok (!xs.isEmpty) h
 | .rol xs,h=>.ok (!xs.isEmpty) h
 | .ref i,h=>match h[i]? with
  | some (.lst xs)=>.ok (!xs.isEmpty) h
  | some (.dct kvs)=>.ok (!kvs.isEmpty) h
  | _=>.stuck
theorem RVs.empty {K:W.Frag}{ι:List Zi}{H:Hp}{xs:List IV}{vs:List V}(r:RVs K ι H xs vs):vs.isEmpty=xs.isEmpty:=by
 have:=r.length
 cases xs<;>cases vs<;>simp_all
theorem RPs.empty {κ:Type}{K:W.Frag}{ι:List Zi}{H:Hp}{xs:List (κ×IV)}{vs:List (κ×V)}(r:RPs K ι H xs vs):vs.isEmpty=xs.isEmpty:=by
 have:=r.length
 cases xs<;>cases vs<;>simp_all
theorem finB {pj:PnT}{s:Zj}{σ:L2.St}{H:Hp}{ι:List Zi}{σi:ISt}{h:IH}{c:Bool}{Q:Bool->Zj->Prop}{E:QvT}(N:Now ce X pj ι σi h σ H s)(K:Kont ce X RB pj ι σi σ H (.ok c h) Q E) :
  ∀s',Inv X pj σ H s'->Q c s':=λ s' I=>K c s' H ι ⟨I,N.rel,N.st⟩ .refl rfl
theorem XD:TrI ce X tru:=by
 intro pj s σ H ι σi h x v Q E N rx K
 obtain⟨xv,rx,qx⟩:=rx
 cases x with
 | non =>
  have e1:xv=.non:=qx
  subst e1
  exact Xo (Xn (X:=X.wish E)) N.inv rx ⟨_,rfl,finB N K⟩
 | bl b =>
  have e1:xv=.bl b:=qx
  subst e1
  exact Xo (Xn (X:=X.wish E)) N.inv rx ⟨_,rfl,finB N K⟩
 | int i =>
  have e1:xv=.int i:=qx
  subst e1
  exact Xo (Xn (X:=X.wish E)) N.inv rx ⟨_,rfl,finB N K⟩
 | str y =>
  have e1:xv=.str y:=qx
  subst e1
  dsimp only[tru] at K
  split at K
  ·rename_i hz
   exact Xo (Xn (X:=X.wish E)) N.inv rx ⟨_,⟨hz,rfl⟩,finB N K⟩
  ·exact Zf K
 | tup xs =>
  obtain⟨a,vs,e1,sa,ra⟩:=qx
  subst e1
  exact Xo (Xn (X:=X.wish E)) N.inv rx ⟨!xs.isEmpty,.inr (.inl ⟨vs,sa,by rw[ra.empty]⟩),finB N K⟩
 | rol xs =>
  obtain⟨a,vs,e1,sa,ra⟩:=qx
  subst e1
  exact Xo (Xn (X:=X.wish E)) N.inv rx ⟨!xs.isEmpty,.inl ⟨vs,sa.sq,by rw[ra.empty]⟩,finB N K⟩
 | ref i =>
  obtain⟨a,e1,ha⟩:=qx
  subst e1
  dsimp only[tru] at K
  cases hi:h[i]? with
  | none=>rw[hi] at K;exact Zf K
  | some oi =>
   rw[hi] at K
   cases oi with
   | lst xs =>
    obtain⟨vs,e1,r1⟩:=N.at hi ha
    exact Xo (Xn (X:=X.wish E)) N.inv rx ⟨!xs.isEmpty,.inl ⟨vs,SqL.of e1,by rw[r1.empty]⟩,finB N K⟩
   | dct kvs =>
    obtain⟨vs,e1,r1⟩:=N.at hi ha
    exact Xo (Xn (X:=X.wish E)) N.inv rx ⟨!kvs.isEmpty,.inr (.inr ⟨vs,e1,by rw[r1.empty]⟩),finB N K⟩
   | _=>exact Zf K
def JE (a:A1):E1:=λ σ h=>(a σ h).bind λ xs h1=>if xs.length<=sizeLine then .ok (.tup xs) h1 else .stuck
def Jv (a:A1):E1:=λ σ h=>(a σ h).bind λ xs h1=>if xs.length<=sizeLine then .ok (.ref h1.length) (h1++[.lst xs]) else .stuck
variable {es:List Expr}{mr:A1}{pos:Pos}
theorem Jx4 {x1}(hr:PAi ce X es mr):PEi ce X (.Tuple es x1 pos) (JE mr):=λ pj s σ H ι σi h Q E N K=>by
 refine wpAny_Tuple_spliced ((hr pos).run N K λ xs h1 us s1 H1 ι1 N1 n1 r1 K1=>?_)
 change Kont ce X RU pj ι1 σi σ H1 (if xs.length<=sizeLine then _ else _) Q E at K1
 split at K1
 ·rename_i hz
  obtain⟨vs,rv,qs⟩:=r1
  have hl:=rv.length
  have hl2:=qs.length
  have hf:H1 s1.heap.objs.size=Ze:=N1.inv.hok.fresh (Zu _)
  refine⟨by rw[<- hl,hl2];exact hz,?_⟩
  exact finT N1 K1 s1.heap.objs.size hf qs _ _ (N1.inv.laid (t':=s1.toks) (λ b u e=>Zm _ e) (Zu _) ⟨by rw[hl2];exact hz,us,rv,⟨_,Z8 _ rfl,rfl,_,rfl⟩⟩) rfl
 ·exact Zf K1
theorem Jxx (hr:PAi ce X es mr):PEi ce X (.List es pos) (Jv mr):=λ pj s σ H ι σi h Q E N K=>by
 refine wpAny_List_spliced ((hr pos).run N K λ xs h1 us s1 H1 ι1 N1 n1 r1 K1=>?_)
 change Kont ce X RU pj ι1 σi σ H1 (if xs.length<=sizeLine then _ else _) Q E at K1
 split at K1
 ·rename_i hz
  obtain⟨vs,rv,qs⟩:=r1
  have hl:=rv.length
  have hl2:=qs.length
  have hf:H1 s1.heap.objs.size=Ze:=N1.inv.hok.fresh (Zu _)
  refine⟨by rw[<- hl,hl2];exact hz,?_⟩
  exact finA N1 K1 s1.heap.objs.size hf ⟨_,J2,RVs.new hf qs⟩ _ _ (N1.inv.laid (t':=s1.toks) (λ b u e=>Zm _ e) (Zu _) ⟨by rw[hl2];exact hz,us,0,rv,Z8 _ rfl⟩) rfl
 ·exact Zf K1
end
section
variable {prog:ZG}{w:ZX}{A:ZO}{E:QvT}{s:Zj}
theorem Jj0 {it t:Zi}{items:Array Zg}(hne:t≠it):∀(n i:Nat)(s:Zj)(Q:List Zg->Zj->Prop),s.heap.IsListIter it t i->s.heap.IsList t items->i+n<=items.size ->
  (∀h',h'.IsListIter it t (i+n)->ZbK it s.heap h'->Q ((items.toList.drop i).take n) { s with heap:=h' })->Zz (ZE prog w) A (draw (.ref it) n) Q E s
 | 0,i,s,Q,hit,_,_,hQ=>by
  show Zz _ _ (pure []) Q E s
  exact ZM (by simpa using hQ s.heap hit (Heap.SameBut.refl ..))
 | n+1,i,s,Q,hit,ht,hle,hQ=>by
  have hlt:i<items.size:=by omega
  show Zz _ _ (Zc8 (.ref it)>>=_) Q E s
  refine Zk (Zcv hit ht (x:=items[i]) (by simp[hlt]) λ h₁ hit₁ hs₁=>?_)
  refine Zk (Zay (Jj0 hne n (i+1) _ _ hit₁ (ht.extBut hs₁.extBut hne) (by omega) λ h₂ hit₂ hs₂=>ZM ?_))
  have hd:items.toList.drop i=items[i]::items.toList.drop (i+1):=by simp[ZaW,hlt]
  have:=hQ h₂ (by rw[show i+(n+1)=i+1+n by omega];exact hit₂) (hs₁.trans hs₂)
  rw[hd,List.take_succ_cons] at this
  exact this
theorem Jg1 {t:Zi}{items:Array Zg}{Q:List Zg->Zj->Prop}(hh:A.handled=Ze)(ht:s.heap.IsList t items)
  (hQ:∀h',Zdt s.heap.objs.size s.heap h'->Q items.toList { s with heap:=h' }):Zz (ZE prog w) A (unpackItems (.ref t) items.size Ze) Q E s:=by
 have hlt:t≠s.heap.objs.size:=by obtain⟨o,ho,_⟩:=ht;exact ZK (Z4 ho)
 unfold unpackItems
 refine Zk ?_
 ·unfold notIterableAtAll
  refine Zk (wpAny_specialOf ht.typeIs slot_list_iter.lookup ?_)
  refine ZM ?_
  simp only[ZD,if_false]
  refine Zk (Zay (Zbg ht ?_))
  refine Zk (Zay (Jj0 hlt items.size 0 _ _ ⟨_,Z8 _ rfl,rfl,rfl⟩ (ht.push _) (by omega) λ h₁ hit₁ hs₁=>?_))
  have hall:List.take items.size (List.drop 0 items.toList)=items.toList:=by
   rw[List.drop_zero];exact ZaT (by simp)
  rw[hall]
  rw[if_neg (by simp)]
  have ht₁:h₁.IsList t items:=(ht.push _).extBut hs₁.extBut hlt
  refine Zk (Zay (ZdX hh hit₁ ht₁ (by simp) λ h₂ he₂=>?_))
  simp only[Option.isSome_none,ZD,if_false]
  refine ZM (hQ h₂ λ b o hb e=>he₂ b o hb (hs₁.extBut b o hb (Zm _ e)))
theorem Jgb {env:Env}{elts:List Expr}{x1}{pos:Pos}{t:Zi}{items:Array Zg}{Q:Unit->Zj->Prop}(hh:A.handled=Ze)(ht:s.heap.IsList t items)
  (hn:(ZaJ elts env).length=items.size)(hstar:(ZaJ elts env).findIdx? (·.1)=Ze)
  (h:∀h',Zdt s.heap.objs.size s.heap h'->Zz (ZE prog w) A (Zer ((ZaJ elts env).map (·.2)) items.toList) Q E { s with heap:=h' }) :
  Zz (ZE prog w) A (Zd1 (.Tuple elts x1 pos) env (.ref t)) Q E s:=by
 rw[assign_Tuple]
 refine Zk (Zci ?_)
 unfold unpack
 rw[hn,hstar]
 exact Zk (Zay (Jg1 hh ht h))
end
abbrev S1:=ISt->IH->SRes
structure Noted (fv:Zg)(fs:List Zi)(e:Zi)(h h3:Zak):Prop where
 ex:∃oe vs T ts,h.get? e=Za oe/\oe.data=.fields vs/\1<vs.size/\h3.get? e=Za (Zaq (·.setIfInBounds 1 (.ref T)) oe)/\T≠e/\h.get? T=Ze/\h3.get? T=Za { cls:=.type "traceback",dict:=Ze,data:=.fields ts }/\ts[3]?=Za fv
 slot:∀b o,h.get? b=Za o->b≠e->∃sl,h3.get? b=Za { o with slots:=sl }
 keep:∀b o,h.get? b=Za o->b≠e->b∉fs->h3.get? b=Za o
def Fly (L:Zi)(fs:List Zi)(e:Zi)(s s1:Zj):Prop:=s1=s∨∃h',s1={ s with heap:=h' }/\∃fv,Noted fv fs e s.heap h'
def JV (ce:CeT)(X:Cx)(pj:PnT)(ι:List Zi)(H:Hp)(r:SRes)(Q:Flow->Zj->Prop)(E:QvT):Prop :=
 match r with
 | .next σi' h'=>∀s' σ' H' ι',Now ce X pj ι' σi' h' σ' H' s'->Nxt ι H ι' H'->Q .next s'
 | .brk σi' h'=>∀s' σ' H' ι',Now ce X pj ι' σi' h' σ' H' s'->Nxt ι H ι' H'->Q .brk s'
 | .cont σi' h'=>∀s' σ' H' ι',Now ce X pj ι' σi' h' σ' H' s'->Nxt ι H ι' H'->Q .cont s'
 | .ret v h'=>∀u s' σi' σ' H' ι',Now ce X pj ι' σi' h' σ' H' s'->Nxt ι H ι' H'->RU X.K ι' H' v u->Q (.ret u) s'
 | .exc n σi' h'=>∀pl a s' σ' H' ι',Now ce X (pj++pl) ι' σi' h' σ' H' s'->Nxt ι H ι' H'->ι'[n]?=Za a->∀s1,Fly X.env.locals (frs X.stack) a s' s1->E (.ref a) s1
 | .stuck=>False
theorem JV.mono {ce:CeT}{X:Cx}{pj:PnT}{ι ι':List Zi}{H H':Hp}{r:SRes}{Q:Flow->Zj->Prop}{E:QvT}(k:JV ce X pj ι H r Q E)(n:Nxt ι H ι' H'):JV ce X pj ι' H' r Q E:=by
 cases r with
 | next σ h=>exact λ s' σ' H2 ι2 N n2=>k s' σ' H2 ι2 N (n.trans n2)
 | brk σ h=>exact λ s' σ' H2 ι2 N n2=>k s' σ' H2 ι2 N (n.trans n2)
 | cont σ h=>exact λ s' σ' H2 ι2 N n2=>k s' σ' H2 ι2 N (n.trans n2)
 | ret v h=>exact λ u s' σi' σ' H2 ι2 N n2=>k u s' σi' σ' H2 ι2 N (n.trans n2)
 | exc m σ h=>exact λ pl a s' σ' H2 ι2 N n2=>k pl a s' σ' H2 ι2 N (n.trans n2)
 | stuck=>exact k
def PSi (ce:CeT)(X:Cx)(t:Sem Flow)(m:S1):Prop :=
 ∀(pj:PnT)(s:Zj)(σ:L2.St)(H:Hp)(ι:List Zi)(σi:ISt)(h:IH)(Q:Flow->Zj->Prop)(E:QvT),Now ce X pj ι σi h σ H s->JV ce X pj ι H (m σi h) Q E->Zz (ZE X.prog X.w) X.A t Q E s
abbrev PS1 (ce:CeT)(X:Cx)(st:Zbu)(m:S1):Prop:=PSi ce X (exec st X.env) m
abbrev PS2 (ce:CeT)(X:Cx)(sts:List Zbu)(m:S1):Prop:=PSi ce X (execs sts X.env) m
noncomputable def Jy:S1:=λ σ h=>.next σ h
def Je (a b:S1):S1:=λ σ h=>match a σ h with
 | .next σ' h'=>b σ' h'
 | r=>r
noncomputable def Jsi:S1:=λ σ h=>.next σ h
def Jt2:S1:=λ σ h=>.brk σ h
def Jzc:S1:=λ σ h=>.cont σ h
noncomputable def rS {α:Type}(σ:ISt)(r:Res α)(k:α->IH->SRes):SRes:=match r with
 | .ok a h=>k a h
 | .exc n h=>.exc n σ h
 | .stuck=>.stuck
def JK (e:E1):S1:=λ σ h=>rS σ (e σ h) λ _ h'=>.next σ h'
def Jn (e:E1):S1:=λ σ h=>rS σ (e σ h) λ v h'=>.ret v h'
noncomputable def Jv7:S1:=λ _ h=>.ret .non h
def sIf (t:T1)(a b:S1):S1:=λ σ h=>rS σ (t σ h) λ c h'=>if c then a σ h' else b σ h'
def Jk (i:Nat)(e:E1):S1:=λ σ h=>rS σ (e σ h) λ v h'=>.next (σ.set i (Za v)) h'
section
variable {ce:CeT}{X:Cx}{st:Zbu}{rest:List Zbu}{m m1 m2:S1}{e:Expr}{me:E1}{pos:Pos}
theorem krun {α β:Type}{R:REL α β}{t:Sem β}{mm:ISt->IH->Res α}(p:PX ce X R t mm){pj:PnT}{s:Zj}{σ:L2.St}{H:Hp}{ι:List Zi}{σi:ISt}{h:IH}(N:Now ce X pj ι σi h σ H s){g:α->IH->SRes}{Q:Flow->Zj->Prop}{E:QvT}{Q1:β->Zj->Prop}
  (K:JV ce X pj ι H (rS σi (mm σi h) g) Q E)
  (step:∀x h1 u s1 H1 ι1,Now ce X pj ι1 σi h1 σ H1 s1->Nxt ι H ι1 H1->R X.K ι1 H1 x u->JV ce X pj ι1 H1 (g x h1) Q E->Q1 u s1):Zz (ZE X.prog X.w) X.A t Q1 E s:=by
 refine p pj s σ H ι σi h Q1 E N ?_
 cases e:mm σi h with
 | ok v h' =>
  rw[e] at K
  exact λ u s' H' ι' N' n' r=>step v h' u s' H' ι' N' n' r (JV.mono (r:=g v h') K n')
 | exc n h' =>
  rw[e] at K
  exact λ pl a s' H' ι' N' n' q=>K pl a s' σ H' ι' N' n' q s' (.inl rfl)
 | stuck =>
  rw[e] at K
  exact K
theorem Jza:PS2 ce X [] Jy:=λ _ s σ H ι _ _ _ _ N K=>Zcm (K s σ H ι N .refl)
theorem Jv5 (h1:PS1 ce X st m1)(h2:PS2 ce X rest m2):PS2 ce X (st::rest) (Je m1 m2):=by
 intro pj s σ H ι σi h Q E N K
 refine ZdB (h1 pj s σ H ι σi h _ E N ?_)
 unfold Je at K
 cases e:m1 σi h with
 | next σ' h' =>
  rw[e] at K
  exact λ s' σ2 H' ι' N' n'=>h2 pj s' σ2 H' ι' σ' h' Q E N' (JV.mono (r:=m2 σ' h') K n')
 | brk σ' h'=>rw[e] at K;exact K
 | cont σ' h'=>rw[e] at K;exact K
 | ret v h'=>rw[e] at K;exact K
 | exc n σ' h'=>rw[e] at K;exact K
 | stuck=>rw[e] at K;exact K
theorem Jzb (h1:PS1 ce X st m1):PS2 ce X [st] m1:=by
 intro pj s σ H ι σi h Q E N K
 refine ZdB (h1 pj s σ H ι σi h _ E N ?_)
 cases e:m1 σi h with
 | next σ' h' =>
  rw[e] at K
  exact λ s' σ2 H' ι' N' n'=>Zcm (K s' σ2 H' ι' N' n')
 | brk σ' h'=>rw[e] at K;exact K
 | cont σ' h'=>rw[e] at K;exact K
 | ret v h'=>rw[e] at K;exact K
 | exc n σ' h'=>rw[e] at K;exact K
 | stuck=>rw[e] at K;exact K
theorem Jt3:PS1 ce X (.Pass pos) Jsi:=λ _ s σ H ι _ _ _ _ N K=>wpAny_Pass (K s σ H ι N .refl)
theorem Jv8:PS1 ce X (.Break pos) Jt2:=λ _ s σ H ι _ _ _ _ N K=>wpAny_Break (K s σ H ι N .refl)
theorem Jzd:PS1 ce X (.Continue pos) Jzc:=λ _ s σ H ι _ _ _ _ N K=>wpAny_Continue (K s σ H ι N .refl)
theorem Jze (he:PEi ce X e me)(hs:Zcs e Ze pos.line X.env=pure Zc:=by rfl):PS1 ce X (.Expr e pos) (JK me):=λ pj s σ H ι σi h Q E N K =>
 wpAny_Expr_any (krun he N K λ x h1 u s1 H1 ι1 N1 n1 r1 K1=>K1 s1 σ H1 ι1 N1 .refl) N.inv.quiet hs
theorem Jzf (he:PEi ce X e me):PS1 ce X (.Return (Za e) pos) (Jn me):=λ pj s σ H ι σi h Q E N K =>
 wpAny_Return_some (krun he N K λ x h1 u s1 H1 ι1 N1 n1 r1 K1=>K1 u s1 σi σ H1 ι1 N1 .refl r1)
theorem Jzg:PS1 ce X (.Return Ze pos) Jv7:=λ pj s σ H ι σi h Q E N K=>wpAny_Return_none (K .none s σi σ H ι N .refl ⟨.non,rfl,rfl⟩)
theorem s_if {c:Expr}{a b:List Zbu}{mt:T1}(hc:PTi ce X c mt)(ha:PS2 ce X a m1)(hb:PS2 ce X b m2):PS1 ce X (.If c a b pos) (sIf mt m1 m2):=λ pj s σ H ι σi h Q E N K =>
 wpAny_If (krun hc N K λ x h1 u s1 H1 ι1 N1 n1 r1 K1=>by
  have r':u=x:=r1
  subst r'
  cases u with
  | true=>exact ha pj s1 σ H1 ι1 σi h1 Q E N1 K1
  | false=>exact hb pj s1 σ H1 ι1 σi h1 Q E N1 K1)
theorem Jwa {i:Nat}{x:Str}{pos':Pos}(hN:X.N.Nodup)(he:PEi ce X e me)(hi:X.N[i]?=Za x:=by rfl)(hx:Loc X.env.scope x:=by assumption)(hs:Zcs e (Za (.Name x pos')) pos.line X.env=pure Zc:=by rfl)
  (hf:X.fn x=Zh∨X.env.scope.names.lookup x=Za .local:=by assumption):PS1 ce X (.Assign [.Name x pos'] e pos) (Jk i me):=λ pj s σ H ι σi h Q E N K =>
 wpAny_Assign_Name (krun he N K λ v h1 u s1 H1 ι1 N1 n1 r1 K1=>by
  obtain⟨w,rw',q⟩:=r1
  exact Nj N1.inv hN hi hx rw' (λ s2 I2=>K1 s2 _ H1 ι1 ⟨I2,N1.rel,N1.st.set i q⟩ .refl) hf) hs
abbrev G1:=IV->ISt->IH->SRes
def PGi (ce:CeT)(X:Cx)(tg:Expr)(g:G1):Prop :=
 ∀(pj:PnT)(s:Zj)(σ:L2.St)(H:Hp)(ι:List Zi)(σi:ISt)(h:IH)(v:IV)(u:Zg)(Q:Flow->Zj->Prop)(E:QvT),Now ce X pj ι σi h σ H s->RU X.K ι H v u->JV ce X pj ι H (g v σi h) Q E ->
  Zz (ZE X.prog X.w) X.A (Zd1 tg X.env u) (λ _ s'=>Q .next s') E s
noncomputable def gNm (i:Nat):G1:=λ v σ h=>.next (σ.set i (Za v)) h
theorem g_nm {i:Nat}{x:Str}(hN:X.N.Nodup)(hi:X.N[i]?=Za x:=by rfl)(hx:Loc X.env.scope x:=by assumption)(hf:X.fn x=Zh∨X.env.scope.names.lookup x=Za .local:=by assumption):PGi ce X (.Name x pos) (gNm i):=by
 intro pj s σ H ι σi h v u Q E N r K
 obtain⟨w,rw',q⟩:=r
 exact wpAny_assign_Name (Nj N.inv hN hi hx rw' (λ s2 I2=>K s2 _ H ι ⟨I2,N.rel,N.st.set i q⟩ .refl) hf)
def PGsi (ce:CeT)(X:Cx)(ts:List Expr)(g:List IV->ISt->IH->SRes):Prop :=
 ∀(pj:PnT)(s:Zj)(σ:L2.St)(H:Hp)(ι:List Zi)(σi:ISt)(h:IH)(vs:List IV)(us:List Zg)(Q:Flow->Zj->Prop)(E:QvT),Now ce X pj ι σi h σ H s->RUs X.K ι H vs us->JV ce X pj ι H (g vs σi h) Q E ->
  Zz (ZE X.prog X.w) X.A (Zer ((ZaJ ts X.env).map (·.2)) us) (λ _ s'=>Q .next s') E s
noncomputable def gN:List IV->ISt->IH->SRes
 | [],σ,h=>.next σ h
 | _::_,_,_=>.stuck
def gC (g:G1)(r:List IV->ISt->IH->SRes):List IV->ISt->IH->SRes
 | v::vs,σ,h=>match g v σ h with
  | .next σ' h'=>r vs σ' h'
  | .exc n σ' h'=>.exc n σ' h'
  | _=>.stuck
 | [],_,_=>.stuck
theorem Jxj:PGsi ce X [] gN:=by
 intro pj s σ H ι σi h vs us Q E N r K
 cases vs with
 | nil =>
  obtain⟨xs,rv,q⟩:=r
  have e1:xs=[]:=q
  subst e1
  cases rv
  exact assignInOrder_nil (K s σ H ι N .refl)
 | cons v vs=>exact Zf K
theorem Juv {tg:Expr}{ts:List Expr}{g:G1}{r:List IV->ISt->IH->SRes}(h1:PGi ce X tg g)(h2:PGsi ce X ts r)
  (hs:(ZaJ (tg::ts) X.env).map (·.2)=Zd1 tg X.env::(ZaJ ts X.env).map (·.2):=by rfl):PGsi ce X (tg::ts) (gC g r):=by
 intro pj s σ H ι σi h vs us Q E N ru K
 cases vs with
 | nil=>exact Zf K
 | cons v vs =>
  obtain⟨xs,rv,x,xr,e1,q,qs⟩:=ru
  subst e1
  cases rv with
  | cons r1 r2 =>
   rw[hs]
   refine assignInOrder_cons (h1 pj s σ H ι σi h v _ (λ f s'=>Zz (ZE X.prog X.w) X.A (Zer ((ZaJ ts X.env).map (·.2)) _) (λ _ s'=>Q .next s') E s') E N ⟨x,r1,q⟩ ?_)
   have K':JV ce X pj ι H (match g v σi h with|.next σ' h'=>r vs σ' h'|.exc n σ' h'=>.exc n σ' h'|_=>.stuck) Q E:=K
   cases e:g v σi h with
   | next σ' h' =>
    rw[e] at K'
    exact λ s' σ2 H' ι' N' n'=>h2 pj s' σ2 H' ι' σ' h' vs _ Q E N' ⟨xr,r2,RVs.mono n' _ _ qs⟩ (JV.mono (r:=r vs σ' h') K' n')
   | exc n σ' h'=>rw[e] at K';exact K'
   | _=>rw[e] at K';exact(show False from K').elim
def gTp (n:Nat)(g:List IV->ISt->IH->SRes):G1:=λ v σ h=>match v with
 | .tup xs=>if xs.length=n then g xs σ h else .stuck
 | .ref i=>(match h[i]? with
  | some (.lst xs)=>if xs.length=n then g xs σ h else .stuck
  | _=>.stuck)
 | _=>.stuck
theorem J0k {es:List Expr}{k n:Nat}{g:List IV->ISt->IH->SRes}(hc:X.calm=Zh)(hg:PGsi ce X es g)(hn:(ZaJ es X.env).length=n:=by rfl)(hst:(ZaJ es X.env).findIdx? (·.1)=Ze:=by rfl):PGi ce X (.Tuple es k pos) (gTp n g):=by
 intro pj s σ H ι σi h v u Q E N r K
 obtain⟨w,rw',q⟩:=r
 cases v with
 | tup xs =>
  obtain⟨a,vs,e1,sa,ra⟩:=q
  subst e1
  cases rw'
  unfold gTp at K
  dsimp only at K
  split at K
  ·rename_i hl
   obtain⟨its,rv,ht,hz⟩:=N.inv.tuple sa
   have l1:=ra.length
   have l2:=rv.length
   refine assign_Tuple_tuple (N.inv.ok.hd hc) ht (by simp only[Z5];omega) hst λ h' hx=>?_
   have I1:Inv X pj σ H { s with heap:=h' }:=N.inv.kept (t':=s.toks) λ b o e=>hx b o (ZK (Z4 e)) e
   exact hg pj _ σ H ι σi h xs _ Q E ⟨I1,N.rel,N.st⟩ ⟨vs,by simpa using rv,ra⟩ K
  ·exact Zf K
 | ref i =>
  obtain⟨a,e1,ha⟩:=q
  subst e1
  cases rw'
  unfold gTp at K
  dsimp only at K
  cases hi:h[i]? with
  | none=>rw[hi] at K;exact Zf K
  | some ob =>
   rw[hi] at K
   cases ob with
   | lst xs =>
    dsimp only at K
    split at K
    ·rename_i hl
     obtain⟨vs,g1,ra⟩:=N.at hi ha
     obtain⟨its,rv,ht,hz⟩:=N.inv.list (SqL.of g1)
     have l1:=ra.length
     have l2:=rv.length
     refine Jgb (N.inv.ok.hd hc) ht.isList (by simp only[Z5];omega) hst λ h' hx=>?_
     have I1:Inv X pj σ H { s with heap:=h' }:=N.inv.kept (t':=s.toks) λ b o e=>hx b o (ZK (Z4 e)) e
     exact hg pj _ σ H ι σi h xs _ Q E ⟨I1,N.rel,N.st⟩ ⟨vs,by simpa using rv,ra⟩ K
    ·exact Zf K
   | _=>exact Zf K
 | _=>exact Zf K
def sAsg (e:E1)(g:G1):S1:=λ σ h=>rS σ (e σ h) λ v h'=>g v σ h'
theorem J1h {tg:Expr}{g:G1}(he:PEi ce X e me)(hg:PGi ce X tg g)(hs:swapsWithSole [tg] e pos.line X.env=pure Zc:=by rfl)(hw:swappedStores [tg] e X.env=pure Ze:=by rfl)
  (h1:(ZaJ [tg] X.env).map (·.2)=[Zd1 tg X.env]:=by rfl):PS1 ce X (.Assign [tg] e pos) (sAsg me g):=λ pj s σ H ι σi h Q E N K =>
 wpAny_Assign_stores (krun he N K λ v h2 u s1 H1 ι1 N1 n1 r1 K1=>by
  rw[h1]
  exact hg pj s1 σ H1 ι1 σi h2 v u Q E N1 r1 K1) hs hw
end
theorem ExF.ok {P:ZG}{w:ZX}{H:Hp}{h:Zak}{a C:Zi}{tv:Zg}{dd:Option Zi}{oe:Obj}{vs:Array Zg}(e:h.get? a=Za oe)(c:oe.cls=.ref C)(d:oe.data=.fields vs)(v:vs[1]?=Za tv)(v2:vs[2]?=Za .none)(v3:oe.dict=dd):Qa P w H h a (ExF a C tv dd) :=
 ⟨⟨oe,vs,e,c,d,v,v2,v3⟩,⟨oe,e⟩,λ _ _ ⟨o,us,e1,r⟩ k=>⟨o,us,k _ e1,r⟩⟩
theorem ExF.get {P:ZG}{w:ZX}{H:Hp}{h:Zak}{a C:Zi}{tv:Zg}{d:Option Zi}(x:HOk P w H h)(e:H a=Za (ExF a C tv d)):∃oe vs,h.get? a=Za oe/\oe.cls=.ref C/\oe.data=.fields vs/\vs[1]?=Za tv/\vs[2]?=Za .none/\oe.dict=d :=
 (x a _ e).1
theorem Joz (o:Obj)(f:Array Zg->Array Zg):(o.mapFields f).dict=o.dict:=by
 unfold Zaq
 split<;>rfl
theorem Jrk {P:ZG}{w:ZX}{H:Hp}{h:Zak}{a C C':Zi}{tv tv':Zg}{d d':Option Zi}(x:HOk P w H h)(e1:H a=Za (ExF a C tv d))(e2:H a=Za (ExF a C' tv' d')):d=d':=by
 obtain⟨o,_,g,_,_,_,_,q⟩:=ExF.get x e1
 obtain⟨o',_,g',_,_,_,_,q'⟩:=ExF.get x e2
 cases g.symm.trans g'
 exact q.symm.trans q'
theorem Jtx {P:ZG}{w:ZX}{H:Hp}{h:Zak}{a:Zi}:∀{o:HO},Qa P w H h a o->∃u,h.get? a=Za u:=λ {o} q=>by
 cases o with
 | lst _=>obtain⟨_,_,_,_,e⟩:=q;exact⟨_,e⟩
 | tup _=>obtain⟨_,_,_,⟨_,e,_⟩⟩:=q;exact⟨_,e⟩
 | dK _=>obtain⟨_,_,_,_,o,_,_,e,_⟩:=q;exact⟨o,e⟩
 | dT _=>obtain⟨_,_,_,_,o,_,_,e,_⟩:=q;exact⟨o,e⟩
 | set _ _=>obtain⟨o,_,_,_,e,_⟩:=q;exact⟨o,e⟩
 | ins _ _ _=>obtain⟨_,_,_,e,_⟩:=q;exact⟨_,e⟩
 | own _=>obtain⟨_,e⟩:=q;exact⟨_,e⟩
 | xd _=>obtain⟨_,⟨_,_,_,e,_⟩,_⟩:=q;exact⟨_,e⟩
 | rng _ _=>obtain⟨_,_,_,e⟩:=q;exact⟨_,e⟩
 | frz _ _=>obtain⟨e,_⟩:=q;exact⟨_,e⟩
 | tbl _=>exact⟨_,(show h.get? a=Za _ from q)⟩
 | met _ _=>exact⟨_,(show h.get? a=Za _ from q)⟩
 | ext _=>obtain⟨_,⟨_,e⟩,_⟩:=q;exact⟨_,e⟩
theorem Jqt {h:Zak}{T:Zi}{oT:Obj}{ts:Array Zg}{v:Zg}(e:h.get? T=Za oT)(d:oT.data=.fields ts)(q:ts[3]?=Za v):(h.update T (Zaq (·.setIfInBounds 3 v))).get? T=Za oT:=by
 have es:ts.setIfInBounds 3 v=ts:=by
  refine Array.ext (by simp) λ i h1 h2=>?_
  rw[Array.getElem_setIfInBounds]
  split
  ·rename_i z
   subst z
   rw[Zdq h2] at q
   exact(Zaw q).symm
  ·rfl
 have eo:Zaq (·.setIfInBounds 3 v) oT=oT:=by
  obtain⟨c,dd,dt,sl⟩:=oT
  have d:dt=.fields ts:=d
  subst d
  simp only[Zaq,es]
 rw[Za0 _ e (by rw[eo];exact ZaY d),eo]
section
variable {X:Cx}{pj:PnT}{σ:L2.St}{H:Hp}{s:Zj}{M:Model}{E:QvT}{Q:Unit->Zj->Prop}{a C:Zi}{tv:Zg}{d:Option Zi}{h3:Zak}{s1:Zj}
structure Past (X:Cx)(H:Hp)(h:Zak)(a C:Zi)(d:Option Zi)(T:Zi)(oT:Obj)(h':Zak):Prop where
 new:H T=Ze
 ne:T≠a
 fld:∃ts,oT.data=.fields ts/\ts[3]?=Za .none
 un:Un (frs X.stack) [] H (upd (upd H T (.frz oT (.own 0))) a (ExF a C (.ref T) d)) h h'
 hok:HOk X.prog X.w (upd (upd H T (.frz oT (.own 0))) a (ExF a C (.ref T) d)) h'
theorem Jlw (I:Inv X pj σ H s)(hs:X.stack=X.env::X.outer)(hf:X.env.frame=Za X.env.locals)(ha:H a=Za (ExF a C tv d)){h:Zak}{oe oa:Obj}{vs va:Array Zg}(e1:s.heap.get? a=Za oe)(e3:oe.data=.fields vs)(len1:1<vs.size)
  (ea:h.get? a=Za oa)(da:oa.data=.fields va)(la:1<va.size)(mp:∀x,Zaq (·.setIfInBounds 1 x) oa=Zaq (·.setIfInBounds 1 x) oe)
  (sl:∀b o,s.heap.get? b=Za o->b≠a->∃sl,h.get? b=Za { o with slots:=sl })(kp:∀b o,s.heap.get? b=Za o->b≠a->b∉frs X.stack->h.get? b=Za o){head:Zg}{hn:Bool}
  (k:∀h3,Noted (Zbq X.env.locals) (frs X.stack) a s.heap h3->Q () { s with heap:=h3 }) :
  Zz M X.A (do let f<-frameOf X.env;let pl<-entryPlaceOf X.env.locals hn;let b<-EntryCells.newEntry head f .none (Zbq X.env.locals) .none pl;setField (.ref a) 1 b) Q E { s with heap:=h }:=by
 have hfa:a∉frs X.stack:=λ z=>by rw[I.stkFree a z] at ha;cases ha
 have fr:=I.ok.frames
 have ff:s.heap.FunFrames X.base X.stack:=I.stack
 have ffh:h.FunFrames X.base X.stack:=ff.of_keeps λ b o q nf=>let ⟨s',z⟩:=sl b o q (λ y=>by subst y;rw[e1] at q;cases q;exact nf _ e3);⟨_,z,rfl⟩
 rw[hs] at fr ffh
 refine Zk (wpAny_frameOf_fun (s:={ s with heap:=h }) fr ffh hf λ h1 so=>?_)
 have he1:h1.get? a=Za oa:=(so.2.1 a (by rw[hs] at hfa;exact hfa)).trans ea
 refine Zk (wpAny_entryPlaceOf λ pl hpl=>?_)
 unfold EntryCells.newEntry newFields
 refine Zk (Zb3 ?_ (hpl.sizeOk5 _ _ _ _ _))
 have t3:([head,ZaZ X.env.locals,Zag,Zbq X.env.locals,Zag]++(if pl.isEmpty then Zac 6 Zag else pl)).toArray[3]?=Za (Zbq X.env.locals):=by simp
 generalize ([head,ZaZ X.env.locals,Zag,Zbq X.env.locals,Zag]++(if pl.isEmpty then Zac 6 Zag else pl)).toArray=ts at t3 ⊢
 have lt2:∀b o,h1.get? b=Za o->b≠h1.objs.size:=λ b o q=>ZK (Z4 q)
 have nT:h1.objs.size≠a:=Zao (lt2 a _ he1)
 have up2:∀b o,h1.get? b=Za o->(h1.push { cls:=.type "traceback",dict:=Ze,data:=.fields ts }).get? b=Za o:=λ b o q=>Zm _ q
 have gT2:(h1.push { cls:=.type "traceback",dict:=Ze,data:=.fields ts }).get? h1.objs.size=Za { cls:=.type "traceback",dict:=Ze,data:=.fields ts }:=Z8 h1 rfl
 have sl1:∀b o,s.heap.get? b=Za o->b≠a->∃sl,h1.get? b=Za { o with slots:=sl }:=λ b o q n=>let ⟨_,z⟩:=sl b o q n;let ⟨s',y⟩:=so.2.2 _ _ z;⟨s',y⟩
 refine Zbe (up2 _ _ he1) da la (k _ ⟨⟨oe,vs,h1.objs.size,ts,e1,e3,len1,(Za0 _ (up2 _ _ he1) (ZaY (Zaj da _))).trans (by rw[mp]),nT,?_,(Z2 _ _ (Zao nT)).trans gT2,t3⟩,λ b o q n=>?_,λ b o q n m=>?_⟩)
 ·cases q:s.heap.get? h1.objs.size with
  | none=>rfl
  | some o =>
   obtain⟨s',z⟩:=sl1 _ o q nT
   exact absurd rfl (lt2 _ _ z)
 ·obtain⟨s',z⟩:=sl1 b o q n
  exact⟨s',(Z2 _ _ (Zao n)).trans (up2 _ _ z)⟩
 ·exact(Z2 _ _ (Zao n)).trans (up2 _ _ ((so.2.1 b (by rw[hs] at m;exact m)).trans (kp b o q n m)))
theorem Jjb (I:Inv X pj σ H s)(hs:X.stack=X.env::X.outer)(hf:X.env.frame=Za X.env.locals)(ha:H a=Za (ExF a C tv d))(ht:TvOk H tv)
  (k:∀h3,Noted (Zbq X.env.locals) (frs X.stack) a s.heap h3->Q () { s with heap:=h3 }):Zz M X.A (Zda (.ref a) X.env) Q E s:=by
 obtain⟨oe,vs,e1,e2,e3,e4,e5,e6⟩:=ExF.get I.hok ha
 have len1:1<vs.size:=(ZaC.mp e4).1
 unfold Zda
 rw[hf]
 refine Zk (ZaD e1 e3 e4 ?_)
 rcases ht with rfl|⟨T,oT,ts,rfl,q1,q2,q3⟩
 ·rw[if_neg (by decide)]
  exact Jlw I hs hf ha e1 e3 len1 e1 e3 len1 (λ _=>rfl) (λ b o q _=>⟨o.slots,q⟩) (λ b o q _ _=>q) k
 ·have gT:s.heap.get? T=Za oT:=(I.hok T _ q1).1
  rw[if_pos (by simp)]
  refine Zk (ZaD gT q2 q3 ?_)
  rw[if_neg (by simp[Zbq])]
  refine Zk (Zbe gT q2 (ZaC.mp q3).1 ?_)
  have hh:∀b,(s.heap.update T (Zaq (·.setIfInBounds 3 .none))).get? b=s.heap.get? b:=λ b=>by
   by_cases z:b=T
   ·subst z
    exact(Jqt gT q2 q3).trans gT.symm
   ·exact Z2 _ _ (Zao z)
  exact Jlw I hs hf ha e1 e3 len1 ((hh a).trans e1) e3 len1 (λ _=>rfl) (λ b o q _=>⟨o.slots,(hh b).trans q⟩) (λ b o q _ _=>(hh b).trans q) k
theorem Jib {A:ZO}{fr:Option Zi}{fv:Zg}{fs:List Zi}{h:Zak}(n:Noted fv fs a h h3)(k:∀h4,Noted (fr.elim .none λ f=>Zbq f) fs a h h4->Q () { s with heap:=h4 }):Zz M A (Zdb (.ref a) fr) Q E { s with heap:=h3 }:=by
 obtain⟨⟨oe,vs,T,ts,g1,g2,g3,g4,g5,g6,g7,g8⟩,sl,kp⟩:=n
 have tz:3<ts.size:=(ZaC.mp g8).1
 have lt:∀b o,h.get? b=Za o->T≠b:=λ b o q z=>by rw[z,q] at g6;cases g6
 unfold Zdb
 refine Zk (ZaD (x:=.ref T) g4 (Zaj g2 _) (by simp[g3]) ?_)
 rw[if_pos (by simp)]
 refine Zbe g7 rfl tz ?_
 exact k _ ⟨⟨oe,vs,T,ts.setIfInBounds 3 (fr.elim .none λ f=>Zbq f),g1,g2,g3,(Z2 _ _ g5).trans g4,g5,g6,Za0 _ g7 (ZaY (Zaj rfl _)),by simp[tz]⟩,
  λ b o q m=>let ⟨s',z⟩:=sl b o q m;⟨s',(Z2 _ _ (lt b o q)).trans z⟩,λ b o q m m'=>(Z2 _ _ (lt b o q)).trans (kp b o q m m')⟩
theorem Jho {fv:Zg}(I:Inv X pj σ H s)(hs:X.stack=X.env::X.outer)(hf:X.env.frame=Za X.env.locals)(ha:H a=Za (ExF a C tv d))(n:Noted fv (frs X.stack) a s.heap h3)
  (k:∀h4,Noted (Zbq X.env.locals) (frs X.stack) a s.heap h4->Q () { s with heap:=h4 }):Zz M X.A (Zda (.ref a) X.env) Q E { s with heap:=h3 }:=by
 obtain⟨⟨oe,vs,T,ts,g1,g2,g3,g4,g5,g6,g7,g8⟩,sl,kp⟩:=n
 unfold Zda
 rw[hf]
 refine Zk (ZaD (x:=.ref T) g4 (Zaj g2 _) (by simp[g3]) ?_)
 rw[if_pos (by simp)]
 refine Zk (ZaD g7 rfl g8 ?_)
 by_cases z:fv=Zbq X.env.locals
 ·subst z
  rw[if_pos (by simp)]
  exact ZM (k _ ⟨⟨oe,vs,T,ts,g1,g2,g3,g4,g5,g6,g7,g8⟩,sl,kp⟩)
 ·rw[if_neg (by simpa using z)]
  refine Zk (Zbe g7 rfl (ZaC.mp g8).1 ?_)
  have lt:∀b o,s.heap.get? b=Za o->T≠b:=λ b o q z=>by rw[z,q] at g6;cases g6
  refine Jlw I hs hf ha g1 g2 g3 ((Z2 _ _ g5).trans g4) (Zaj g2 _) (by simpa using g3) (λ x=>?_) (λ b o q m=>let ⟨s',z⟩:=sl b o q m;⟨s',(Z2 _ _ (lt b o q)).trans z⟩) (λ b o q m m'=>(Z2 _ _ (lt b o q)).trans (kp b o q m m')) k
  obtain⟨c,dd,dt,ss⟩:=oe
  have g2:dt=.fields vs:=g2
  subst g2
  simp only[Zaq]
  congr 2
  exact Array.setIfInBounds_setIfInBounds ..
theorem Jnx {A:ZO}{env:Env}{fv:Zg}{fs:List Zi}{h:Zak}(hf:env.frame=Za env.locals)(n:Noted fv fs a h h3)(k:∀h4,Noted (Zbq env.locals) fs a h h4->E (.ref a) { s with heap:=h4 }):cameBackBy M A env E (.ref a) { s with heap:=h3 }:=by
 obtain⟨oe,vs,T,ts,g1,g2,g3,g4,g5,g6,g7,g8⟩:=n.ex
 unfold cameBackBy
 refine Zk (ZaD (x:=.ref T) g4 (Zaj g2 _) (by simp[g3]) ?_)
 rw[if_neg (by simp)]
 rw[hf]
 exact Jib n k
theorem Jy1 {A:ZO}{α:Type}{R:α->Zj->Prop}{w:String}{env:Env}{fv:Zg}{fs:List Zi}{h:Zak}(n:Noted fv fs a h h3)(k:∀v h4,Noted v fs a h h4->E (.ref a) { s with heap:=h4 }):Zz M A (PySem.passOn w (.ref a) env:Sem α) R E { s with heap:=h3 }:=by
 obtain⟨oe,vs,T,ts,g1,g2,g3,g4,g5,g6,g7,g8⟩:=n.ex
 unfold PySem.passOn
 refine Zk (ZaD (x:=.ref T) g4 (Zaj g2 _) (by simp[g3]) ?_)
 rw[if_neg (by simp)]
 exact Zk (Jib n λ h4 n4=>wpAny_throw (k _ h4 n4))
theorem Jik {fv:Zg}(I:Inv X pj σ H s)(ha:H a=Za (ExF a C tv d))(n:Noted fv (frs X.stack) a s.heap h3)(k:∀T oT h',Past X H s.heap a C d T oT h'->Q () { s with heap:=h' }):Zz M X.A (Zdb (.ref a) Ze) Q E { s with heap:=h3 }:=by
 obtain⟨⟨oe,vs,T,ts,g1,g2,g3,g4,g5,nT,g7,g8⟩,sl,kp⟩:=n
 obtain⟨oe',vs',x1,x2,x3,x4,x5,x6⟩:=ExF.get I.hok ha
 rw[g1] at x1
 cases x1
 rw[g2] at x3
 cases x3
 have hok:=I.hok
 have hfr:∀b∈frs X.stack,H b=Ze:=I.stkFree
 have hT:H T=Ze:=by
  cases q:H T with
  | none=>rfl
  | some u =>
   obtain⟨o,z⟩:=Jtx (hok T u q)
   rw[nT] at z
   cases z
 have tz:3<ts.size:=(ZaC.mp g8).1
 unfold Zdb
 refine Zk (ZaD (x:=.ref T) g4 (Zaj g2 _) (by simp[g3]) ?_)
 rw[if_pos (by simp)]
 refine Zbe g7 rfl tz ?_
 have e1:=(Z2 h3 (Zaq (·.setIfInBounds 3 ((Ze:Option Zi).elim Zag λ f=>Zbq f))) g5).trans g4
 have e7:=Za0 (Zaq (·.setIfInBounds 3 ((Ze:Option Zi).elim Zag λ f=>Zbq f))) g7 (ZaY (Zaj rfl _))
 have d7:=Zaj (o:={ cls:=.type "traceback",dict:=Ze,data:=.fields ts }) rfl (·.setIfInBounds 3 ((Ze:Option Zi).elim Zag λ f=>Zbq f))
 have lt:∀b o,s.heap.get? b=Za o->T≠b:=λ b o q z=>by rw[z,q] at nT;cases nT
 have keep:∀b o,s.heap.get? b=Za o->b≠a->b∉frs X.stack->(h3.update T (Zaq (·.setIfInBounds 3 ((Ze:Option Zi).elim Zag λ f=>Zbq f)))).get? b=Za o:=λ b o q n1 n2=>(Z2 _ _ (lt b o q)).trans (kp b o q n1 n2)
 have slot:∀b o,s.heap.get? b=Za o->b≠a->∃sl,(h3.update T (Zaq (·.setIfInBounds 3 ((Ze:Option Zi).elim Zag λ f=>Zbq f)))).get? b=Za { o with slots:=sl }:=λ b o q n1=>let ⟨s',z⟩:=sl b o q n1;⟨s',(Z2 _ _ (lt b o q)).trans z⟩
 generalize h3.update T (Zaq (·.setIfInBounds 3 ((Ze:Option Zi).elim Zag λ f=>Zbq f)))=h' at e1 e7 keep slot
 generalize Zaq (·.setIfInBounds 3 ((Ze:Option Zi).elim Zag λ f=>Zbq f)) { cls:=.type "traceback",dict:=Ze,data:=.fields ts }=oT at e7 d7
 have na:∀{b:Zi}{u:HO},H b=Za u->(∀φ,u≠.ext φ)->b≠a:=λ {b u} q n z=>by
  subst z
  rw[ha] at q
  cases q
  exact n _ rfl
 have nTb:∀{b:Zi}{u:HO},H b=Za u->b≠T:=λ {b u} q z=>by
  subst z
  rw[hT] at q
  cases q
 have up:∀{b:Zi}{u:HO},H b=Za u->(∀φ,u≠.ext φ)->upd (upd H T (.frz oT (.own 0))) a (ExF a C (.ref T) d) b=Za u:=λ {b u} q n=>by
  rw[Jo (na q n),Jo (nTb q)]
  exact q
 have fa:a∉frs X.stack:=λ z=>by rw[hfr a z] at ha;cases ha
 refine k T oT h' ⟨hT,g5,⟨_,d7,by simp[tz]⟩,⟨λ b o q n hb _=>keep b o q (λ z=>by subst z;rw[ha] at n;cases n) hb,λ b o q _ hb _=>slot b o q (λ z=>fa (z▸hb)),λ b o q n _=>?_,λ b o q _=>?_,λ b xs q=>up q nofun,λ b o u q=>up q nofun,λ b ps q=>⟨#[],by rw[up q nofun];simp⟩⟩,λ b u q=>?_⟩
 ·rw[Jo (λ z=>by subst z;rw[ha] at n;cases n),Jo (λ z=>by subst z;rw[nT] at q;cases q)]
  exact n
 ·by_cases z:b=a
  ·subst z
   exact⟨_,e1⟩
  ·obtain⟨sl,w⟩:=slot b o q z
   exact⟨_,w⟩
 ·by_cases z:b=a
  ·subst z
   rw[J2] at q
   cases q
   exact ExF.ok e1 ((Zdu _ _).trans x2) (Zaj g2 _) (by simp[g3]) (by rw[Array.getElem?_setIfInBounds_ne (by decide)];exact x5) ((Joz _ _).trans x6)
  ·rw[Jo z] at q
   by_cases y:b=T
   ·subst y
    rw[J2] at q
    cases q
    exact⟨e7,⟨oT,e7⟩⟩
   ·rw[Jo y] at q
    refine(hok b u q).stay (λ c v hc p=>?_) (λ c p=>up p nofun) λ c xs p=>up p nofun
    refine keep c v p ?_ ?_
    ·rcases hc with rfl|hc
     ·exact z
     ·exact na hc nofun
    ·intro m
     rcases hc with rfl|hc
     ·rw[hfr _ m] at q;cases q
     ·rw[hfr _ m] at hc;cases hc
theorem Jmw (I:Inv X pj σ H s)(fl:Fly X.env.locals (frs X.stack) a s s1)(hs:X.stack=X.env::X.outer)(hf:X.env.frame=Za X.env.locals)(ha:H a=Za (ExF a C tv d))(ht:TvOk H tv)
  (k:∀T oT h',Past X H s.heap a C d T oT h'->Q () { s with heap:=h' }):Zz M X.A (Zda (.ref a) X.env) (λ _ s'=>Zz M X.A (Zdb (.ref a) Ze) Q E s') E s1:=by
 rcases fl with rfl|⟨h',rfl,v,n⟩
 ·exact Jjb I hs hf ha ht λ h3 n=>Jik I ha n k
 ·exact Jho I hs hf ha n λ h4 n4=>Jik I ha n4 k
theorem Jpx (I:Inv X pj σ H s)(fl:Fly X.env.locals (frs X.stack) a s s1)(hs:X.stack=X.env::X.outer)(hf:X.env.frame=Za X.env.locals)(ha:H a=Za (ExF a C tv d))(ht:TvOk H tv)
  (k:∀T oT h',Past X H s.heap a C d T oT h'->Q () { s with heap:=h' }):Zz M X.A (leaving X.env (.ref a)) Q E s1:=by
 unfold leaving
 exact Zk (Jmw I fl hs hf ha ht k)
end
def CXI (P:ZG)(w:ZX):CXT:=λ outer H s E e s'=>∃H',s'.os=s.os/\ZcU s'.gens/\Un (frs outer) [] H H' s.heap s'.heap/\HOk P w H' s'.heap/\E e Ze H'
theorem Un.tail {L:Zi}{fs:List Zi}{H H1 H2:Hp}{h h1 h2:Zak}(a:Un fs [] H H1 h h1)(b:Un (L::fs) [] H1 H2 h1 h2)(n:h.get? L=Ze):Un fs [] H H2 h h2 where
 keep:=λ c o q m hc _=>b.keep c o (a.keep c o q m hc (by simp)) (a.free c o q m (by simp)) (λ z=>(Zt.mp z).elim (λ y=>by subst y;rw[n] at q;cases q) hc) (by simp)
 slot:=λ c o q m hc _=>by
  obtain⟨sl,e1⟩:=a.slot c o q m hc (by simp)
  obtain⟨sl',e2⟩:=b.any e1 (a.free c o q m (by simp)) (by simp)
  exact⟨sl',e2⟩
 free:=λ c o q m _=>by
  obtain⟨o',e1⟩:=a.there c o q (by simp)
  exact b.free c o' e1 (a.free c o q m (by simp)) (by simp)
 there:=λ c o q _=>by
  obtain⟨o',e1⟩:=a.there c o q (by simp)
  exact b.there c o' e1 (by simp)
 tups:=λ c xs q=>b.tups c xs (a.tups c xs q)
 frzs:=λ c o u q=>b.frzs c o u (a.frzs c o u q)
 tbls:=λ c ps q=>by
  obtain⟨m1,e1⟩:=a.tbls c ps q
  obtain⟨m2,e2⟩:=b.tbls c _ e1
  exact⟨m1++m2,by rw[e2,Zde]⟩
section
variable {X:Cx}{pj:PnT}{σ:L2.St}{H:Hp}{s:Zj}{k:Nat}{f C:Zi}{fd:Zax}{ps:List Str}{sp:Sp}{dvs:List V}{ds:List Zg}{E:XK}{Q:VK}{us:List Zg}{vs:List V}{W:QvT}
theorem Jt5 {e:Zg}{s':Zj}(I:Inv X pj σ H s)(h:CXI X.prog X.w X.stack H s E e s'):∃H',Inv X pj σ H' s'/\E e Ze H':=by
 obtain⟨H',os,bare,un,hok,q⟩:=h
 exact⟨H',I.call' os un hok bare λ b z=>absurd z (by simp),q⟩
theorem Jv4 (F:FnOk X.prog X.w X.K X.mg X.base (CXI X.prog X.w) k f fd ps sp)(hr:Room k X.A)(hb:Q2 X.K fd ps ds)(hd:Vals dvs ds)(I:Inv X pj σ H s)(r:Vals vs us)(h:sp (vs++dvs) H Q E)
  (hx:∀e s' H',Inv X pj σ H' s'->E e Ze H'->W e s'):Zz (ZE X.prog X.w) X.A (call (.ref f) us) (EP X pj σ Q) W s:=by
 have ra:Vals (vs++dvs) (us++ds):=r.append hd
 have la:=ra.length
 have lf:=F.len _ _ _ _ h
 refine Zey (Zcb (F.run _ _ _ _ ⟨us,[]⟩ _ _ _ _ hr I.env0 (hb s us I.kIn (by omega)) ra h) λ res s' q=>?_)
 match res,q with
 | .error e,q =>
  obtain⟨H',I',z⟩:=Jt5 I q
  exact hx e s' H' I' z
 | .ok (.ret u),q=>exact I.after q
 | .ok .next,q=>exact ZaP q
 | .ok .brk,q=>exact ZaP q
 | .ok .cont,q=>exact ZaP q
theorem Jqj (M:Mk X.K C f)(F:FnOk X.prog X.w X.K X.mg X.base (CXI X.prog X.w) k f fd ps sp)(hr:Room (k+1) X.A)(hb:Q2 X.K fd ps ds)(hd:Vals dvs ds)(I:Inv X pj σ H s)(r:Vals vs us)
  (h:∀x dx,H x=Ze->H dx=Ze->dx≠x->sp (.ref x::(vs++dvs)) (upd (upd H dx (.own x)) x (.ins C dx [])) (λ v H2=>v=.non/\Q (.ref x) H2) E)
  (hx:∀e s' H',Inv X pj σ H' s'->E e Ze H'->W e s'):Zz (ZE X.prog X.w) X.A (call (.ref C) us) (EP X pj σ Q) W s:=by
 have z0:=s.heap.objs.size
 have hq:=h (s.heap.objs.size+1) s.heap.objs.size (I.hok.fresh (ZbJ _)) (I.hok.fresh (Zu _)) (ZK (Zbv _))
 have J:=Inv.made (C:=C) I
 have ra:Vals (V.ref (s.heap.objs.size+1)::(vs++dvs)) (ZaZ (s.heap.objs.size+1)::(us++ds)):=.cons rfl (r.append hd)
 have la:=ra.length
 have lf:=F.len _ _ _ _ hq
 have hl:(ZaZ (s.heap.objs.size+1)::us++ds).length=ps.length:=by
  rw[Za3]
  omega
 refine Zey (Jr8 (f:=f) I.kIn M.makes M.init (beq_iff_eq.mp M.fn) (Zcb (F.run _ _ _ _ ⟨.ref (s.heap.objs.size+1)::us,[]⟩ _ _ _ _ (hr.make C us []) (J.env0.make C us []) (hb _ (.ref (s.heap.objs.size+1)::us) J.kIn hl) ra hq) λ res s' q=>?_))
 match res,q with
 | .error e,q =>
  obtain⟨H',I',z⟩:=Jt5 J q
  exact hx e s' H' I' z
 | .ok (.ret u),q =>
  obtain⟨v,H',J3,rv,ev,q3⟩:=J.after q
  subst ev
  exact⟨rv,⟨V.ref (s.heap.objs.size+1),H',J3,rfl,q3⟩⟩
 | .ok .next,q=>exact ZaP q
 | .ok .brk,q=>exact ZaP q
 | .ok .cont,q=>exact ZaP q
end
structure ItI where
 xs:List IV
 chk:IH->Prop
open Classical in
def Qf (chk:IH->Prop)(g:G1)(b:S1):List IV->ISt->IH->SRes
 | [],σ,h=>if chk h then .next σ h else .stuck
 | x::xs,σ,h=>if chk h then(match g x σ h with
   | .next σ1 h1=>(match b σ1 h1 with
    | .next σ2 h2=>Qf chk g b xs σ2 h2
    | .cont σ2 h2=>Qf chk g b xs σ2 h2
    | .brk σ2 h2=>.next σ2 h2
    | .ret v h2=>.ret v h2
    | .exc n σ2 h2=>(match h2[n]? with
     | some (.exc _ _)=>.exc n σ2 h2
     | _=>.stuck)
    | _=>.stuck)
   | _=>.stuck) else .stuck
abbrev I1:=ISt->IH->Res ItI
def sFor (it:I1)(g:G1)(b:S1):S1:=λ σ h=>rS σ (it σ h) λ J h'=>Qf J.chk g b J.xs σ h'
structure ItOk (ce:CeT)(K:W.Frag)(ι:List Zi)(H₀:Hp)(J:It)(I:ItI):Prop where
 go:∀(k:Nat)(x:IV)(h:IH)(H:Hp)(ι':List Zi),Nxt ι H₀ ι' H->Rel ce K ι' h H->I.chk h->I.xs[k]?=Za x ->
  J.go k H/\∀y H',J.yld k H y H'->Rel ce K ι' h H'/\Nxt ι' H ι' H'/\RV K ι' H' x y
 stop:∀(k:Nat)(h:IH)(H:Hp)(ι':List Zi),Nxt ι H₀ ι' H->Rel ce K ι' h H->I.chk h->I.xs.length<=k->J.stop k H
theorem Rel.get {ce:CeT}{K:W.Frag}{ι:List Zi}{h:IH}{H:Hp}(R:Rel ce K ι h H){i:Nat}{o:IX}(e:h[i]?=Za o){a:Zi}(ha:ι[i]?=Za a):RO ce K ι H a o:=by
 obtain⟨b,e1,r⟩:=R.at_ i o e
 rw[ha] at e1
 cases e1
 exact r
def RIt (ce:CeT)(X:Cx)(tg:Expr)(pj:PnT)(ι':List Zi)(I:ItI)(itv:Zg)(s2:Zj)(H':Hp):Prop :=
 ∃(it:Zi)(fp:List Zi)(tn:Nat->Zak->Prop)(J:It),itv=.ref it/\Turn X.prog X.w X.K tg J fp it tn/\tn 0 s2.heap/\(∀b∈fp,FpOk X pj H' b)/\ItOk ce X.K ι' H' J I
def PIi (ce:CeT)(X:Cx)(tg iter:Expr)(m:I1):Prop :=
 ∀(pj:PnT)(s:Zj)(σ:L2.St)(H:Hp)(ι:List Zi)(σi:ISt)(h:IH)(Q:QvT)(E:QvT),Now ce X pj ι σi h σ H s ->
  (match m σi h with
   | .ok I h'=>∀itv s' H' ι',Now ce X pj ι' σi h' σ H' s'->Nxt ι H ι' H'->RIt ce X tg pj ι' I itv s' H'->Q itv s'
   | .exc n h'=>∀pl a s' H' ι',Now ce X (pj++pl) ι' σi h' σ H' s'->Nxt ι H ι' H'->ι'[n]?=Za a->E (.ref a) s'
   | .stuck=>False) ->
  Zz (ZE X.prog X.w) X.A (ZaV iter X.env) (λ v s1=>Zz (ZE X.prog X.w) X.A (Zex v) Q E s1) E s
section
variable {ce:CeT}{X:Cx}
theorem nof {M:Model}{A:ZO}{α:Type}{t:Sem α}{Q:α->Zj->Prop}{E:QvT}{s:Zj}(h:Zz M A t Q (λ _ _=>False) s):Zz M A t Q E s:=Zan h (λ _ _ x=>x) λ _ _ z=>z.elim
theorem Now.pins {pj:PnT}{pl:PnT}{ι:List Zi}{σi:ISt}{h:IH}{σ:L2.St}{H:Hp}{s:Zj}(N:Now ce X (pj++pl) ι σi h σ H s):Now ce X pj ι σi h σ H s:=⟨N.inv.unpinned,N.rel,N.st⟩
theorem J1j {tg iter:Expr}{body:List Zbu}{mi:I1}{g:G1}{mb:S1}{pos:Pos}(hc:X.calm=Zh)(hst:X.stack=X.env::X.outer)(hf:X.env.frame=Za X.env.locals)(hi:PIi ce X tg iter mi)(hg:PGi ce X tg g)(hb:PS2 ce X body mb)
  (hs:∀x,Zbh iter X.env x=pure x:=by intro _;rfl):PS1 ce X (.For tg iter body [] pos) (sFor mi g mb):=by
 intro pj s σ H ι σi h Q E N K
 refine wpAny_For (hi pj s σ H ι σi h _ E N ?_) hs
 unfold sFor at K
 cases e0:mi σi h with
 | exc n h'=>rw[e0] at K;exact λ pl a s' H' ι' N' n' q=>K pl a s' σ H' ι' N' n' q s' (.inl rfl)
 | stuck=>rw[e0] at K;exact K
 | ok I h' =>
  rw[e0] at K
  intro itv s2 H2 ι2 N2 n2 R
  obtain⟨it,fp,tn,J,e,T,st2,f2,OK⟩:=R
  subst e
  have stat:∀{H':Hp},(∀b∈fp,H' b=Ze)->∀b∈fp,FpOk X pj H' b:=λ hn b hb=>⟨hn b hb,(f2 b hb).2⟩
  have K2:JV ce X pj ι2 H2 (Qf I.chk g mb I.xs σi h') Q E:=JV.mono (r:=Qf I.chk g mb I.xs σi h') K n2
  refine codeAny_forLoop_any (λ n s'=>∃k ιk σk hk σ' H',Now ce X pj ιk σk hk σ' H' s'/\Nxt ι2 H2 ιk H'/\tn k s'.heap/\(∀b∈fp,H' b=Ze)/\n=I.xs.length-k/\k<=I.xs.length/\JV ce X pj ιk H' (Qf I.chk g mb (I.xs.drop k) σk hk) Q E) ?_ I.xs.length
   ⟨0,ι2,σi,h',σ,H2,N2,.refl,st2,λ b hb=>(f2 b hb).1,by simp,Zar _,by simpa using K2⟩
  rintro n s3 ⟨k,ιk,σk,hk,σ3,H3,N3,n3,st3,fr3,rfl,hkl,K3⟩
  by_cases hlt:k<I.xs.length
  ·-- a turn
   have hd:I.xs.drop k=I.xs[k]::I.xs.drop (k+1):=ZaW hlt
   rw[hd] at K3
   unfold Qf at K3
   split at K3
   ·rename_i hck
    obtain⟨go,yl⟩:=OK.go k I.xs[k] hk H3 ιk n3 N3.rel hck (Zn hlt)
    refine nof (thn (T.item X rfl rfl rfl hc k pj s3 σ3 H3 (λ _ _=>False) N3.inv (stat fr3) st3 go) λ r s4 ⟨u,hr,h4⟩=>?_)
    subst hr
    refine nof (thn h4 λ _ s5 ⟨x,H5,I5,r5,y5,st5,fr5⟩=>?_)
    obtain⟨R5,n5,q5⟩:=yl x H5 y5
    have I5':=I5.pinned (stat fr5) (T.obj _ _ st5)
    have N5:Now ce X (pj++VA fp s5.heap) ιk σk hk σ3 H5 s5:=⟨I5',R5,N3.st.mono n5⟩
    cases eg:g I.xs[k] σk hk with
    | next σg hgg =>
     rw[eg] at K3
     dsimp only at K3
     refine nof (hg _ s5 σ3 H5 ιk σk hk _ u (λ _ s6=>Zz (ZE X.prog X.w) X.A (execs body X.env) _ _ s6) (λ _ _=>False) N5 ⟨x,r5,q5⟩ ?_)
     rw[eg]
     intro s6 σ6 H6 ι6 N6 n6
     refine hb _ s6 σ6 H6 ι6 σg hgg _ _ N6 ?_
     have again:∀{σ7:L2.St}{H7:Hp}{s7:Zj}{σ7i:ISt}{h7:IH}{ι7:List Zi},Now ce X (pj++VA fp s5.heap) ι7 σ7i h7 σ7 H7 s7->Nxt ι6 H6 ι7 H7->JV ce X pj ιk H3 (Qf I.chk g mb (I.xs.drop (k+1)) σ7i h7) Q E ->
       ∃m,m<I.xs.length-k/\∃k ιk σk hk σ' H',Now ce X pj ιk σk hk σ' H' s7/\Nxt ι2 H2 ιk H'/\tn k s7.heap/\(∀b∈fp,H' b=Ze)/\m=I.xs.length-k/\k<=I.xs.length/\JV ce X pj ιk H' (Qf I.chk g mb (I.xs.drop k) σk hk) Q E :=
      λ {σ7 H7 s7 σ7i h7 ι7} N7 n7 K7=>by
       have nn:Nxt ιk H3 ι7 H7:=(n5.trans n6).trans n7
       refine⟨I.xs.length-(k+1),by omega,k+1,ι7,σ7i,h7,σ7,H7,N7.pins,n3.trans nn,T.keep _ _ _ st5 λ b hb o e=>(N7.inv.pin (b,o) (Zae _ (Zae _ (YV hb e)))).1,λ b hb=>?_,rfl,hlt,K7.mono nn⟩
       obtain⟨o,e,d⟩:=T.obj _ _ st5 b hb
       exact(N7.inv.pin (b,o) (Zae _ (Zae _ (YV hb e)))).2.1
     cases eb:mb σg hgg with
     | next σ7i h7 =>
      rw[eb] at K3
      exact λ s7 σ7 H7 ι7 N7 n7=>again N7 n7 K3
     | cont σ7i h7 =>
      rw[eb] at K3
      exact λ s7 σ7 H7 ι7 N7 n7=>again N7 n7 K3
     | brk σ7i h7 =>
      rw[eb] at K3
      exact λ s7 σ7 H7 ι7 N7 n7=>K3 s7 σ7 H7 ι7 N7.pins ((n5.trans n6).trans n7)
     | ret v h7 =>
      rw[eb] at K3
      exact λ u s7 σ7i σ7 H7 ι7 N7 n7 r=>K3 u s7 σ7i σ7 H7 ι7 N7.pins ((n5.trans n6).trans n7) r
     | exc n σ7i h7 =>
      rw[eb] at K3
      dsimp only at K3
      cases hj:h7[n]? with
      | none=>rw[hj] at K3;exact Zf K3
      | some ob =>
       cases ob with
       | exc c fs =>
        rw[hj] at K3
        intro pl a s7 σ7 H7 ι7 N7 n7 q s8 fl
        obtain⟨C,tv,d,fe,hC,ha,ht⟩:=N7.rel.get hj q
        have back:∀h8,Noted (Zbq X.env.locals) (frs X.stack) a s7.heap h8->cameBackBy (ZE X.prog X.w) X.A X.env E (.ref a) { s7 with heap:=h8 }:=λ h8 n8 =>
         Jnx hf n8 λ h9 n9=>K3 (VA fp s5.heap++pl) a s7 σ7 H7 ι7 (by rw[<- Zaa];exact N7) ((n5.trans n6).trans n7) q _ (.inr ⟨h9,rfl,_,n9⟩)
        rcases fl with rfl|⟨h8,rfl,v8,n8⟩
        ·exact Jjb N7.inv hst hf ha ht back
        ·exact Jho N7.inv hst hf ha n8 back
       | _=>rw[hj] at K3;exact Zf K3
     | stuck=>rw[eb] at K3;exact Zf K3
    | _=>rw[eg] at K3;exact Zf K3
   ·exact Zf K3
  ·have hke:I.xs.drop k=[]:=Zc0 (by omega)
   rw[hke] at K3
   unfold Qf at K3
   split at K3
   ·rename_i hck
    have stop:=OK.stop k hk H3 ιk n3 N3.rel hck (by omega)
    refine nof (thn (T.done X rfl rfl rfl hc k pj s3 σ3 H3 (λ _ _=>False) N3.inv (stat fr3) st3 stop) λ r s4 ⟨hr,I4⟩=>?_)
    subst hr
    exact Zcm (K3 s4 σ3 H3 ιk ⟨I4,N3.rel,N3.st⟩ .refl)
   ·exact Zf K3
noncomputable def itOf:IV->IH->Res ItI
 | .ref i,h=>match h[i]? with
  | some (.lst xs)=>.ok ⟨xs,λ h'=>h'[i]?=Za (.lst xs)⟩ h
  | _=>.stuck
 | .rol xs,h=>.ok ⟨xs,λ _=>True⟩ h
 | .tup xs,h=>.ok ⟨xs,λ _=>True⟩ h
 | _,_=>.stuck
def iVal (e:E1):I1:=λ σ h=>(e σ h).bind itOf
variable {tg:Expr}
theorem Jtp {a:Zi}{i:Nat}{xs:List IV}{ι:List Zi}{H₀:Hp}(ha:ι[i]?=Za a):ItOk ce X.K ι H₀ (Itl X.K a) ⟨xs,λ h'=>h'[i]?=Za (.lst xs)⟩:=by
 refine⟨λ k x h H ι' hp R hck hx=>?_,λ k h H ι' hp R hck hx=>?_⟩
 ·obtain⟨vs,e1,r1⟩:=R.get hck (hp.at ha)
  obtain⟨v,hv,qv⟩:=r1.get hx
  refine⟨⟨vs,v,SqL.of e1,hv⟩,λ y H' hy=>?_⟩
  obtain⟨rfl,hy⟩:=hy
  have:=hy vs (SqL.of e1)
  rw[hv] at this
  cases this
  exact⟨R,.refl,qv⟩
 ·obtain⟨vs,e1,r1⟩:=R.get hck (hp.at ha)
  exact⟨vs,SqL.of e1,by rw[r1.length];exact hx⟩
theorem Jx6 {a:Zi}{xs:List IV}{vs:List V}{ι:List Zi}{H₀:Hp}(sa:SqR X.K H₀ a vs)(ra:RVs X.K ι H₀ xs vs):ItOk ce X.K ι H₀ (Itl X.K a) ⟨xs,λ _=>True⟩:=by
 refine⟨λ k x h H ι' hp R hck hx=>?_,λ k h H ι' hp R hck hx=>?_⟩
 ·obtain⟨v,hv,qv⟩:=ra.get hx
  have sq:=(hp.ext.sqR sa).sq
  refine⟨⟨vs,v,sq,hv⟩,λ y H' hy=>?_⟩
  obtain⟨rfl,hy⟩:=hy
  have:=hy vs sq
  rw[hv] at this
  cases this
  exact⟨R,.refl,RV.mono hp _ _ qv⟩
 ·exact⟨vs,(hp.ext.sqR sa).sq,by rw[ra.length];exact hx⟩
theorem Jx7 {a:Zi}{xs:List IV}{vs:List V}{ι:List Zi}{H₀:Hp}(sa:SqT X.K H₀ a vs)(ra:RVs X.K ι H₀ xs vs):ItOk ce X.K ι H₀ (Itt X.K a) ⟨xs,λ _=>True⟩:=by
 refine⟨λ k x h H ι' hp R hck hx=>?_,λ k h H ι' hp R hck hx=>?_⟩
 ·obtain⟨v,hv,qv⟩:=ra.get hx
  have sq:=hp.ext.sqT sa
  refine⟨⟨vs,v,sq,hv⟩,λ y H' hy=>?_⟩
  obtain⟨rfl,hy⟩:=hy
  have:=hy vs sq
  rw[hv] at this
  cases this
  exact⟨R,.refl,RV.mono hp _ _ qv⟩
 ·exact⟨vs,hp.ext.sqT sa,by rw[ra.length];exact hx⟩
theorem Jpj {l:Expr}{ml:E1}(hl:PEi ce X l ml):PIi ce X tg l (iVal ml):=by
 intro pj s σ H ι σi h Q E N K
 refine hl pj s σ H ι σi h _ E N ?_
 unfold iVal at K
 cases e0:ml σi h with
 | exc n h'=>rw[e0] at K;exact K
 | stuck=>rw[e0] at K;exact K
 | ok v h' =>
  rw[e0] at K
  intro u s1 H1 ι1 N1 n1 r1
  obtain⟨w,rw',q⟩:=r1
  have fresh:∀b∈[s1.heap.objs.size],FpOk X pj H1 b:=λ b hb=>by
   have e:b=s1.heap.objs.size:=by simpa using hb
   subst e
   exact N1.inv.fpOk (Zu _) (N1.inv.hok.fresh (Zu _))
  cases v with
  | ref i =>
   obtain⟨a,e1,ha⟩:=q
   subst e1
   cases rw'
   cases hi:h'[i]? with
   | none=>simp only[Res.bind,itOf,hi] at K
   | some o =>
    cases o with
    | lst xs =>
     simp only[Res.bind,itOf,hi] at K
     obtain⟨vs,e1,r1⟩:=N1.at hi ha
     obtain⟨its,rv,p,hz⟩:=N1.inv.list (SqL.of e1)
     refine Zbg p.isList (K _ _ H1 ι1 ⟨N1.inv.kept (t':=s1.toks) λ b o e=>Zm _ e,N1.rel,N1.st⟩ n1 ?_)
     exact⟨s1.heap.objs.size,[s1.heap.objs.size],_,Itl X.K a,rfl,Nk a _,⟨_,Z8 _ rfl,rfl,rfl⟩,fresh,Jtp ha⟩
    | _=>simp only[Res.bind,itOf,hi] at K
  | rol xs =>
   obtain⟨a,vs,e1,sa,ra⟩:=q
   subst e1
   cases rw'
   simp only[Res.bind,itOf] at K
   obtain⟨its,rv,p,hz⟩:=N1.inv.list sa.sq
   refine Zbg p.isList (K _ _ H1 ι1 ⟨N1.inv.kept (t':=s1.toks) λ b o e=>Zm _ e,N1.rel,N1.st⟩ n1 ?_)
   exact⟨s1.heap.objs.size,[s1.heap.objs.size],_,Itl X.K a,rfl,Nk a _,⟨_,Z8 _ rfl,rfl,rfl⟩,fresh,Jx6 sa ra⟩
  | tup xs =>
   obtain⟨a,vs,e1,sa,ra⟩:=q
   subst e1
   cases rw'
   simp only[Res.bind,itOf] at K
   obtain⟨its,rv,p,hz⟩:=N1.inv.tuple sa
   refine Zdk (show s1.heap.IsTuple a its.toArray from p) (K _ _ H1 ι1 ⟨N1.inv.kept (t':=s1.toks) λ b o e=>Zm _ e,N1.rel,N1.st⟩ n1 ?_)
   exact⟨s1.heap.objs.size,[s1.heap.objs.size],_,Itt X.K a,rfl,Job a _,⟨_,Z8 _ rfl,rfl,rfl⟩,fresh,Jx7 sa ra⟩
  | _=>simp only[Res.bind,itOf] at K
noncomputable def rngI (lo hi:Int):List IV:=(ZaO (hi-lo).toNat).map λ k=>.int (lo+(k:Nat))
def V5:List IV->IH->Res ItI
 | [.int j],h=>if -(2^62)<=j/\j<2^62 then .ok ⟨rngI 0 j,λ _=>True⟩ h else .stuck
 | _,_=>.stuck
def Jto:List IV->IH->Res ItI
 | [.int i,.int j],h=>if -(2^62)<=i/\i<2^62/\ -(2^62)<=j/\j<2^62 then .ok ⟨rngI i j,λ _=>True⟩ h else .stuck
 | _,_=>.stuck
def iRg (f:List IV->IH->Res ItI)(a:A1):I1:=λ σ h=>(a σ h).bind f
theorem Jy8 {lo hi:Int}{ι:List Zi}{H₀:Hp}:ItOk ce X.K ι H₀ (Itr lo (hi-lo).toNat) ⟨rngI lo hi,λ _=>True⟩:=by
 refine⟨λ k x h H ι' hp R hck hx=>?_,λ k h H ι' hp R hck hx=>?_⟩
 ·have hk:k<(hi-lo).toNat:=by
   have:=(ZB.mp hx).1
   simpa [rngI] using this
  refine⟨hk,λ y H' hy=>?_⟩
  obtain⟨rfl,rfl⟩:=hy
  simp only[rngI,Z6,Zce hk] at hx
  cases hx
  exact⟨R,.refl,rfl⟩
 ·have:(rngI lo hi).length=(hi-lo).toNat:=by simp[rngI]
  show(hi-lo).toNat<=k
  rw[<- this]
  exact hx
theorem Jqf {pj:PnT}{σ:L2.St}{H:Hp}{ι:List Zi}{σi:ISt}{h:IH}{s:Zj}{Q:QvT}{E:QvT}{lo hi:Int}{t u v:Tok}{tk:Nat}(N:Now ce X pj ι σi h σ H s)
  (h1: -(2^62)<=lo)(h2:lo<2^62)(h3: -(2^62)<=hi)(h4:hi<2^62)
  (K:∀itv s' H' ι',Now ce X pj ι' σi h σ H' s'->Nxt ι H ι' H'->RIt ce X tg pj ι' ⟨rngI lo hi,λ _=>True⟩ itv s' H'->Q itv s') :
  Zz (ZE X.prog X.w) X.A (Zex (.ref s.heap.objs.size)) Q E { s with heap:=s.heap.push { cls:=.type "range",data:=.fields #[.int lo t,.int hi u,.int 1 v] },toks:=tk }:=by
 have:=Jsg (X:=X) (tg:=tg) (E:=E) (R:=λ J H'=>J=Itr lo (hi-lo).toNat/\H'=H) (t:=t) (u:=u) (v:=v) (tk:=tk) N.inv h1 h2 h3 h4 ⟨rfl,rfl⟩
 refine Zan this (λ itv s' hq=>?_) λ _ _ z=>z
 obtain⟨it,fp,tn,J,H',e,I',T,st,f,rfl,rfl⟩:=hq
 exact K itv s' _ ι ⟨I',N.rel,N.st⟩ .refl ⟨it,fp,tn,_,e,T,st,f,Jy8⟩
theorem Jrv {a:Expr}{ma:A1}{p pos:Pos}(hg:Gl X "range")(hm:X.mg "range"=Ze)(ha:PAi ce X [a] ma)(hs:ZN [a] X.env=[(Zc,ZaV a X.env)]:=by rfl):PIi ce X tg (.Call (.Name "range" p) [a] [] pos) (iRg V5 ma):=by
 intro pj s σ H ι σi h Q E N K
 refine Call_ (V7 N.inv hg hm boot_range (ZaS ?_ hs rfl))
 refine ha pos pj s σ H ι σi h _ E N ?_
 unfold iRg at K
 cases e0:ma σi h with
 | exc n h'=>rw[e0] at K;exact K
 | stuck=>rw[e0] at K;exact K
 | ok vs h' =>
  rw[e0] at K
  intro us s1 H1 ι1 N1 n1 r1
  obtain⟨xs,rv,qs⟩:=r1
  match vs,K with
  | [.int j],K =>
   obtain⟨w,r,e1,q,q2⟩:=qs
   have e2:r=[]:=q2
   subst e1 e2
   have e3:w=.int j:=q
   subst e3
   cases rv with
   | cons r rr =>
    cases rr
    obtain⟨t,rfl⟩:=r
    simp only[Res.bind,V5] at K
    by_cases hb: -(2^62)<=j/\j<2^62
    ·rw[if_pos hb] at K
     exact call_range_1 (Jqf N1 (by omega) (by omega) hb.1 hb.2 λ itv s' H' ι' N' n' R=>K itv s' H' ι' N' (n1.trans n') R)
    ·rw[if_neg hb] at K
     exact K.elim
  | [],K=>exact Zf K
  | .non::_,K=>exact Zf K
  | .bl _::_,K=>exact Zf K
  | .str _::_,K=>exact Zf K
  | .tup _::_,K=>exact Zf K
  | .rol _::_,K=>exact Zf K
  | .ref _::_,K=>exact Zf K
  | .int _::_::_,K=>exact Zf K
end
end L3
namespace L3
open PySem PySem.Spec PySem.Calls PyProof.Rows L2
section
variable {prog:ZG}{w:ZX}{A:ZO}{E:QvT}{s:Zj}{K:W.Frag}{x D:Zi}{ox:Obj}
open PySem.W PySem.Builtin PySem.Builtin.ObjectAttr PySem.Builtin.Getset_descriptor in
theorem Jz3 {tp:Zg}{R:Zdy->Zj->Prop}(X:K.In s.heap)(hx:s.heap.get? x=Za ox)(hcl:ox.cls=.ref D)(hm:mroIn K D (.type "object")=Za Zh)(k:R (.ok (.ret (.ref D))) s) :
  Zcw (ZE prog w) A (.call (.builtin "getset_descriptor.__get__") ⟨[.builtin "object.__class__",.ref x,tp],[]⟩) R s:=by
 obtain⟨hh,g,d,t,os⟩:=s
 have L0:Looks (ZE prog w) hh (Zez (.ref x)) (.ref D):=hcl▸(Looks.ld hx).andThen .now
 have L5:=looks_mroIn (M:=ZE prog w) X hm
 have sl:=KF.slot_gs
 refine ZcJ sl.plain KF.entry_gs (sl.check _ _ _ _ _ _ _ _ KF.type_class (KF.args_gs _ _ _) ?_)
 unfold ZdL.«getset_descriptor.__get__»
 unfold descrGet
 rw[dga_obj]
 apply Zk
 apply ZM
 unfold descrGetter descrCheckInstance
 unfold descrNameAndClass isInstance
 simp only[KF.owner_class]
 repeat lk
 have quiet:=Code.quiet_builtin (id:="object.__class__") ⟨[.ref x],[]⟩ (by decide +kernel)
 refine⟨quiet,Zbl KF.entry_class ?_⟩
 unfold ZdL.«object.__class__»
 unfold shownTypeOf
 repeat lk
 exact k
theorem Js9 {tk:Tok}{Q:Fin->Zj->Prop}(X:K.In s.heap)(hx:s.heap.get? x=Za ox)(hcl:ox.cls=.ref D)(hc:W.findIn K (.ref D) "__class__"=Za (Za (.builtin "object.__class__")))(hm:W.mroIn K D (.type "object")=Za Zh)
  (hq:Q (.done (.ret (.ref D))) s):Zz (ZE prog w) A (ZdL.«object.__getattribute__» ⟨[.ref x,.str "__class__" tk],[]⟩) Q E s:=by
 obtain⟨hh,g,d,t,os⟩:=s
 have L0:W.Looks (ZE prog w) hh (Zez (.ref x)) (.ref D):=hcl▸(W.Looks.ld hx).andThen .now
 have L2:=W.looks_findIn (M:=ZE prog w) X hc
 have hT5:(⟨hh,g,d,t,os⟩:Zj).TypeIs (.builtin "object.__class__") "getset_descriptor":=F.typeOf_object_class
 have f5:=F.typeOf_object_class
 have f6:=F.slot_gs_get.lookup
 have f7:=F.slot_gs_set.lookup
 repeat (any_goals (first|assumption|with_reducible refine L0.at ?_|with_reducible refine L2.at ?_|wp_step))
 refine Jz3 (s:=⟨hh,g,d,t,os⟩) X hx hcl hm ?_
 repeat (any_goals (first|assumption|wp_step))
theorem Js8 {v:Zg}{Q:Unit->Zj->Prop}{M:Model}(X:K.In s.heap)(hx:s.heap.get? x=Za ox)(hcl:ox.cls=.ref D)(hb:W.mroIn K D (.type "BaseException")=Za Zh)(hq:Q () s):Zz M A (checkBuiltinCall "BaseException.__getattribute__" ⟨[.ref x,v],[]⟩) Q E s:=by
 obtain⟨hh,g,d,t,os⟩:=s
 have L0:W.Looks M hh (Zez (.ref x)) (.ref D):=hcl▸(W.Looks.ld hx).andThen .now
 have L3:=W.looks_mroIn (M:=M) X hb
 have k1:builtinKind "BaseException.__getattribute__"=Za .slot:=by decide +kernel
 have k2:splitId "BaseException.__getattribute__"=Za ("BaseException","__getattribute__"):=by decide +kernel
 have k3:=F.args_bexc_ga (.ref x) v
 simp only[checkBuiltinCall,k1,k2]
 refine Zk ?_
 unfold isInstance
 repeat (first|with_reducible refine L0.at ?_|with_reducible refine L3.at ?_|wp_step)
 exact hq
theorem J1v {tk:Tok}{Q:QvT}(X:K.In s.heap)(hx:s.heap.get? x=Za ox)(hcl:ox.cls=.ref D)(hg:W.findIn K (.ref D) "__getattribute__"=Za (Za (.builtin "BaseException.__getattribute__")))(hb:W.mroIn K D (.type "BaseException")=Za Zh)(hn:W.findIn K (.ref D) "__getattr__"=Za Ze)
  (hc:W.findIn K (.ref D) "__class__"=Za (Za (.builtin "object.__class__")))(hm:W.mroIn K D (.type "object")=Za Zh)(hq:Q (.ref D) s):Zz (ZE prog w) A (getAttrBy (.ref x) (.str "__class__" tk) Zc) Q E s:=by
 obtain⟨hh,g,d,t,os⟩:=s
 have L0:W.Looks (ZE prog w) hh (Zez (.ref x)) (.ref D):=hcl▸(W.Looks.ld hx).andThen .now
 have L1:=W.looks_findIn (M:=ZE prog w) X hg
 have L4:=W.looks_findIn (M:=ZE prog w) X hn
 have f3:=F.attr_ValueError.ga.bind (.ref x)
 have hx2:(Zd2 "BaseException.__getattribute__"==Zd2 "object.__getattribute__")=Zc:=by decide +kernel
 have hx1:(onTheHeap (ZaZ D)&&Zd2 "BaseException.__getattribute__"==Zd2 "object.__getattribute__")=Zc:=by rw[hx2];rfl
 repeat (any_goals (first|assumption|with_reducible refine L0.at ?_|with_reducible refine L1.at ?_|with_reducible refine L4.at ?_|wp_step))
 refine ZcJ F.attr_ValueError.ga.plain F.entry_bexc_ga (Js8 (s:=⟨hh,g,d,t,os⟩) X hx hcl hb (Js9 (s:=⟨hh,g,d,t,os⟩) X hx hcl hc hm ?_))
 repeat (any_goals (first|assumption|wp_step))
theorem Jw1 {Q:Option Zg->Zj->Prop}(X:K.In s.heap)(hx:s.heap.get? x=Za ox)(hcl:ox.cls=.ref D)(hg:W.findIn K (.ref D) "__getattribute__"=Za (Za (.builtin "BaseException.__getattribute__")))(hb:W.mroIn K D (.type "BaseException")=Za Zh)(hn:W.findIn K (.ref D) "__getattr__"=Za Ze)
  (hc:W.findIn K (.ref D) "__class__"=Za (Za (.builtin "object.__class__")))(hm:W.mroIn K D (.type "object")=Za Zh)(hq:Q (Za (.ref D)) { s with toks:=s.toks+1 }):Zz (ZE prog w) A (getAttr? (.ref x) "__class__") Q E s:=by
 obtain⟨hh,g,d,t,os⟩:=s
 unfold getAttr? getAttrBy?
 refine Zk (wpAny_mkText (Zk (wpAny_attempt (J1v (s:=⟨hh,g,d,t+1,os⟩) X hx hcl hg hb hn hc hm ?_))))
 exact ZM hq
end
structure ExI (K:W.Frag)(C:Zi):Prop where
 ga:W.findIn K (.ref C) "__getattribute__"=Za (Za (.builtin "BaseException.__getattribute__"))
 mb:W.mroIn K C (.type "BaseException")=Za Zh
 gn:W.findIn K (.ref C) "__getattr__"=Za Ze
 ca:W.findIn K (.ref C) "__class__"=Za (Za (.builtin "object.__class__"))
 mo:W.mroIn K C (.type "object")=Za Zh
 hd:W.hasDictIn K C=Zh
theorem ExI.at_ {K:W.Frag}{C:Zi}(e:ExI K C):∃c d cd sl,K.lookup C=Za ⟨c,d,.cls cd,sl⟩:=by
 obtain⟨cd,hc,_⟩:=W.any_some e.hd
 unfold W.clsIn at hc
 split at hc
 case h_2=>cases hc
 rename_i c d cd' sl ho
 exact⟨c,d,cd',sl,ho⟩
theorem Jmt {K:W.Frag}{x D:Zi}(e:ExI K D):W.KitX K (.ref x) (.ref D) (λ h=>∃ox,h.get? x=Za ox/\ox.cls=.ref D) where
 ty:=λ _ _ _ ⟨ox,hx,hc⟩=>hc▸(W.Looks.ld hx).andThen .now
 it:=λ _ _ X _=>by
  obtain⟨c,d,cd,sl,ho⟩:=e.at_
  intro A' Q' E' s' kp q
  unfold isType
  unfold loadHead
  exact Zk (wpAny_loadPart (kp _ _ (X D _ ho)) (ZM q))
 ne:=λ h tp dd its n sl X htp=>by
  obtain⟨c,d,cd,sl',ho⟩:=e.at_
  rw[Zat]
  intro q
  cases (Value.ref.inj (beq_iff_eq.mp q))
  have z:=(X D _ ho).symm.trans htp
  cases z
 ca:=λ X ⟨ox,hx,hc⟩ k=>Jw1 X hx hc e.ga e.mb e.gn e.ca e.mo k
end L3
namespace L3
open PySem PySem.Spec PyProof.Rows L2
def Xk (n:Nat)(vs:List IV):ISt:=vs.map Za++Zac (n-vs.length) Ze
noncomputable def SRes.fin (r:SRes):Res IV:=match r with
 | .next _ h'=>.ok .non h'
 | .ret v h'=>.ok v h'
 | .exc n _ h'=>(match h'[n]? with
  | some (.exc _ _)=>.exc n h'
  | _=>.stuck)
 | _=>.stuck
noncomputable def fnI (n:Nat)(m:S1):List IV->IH->Res IV:=λ vs h=>(m (Xk n vs) h).fin
def spI (ce:CeT)(K:W.Frag)(ps:List Str)(f:List IV->IH->Res IV):Sp:=λ vs H Q E =>
 vs.length=ps.length/\∃ι h ivs,Rel ce K ι h H/\RVs K ι H ivs vs /\
  match f ivs h with
  | .ok v h'=>∀x H' ι',Rel ce K ι' h' H'->Nxt ι H ι' H'->RV K ι' H' v x->Q x H'
  | .exc n h'=>∀a H' ι',Rel ce K ι' h' H'->Nxt ι H ι' H'->ι'[n]?=Za a->E (.ref a) Ze H'
  | .stuck=>False
theorem RVs.start {K:W.Frag}{ι:List Zi}{H:Hp}{N:List Str}{ivs:List IV}{vs:List V}(r:RVs K ι H ivs vs):RSt K ι H (Xk N.length ivs) (L2.start N vs):=by
 have hl:=r.length
 refine⟨by simp[Xk,L2.start,hl],λ j v e=>?_⟩
 unfold Xk at e
 unfold L2.start
 by_cases hj:j<ivs.length
 ·rw[ZF (by simpa using hj),Z6] at e
  rw[ZF (by simp;omega),Z6]
  cases e1:ivs[j]? with
  | none=>rw[e1] at e;cases e
  | some w =>
   rw[e1] at e
   cases e
   obtain⟨u,hu,q⟩:=r.get e1
   exact⟨u,by rw[hu];rfl,q⟩
 ·rw[ZI (by simpa using hj),ZbA] at e
  split at e<;>cases e
theorem Jji {α:Type}:∀{l:List α}{i:Nat}{x:α},l[i]?=Za x->l.set i x=l
 | [],_,_,e=>by simp at e
 | a::l,0,x,e=>by cases e;rfl
 | a::l,i+1,x,e=>by
  show a::l.set i x=a::l
  rw[Jji (l:=l) e]
theorem Ng {ce:CeT}{K:W.Frag}{ι:List Zi}{h:IH}{H:Hp}{i:Nat}{o:IX}{a:Zi}(R:Rel ce K ι h H)(e:h[i]?=Za o)(q:ι[i]?=Za a):RO ce K ι H a o:=by
 obtain⟨b,e1,r⟩:=R.at_ i o e
 rw[q] at e1
 cases e1
 exact r
structure FunD (K:W.Frag)(x qual:Str)(st:Zbu)(f:Zi)(fd:Zax)(dV:Zg):Prop where
 ex:∃(oc:Zg)(od:Option Zi)(kV doc pm:Zg)(an:Option Zi)(cdv ct:Zg)(osl:Array (Option Zg)),
  fd=W.fnOf x qual (QR st) (Qc st) (Jx st) dV kV doc pm an cdv ct/\K.lookup f=Za ⟨oc,od,.func fd,osl⟩/\W.codeIn K cdv qual=Zh
 kp:W.keepIn K (.ref f)=Zh
section
variable {P:ZG}{w:ZX}{K:W.Frag}{mg:Str->Option Zg}{base:Zak}{ce:CeT}
theorem FunD.fn {x qual:Str}{st:Zbu}{f:Zi}{fd:Zax}{dV:Zg}{N ps:List Str}{k n:Nat}{m:S1}(F:FunD K x qual st f fd dV)(S:FnScope N ps (Jx st))
  (hbody:∀(cdv:Zg)(A:ZO)(outer:List Env)(s:Zj)(H:Hp)(E:XK),W.codeIn K cdv qual=Zh->Room k (A.deeper (Zc9 qual (Jx st) s.heap.objs.size f cdv))->PS2 ce (cxOf (CXI P w) P w K mg base N qual (Jx st) f cdv A outer s H E).nox (Qc st) m)(hn:N.length=n:=by rfl) :
  FnOk P w K mg base (CXI P w) (k+1) f fd ps (spI ce K ps (fnI n m)):=by
 subst hn
 obtain⟨oc,od,kV,doc,pm,an,cdv,ct,osl,rfl,lk,hcd⟩:=F.ex
 refine Jxg lk hcd S (λ vs H Q E h=>h.1) λ A outer s H vs Q E hr hsp=>?_
 obtain⟨hl,ι,h,ivs,R,rv,hk⟩:=hsp
 refine⟨λ D σ H=>∃ι σi h,Rel ce K ι h H/\RSt K ι H σi σ/\match m σi h with
  | .next σi' h'=>∀σ' H' ι',Rel ce K ι' h' H'->RSt K ι' H' σi' σ'->Nxt ι H ι' H'->D.nx σ' H'
  | .ret v h'=>∀x H' ι',Rel ce K ι' h' H'->Nxt ι H ι' H'->RV K ι' H' v x->D.rt x H'
  | .exc n _ h'=>(∃c fs,h'[n]?=Za (.exc c fs))/\∀a H' ι',Rel ce K ι' h' H'->Nxt ι H ι' H'->ι'[n]?=Za a->E (.ref a) Ze H'
  | _=>False,λ pj s' σ' H' D I ht=>?_,ι,Xk N.length ivs,h,R,rv.start,?_⟩
 ·obtain⟨ι,σi,h,R,rs,hm⟩:=ht
  refine Zan (hbody cdv A outer s H E hcd hr pj s' σ' H' ι σi h (SP _ pj D) _ ⟨I.wish _,R,rs⟩ ?_) (λ _ _ z=>z) (λ _ _ z=>z)
  cases e:m σi h with
  | next σ2 h2 =>
   rw[e] at hm
   exact λ s3 σ3 H3 ι3 N3 n3=>⟨σ3,H3,N3.inv.unwish,hm σ3 H3 ι3 N3.rel N3.st n3⟩
  | ret v h2 =>
   rw[e] at hm
   exact λ u s3 σ3i σ3 H3 ι3 N3 n3 ⟨z,rz,q⟩=>⟨z,σ3,H3,N3.inv.unwish,rz,hm z H3 ι3 N3.rel n3 q⟩
  | exc j σ2 h2 =>
   rw[e] at hm
   obtain⟨⟨c,fs,hj⟩,hm⟩:=hm
   intro pl a s3 σ3 H3 ι3 N3 n3 hi s4 fl
   have I3:=N3.inv.unwish
   obtain⟨C,tv,d,fe,hC,ha,ht⟩:=Ng N3.rel hj hi
   refine Jpx I3 fl rfl rfl ha ht λ T oT h' p=>?_
   have nl:s.heap.get? s.heap.objs.size=Ze:=Heap.get?_none_of_le (Zu _)
   obtain⟨R4,n4⟩:=N3.rel.grow (o:=.frz oT (.own 0)) p.new
   have ha4:upd H3 T (.frz oT (.own 0)) a=Za (ExF a C tv d):=by rw[Jo (Zao p.ne)];exact ha
   obtain⟨R5,n5⟩:=R4.write hi ha4 (by rw[ha4];trivial) (o:=ExF a C (.ref T) d) (io:=.exc c fs) ⟨C,.ref T,d,fe.mono p.un.frzs,hC,J2,.inr ⟨T,oT,_,rfl,by rw[Jo p.ne,J2],p.fld.choose_spec⟩⟩
   rw[Jji hj] at R5
   exact⟨_,I3.os,I3.bare,Un.tail I3.base p.un nl,p.hok,hm a _ ι3 R5 ((n3.trans n4).trans n5) hi⟩
  | _=>rw[e] at hm;exact hm.elim
 ·unfold fnI SRes.fin at hk
  cases e:m (Xk N.length ivs) h with
  | next σ2 h2 =>
   rw[e] at hk
   exact λ σ3 H3 ι3 R3 _ n3=>hk .non H3 ι3 R3 n3 rfl
  | ret v h2 =>
   rw[e] at hk
   exact hk
  | exc j σ2 h2 =>
   rw[e] at hk
   dsimp only at hk
   cases q:h2[j]? with
   | none=>rw[q] at hk;exact hk.elim
   | some o =>
    cases o with
    | exc c fs=>rw[q] at hk;exact⟨⟨c,fs,q⟩,hk⟩
    | _=>rw[q] at hk;exact hk.elim
  | _=>rw[e] at hk;exact hk.elim
end
noncomputable def Res.nx {α:Type}:Res α->Res α
 | .ok a h=>.ok a h
 | _=>.stuck
def Jm (f:List IV->IH->Res IV)(dvs:List IV)(a:A1):E1:=λ σ h=>(a σ h).bind λ vs h1=>f (vs++dvs) h1
def Vb (c:Str)(f:List IV->IH->Res IV)(dvs:List IV)(a:A1):E1:=λ σ h=>(a σ h).bind λ vs h1=>(f (.ref h1.length::(vs++dvs)) (h1++[.ins c []])).bind λ r h2=>match r with
 | .non=>.ok (.ref h1.length) h2
 | _=>.stuck
def Jri (m:Str)(disp:Str->Option ((List IV->IH->Res IV)×List IV))(o:E1)(a:A1):E1:=λ σ h=>(o σ h).bind λ v h1=>match v with
 | .ref i=>(match h1[i]? with
  | some (.ins c fs)=>(match disp c,fs.lookup m with
   | some (f,dvs),Ze=>(a σ h1).bind λ vs h2=>f (.ref i::(vs++dvs)) h2
   | _,_=>.stuck)
  | _=>.stuck)
 | _=>.stuck
section
variable {ce:CeT}{X:Cx}{k:Nat}{fa C:Zi}{fd:Zax}{ps:List Str}{f:List IV->IH->Res IV}{dvs:List IV}{ds:List Zg}{x m:Str}{p pos apos:Pos}{e o:Expr}{es:List Expr}{mo:E1}{ma:A1}
theorem RUs.vals {K:W.Frag}{ι:List Zi}{H:Hp}{xs:List IV}{us:List Zg}(r:RUs K ι H xs us):∃vs,Vals vs us/\RVs K ι H xs vs:=r
theorem Jje {pj:PnT}{σ:L2.St}{H:Hp}{ι:List Zi}{σi:ISt}{h:IH}{s:Zj}{Q:QvT}{E:QvT}{us:List Zg}{xs:List IV}(F:FnOk X.prog X.w X.K X.mg X.base (CXI X.prog X.w) k fa fd ps (spI ce X.K ps f))(hr:Room k X.A)(hb:Q2 X.K fd ps ds)
  (hd:∃vs,Vals vs ds/\∀ι H,RVs X.K ι H dvs vs)(hlen:us.length+ds.length=ps.length)(N:Now ce X pj ι σi h σ H s)(r:RUs X.K ι H xs us)(K:Kont ce X RU pj ι σi σ H (f (xs++dvs) h) Q E):Zz (ZE X.prog X.w) X.A (call (.ref fa) us) Q E s:=by
 obtain⟨vs,rv,q⟩:=r
 obtain⟨dv,rd,qd⟩:=hd
 have hl1:=rv.length
 have hl2:=rd.length
 refine Zan (Jv4 (Q:=λ z H'=>∀u s',Inv X pj σ H' s'->RelV z u->Q u s') (E:=λ v _ H'=>∀s',Inv X pj σ H' s'->E v s') F hr hb rd N.inv rv ⟨by rw[ZZ];omega,ι,h,xs++dvs,N.rel,q.append (qd ι H),?_⟩ λ _ s' _ I' z=>z s' I')
  (λ u s' ⟨z,H',I',r',k'⟩=>k' u s' I' r') λ _ _ z=>z
 cases e:f (xs++dvs) h with
 | ok v h' =>
  rw[e] at K
  exact λ z H' ι' R' n' qz u s' I' ru=>K u s' H' ι' ⟨I',R',N.st.mono n'⟩ n' ⟨z,ru,qz⟩
 | exc n h' =>
  rw[e] at K
  exact λ a H' ι' R' n' hi s' I'=>K [] a s' H' ι' ⟨by simpa using I',R',N.st.mono n'⟩ n' hi
 | stuck=>rw[e] at K;exact K
theorem Jxr (F:FnOk X.prog X.w X.K X.mg X.base (CXI X.prog X.w) k fa fd ps (spI ce X.K ps f))(hr:Room k X.A)(hg:Gl X x)(hm:X.mg x=Za (.ref fa))(hk:W.keepIn X.K (.ref fa)=Zh)(hb:Q2 X.K fd ps ds)(hd:∃vs,Vals vs ds/\∀ι H,RVs X.K ι H dvs vs)
  (ha:PAi ce X (e::es) ma)(hlen:∀σ h xs h',ma σ h=.ok xs h'->xs.length+ds.length=ps.length)(hdb:(x==("__debug__":Str))=Zc:=by decide)(he:ZN (e::es) X.env=(Zc,ZaV e X.env)::ZN es X.env:=by rfl)(hpl:(Zba pos (ZN es X.env)).any (·.1)=Zc:=by rfl) :
  PEi ce X (.Call (.Name x p) (e::es) [] pos) (Jm f dvs ma):=by
 intro pj s σ H ι σi h Q E N K
 refine Zaz (Xg N.inv hg hm ?_ hdb)
 refine W.callWith_K (h₀:=X.base) N.inv.ok.mod.kin hk ?_ he hpl
 have K':=K
 unfold Jm at K'
 refine ha pos pj s σ H ι σi h _ E N ?_
 cases e0:ma σi h with
 | exc n h'=>rw[e0] at K';exact K'
 | stuck=>rw[e0] at K';exact K'
 | ok xs h' =>
  rw[e0] at K'
  intro us s1 H1 ι1 N1 n1 r1
  have hl:xs.length=us.length:=by
   obtain⟨vs,rv,q⟩:=r1
   rw[<- rv.length,q.length]
  exact⟨N1.inv.kIn,Jje (us:=us) F hr hb hd (by have:=hlen σi h xs h' e0;omega) N1 r1 (Kont.mono (r:=(f (xs++dvs) h')) K' n1)⟩
theorem Ju2 (F:FnOk X.prog X.w X.K X.mg X.base (CXI X.prog X.w) k fa fd ps (spI ce X.K ps f))(hr:Room k X.A)(hg:Gl X x)(hm:X.mg x=Za (.ref fa))(hk:W.keepIn X.K (.ref fa)=Zh)(hb:Q2 X.K fd ps ds)(hd:∃vs,Vals vs ds/\∀ι H,RVs X.K ι H dvs vs)
  (hlen:ds.length=ps.length)(hdb:(x==("__debug__":Str))=Zc:=by decide):PEi ce X (.Call (.Name x p) [] [] pos) (Jm f dvs Jd):=by
 intro pj s σ H ι σi h Q E N K
 refine Zaz (Xg N.inv hg hm ?_ hdb)
 exact W.callWith_K0 N.inv.kIn hk (Jje (xs:=[]) F hr hb hd (by simpa using hlen) N .nil K)
theorem Jkn {c:Str}{pj:PnT}{σ:L2.St}{H:Hp}{ι:List Zi}{σi:ISt}{h:IH}{s:Zj}{Q:QvT}{E:QvT}{us:List Zg}{xs:List IV}(M:Mk X.K C fa)(F:FnOk X.prog X.w X.K X.mg X.base (CXI X.prog X.w) k fa fd ps (spI ce X.K ps f))(hC:ce c=Za C)(hr:Room (k+1) X.A)(hb:Q2 X.K fd ps ds)
  (hd:∃vs,Vals vs ds/\∀ι H,RVs X.K ι H dvs vs)(hlen:us.length+ds.length+1=ps.length)(N:Now ce X pj ι σi h σ H s)(r:RUs X.K ι H xs us)
  (K:Kont ce X RU pj ι σi σ H ((f (.ref h.length::(xs++dvs)) (h++[.ins c []])).bind λ r h2=>match r with|.non=>.ok (.ref h.length) h2|_=>.stuck) Q E):Zz (ZE X.prog X.w) X.A (call (.ref C) us) Q E s:=by
 obtain⟨vs,rv,q⟩:=r
 obtain⟨dv,rd,qd⟩:=hd
 have hl1:=rv.length
 have hl2:=rd.length
 refine Zan (Jqj (Q:=λ z H'=>∀u s',Inv X pj σ H' s'->RelV z u->Q u s') (E:=λ v _ H'=>∀s',Inv X pj σ H' s'->E v s') M F hr hb rd N.inv rv (λ x dx hx hdx hne=>⟨by rw[Z0,ZZ];omega,?_⟩) λ _ s' _ I' z=>z s' I')
  (λ u s' ⟨z,H',I',r',k'⟩=>k' u s' I' r') λ _ _ z=>z
 -- the new instance in the reading's heap
 obtain⟨R1,n1⟩:=N.rel.grow (o:=.own x) hdx
 have hx1:upd H dx (.own x) x=Ze:=by rw[Jo (Zao hne)];exact hx
 obtain⟨R2,n2⟩:=R1.alloc (o:=.ins C dx []) (io:=.ins c []) hx1 ⟨C,dx,[],hC,J2,rfl⟩
 have n12:=n1.trans n2
 have hat:(ι++[x])[h.length]?=Za x:=by
  rw[<- N.rel.len,ZI (Zu _)]
  simp
 refine⟨ι++[x],h++[.ins c []],.ref h.length::(xs++dvs),R2,⟨_,_,rfl,⟨x,rfl,hat⟩,(RVs.mono n12 _ _ q).append (qd _ _)⟩,?_⟩
 cases e:f (.ref h.length::(xs++dvs)) (h++[.ins c []]) with
 | ok v h' =>
  rw[e] at K
  intro z H' ι' R' n' qz
  cases v with
  | non =>
   have ez:z=.non:=qz
   subst ez
   exact⟨rfl,λ u s' I' ru=>K u s' H' ι' ⟨I',R',N.st.mono (n12.trans n')⟩ (n12.trans n') ⟨.ref x,ru,x,rfl,n'.at hat⟩⟩
  | _=>exact Zf K
 | exc n h' =>
  rw[e] at K
  exact λ a H' ι' R' n' hi s' I'=>K [] a s' H' ι' ⟨by simpa using I',R',N.st.mono (n12.trans n')⟩ (n12.trans n') hi
 | stuck=>rw[e] at K;exact Zf K
theorem Jxy {c:Str}(M:Mk X.K C fa)(F:FnOk X.prog X.w X.K X.mg X.base (CXI X.prog X.w) k fa fd ps (spI ce X.K ps f))(hC:ce c=Za C)(hr:Room (k+1) X.A)(hg:Gl X x)(hm:X.mg x=Za (.ref C))(hb:Q2 X.K fd ps ds)(hd:∃vs,Vals vs ds/\∀ι H,RVs X.K ι H dvs vs)
  (ha:PAi ce X (e::es) ma)(hlen:∀σ h xs h',ma σ h=.ok xs h'->xs.length+ds.length+1=ps.length)(hdb:(x==("__debug__":Str))=Zc:=by decide)(he:ZN (e::es) X.env=(Zc,ZaV e X.env)::ZN es X.env:=by rfl)(hpl:(Zba pos (ZN es X.env)).any (·.1)=Zc:=by rfl) :
  PEi ce X (.Call (.Name x p) (e::es) [] pos) (Vb c f dvs ma):=by
 intro pj s σ H ι σi h Q E N K
 refine Zaz (Xg N.inv hg hm ?_ hdb)
 refine W.callWith_K (h₀:=X.base) N.inv.ok.mod.kin M.kp ?_ he hpl
 have K':=K
 unfold Vb at K'
 refine ha pos pj s σ H ι σi h _ E N ?_
 cases e0:ma σi h with
 | exc n h'=>rw[e0] at K';exact K'
 | stuck=>rw[e0] at K';exact K'
 | ok xs h' =>
  rw[e0] at K'
  intro us s1 H1 ι1 N1 n1 r1
  have hl:xs.length=us.length:=by
   obtain⟨vs,rv,q⟩:=r1
   rw[<- rv.length,q.length]
  exact⟨N1.inv.kIn,Jkn (us:=us) M F hC hr hb hd (by have:=hlen σi h xs h' e0;omega) N1 r1 (Kont.mono (r:=(f (IV.ref h'.length::(xs++dvs)) (h'++[.ins c []])).bind λ r h2=>match r with|IV.non=>Res.ok (IV.ref h'.length) h2|_=>Res.stuck) K' n1)⟩
theorem Ju8 {c:Str}(M:Mk X.K C fa)(F:FnOk X.prog X.w X.K X.mg X.base (CXI X.prog X.w) k fa fd ps (spI ce X.K ps f))(hC:ce c=Za C)(hr:Room (k+1) X.A)(hg:Gl X x)(hm:X.mg x=Za (.ref C))(hb:Q2 X.K fd ps ds)(hd:∃vs,Vals vs ds/\∀ι H,RVs X.K ι H dvs vs)
  (hlen:ds.length+1=ps.length)(hdb:(x==("__debug__":Str))=Zc:=by decide):PEi ce X (.Call (.Name x p) [] [] pos) (Vb c f dvs Jd):=by
 intro pj s σ H ι σi h Q E N K
 refine Zaz (Xg N.inv hg hm ?_ hdb)
 exact W.callWith_K0 N.inv.kIn M.kp (Jkn (xs:=[]) M F hC hr hb hd (by simpa using hlen) N .nil K)
def Joe (ce:CeT)(X:Cx)(m:Str)(n:Nat)(disp:Str->Option ((List IV->IH->Res IV)×List IV)):Prop :=
 ∀c f dvs,disp c=Za (f,dvs)->∃(C fa:Zi)(fd:Zax)(k:Nat)(ps:List Str)(ds:List Zg),ce c=Za C/\Cls X.K C/\Meth X.K C m fa/\FnOk X.prog X.w X.K X.mg X.base (CXI X.prog X.w) k fa fd ps (spI ce X.K ps f)/\Room k X.A/\Q2 X.K fd ps ds/\(∃vs,Vals vs ds/\∀ι H,RVs X.K ι H dvs vs)/\n+ds.length+1=ps.length
theorem Jx0 {n:Nat}{disp:Str->Option ((List IV->IH->Res IV)×List IV)}{pl:Sem Bool}(ho:PEi ce X o mo)(hd:Joe ce X m n disp)(ha:PAi ce X (e::es) ma)(hlen:∀σ h xs h',ma σ h=.ok xs h'->xs.length=n)
  (hst:ZN (e::es) X.env=(Zc,ZaV e X.env)::ZN es X.env:=by rfl)(hpl:(Zba pos (ZN es X.env)).any (·.1)=Zc:=by rfl)
  (ht:ZaV (.Call (.Attribute o m apos) (e::es) [] pos) X.env=(do
   let ov<-ZaV o X.env
   Ze8 apos.atName
   let (f,first)<-Zcz [ov] (Zem ov m pl)
   callWith pos f first (Zba pos (ZN (e::es) X.env)) (Zee pos (ZcK [] X.env))):=by rfl) :
  PEi ce X (.Call (.Attribute o m apos) (e::es) [] pos) (Jri m disp mo ma):=by
 intro pj s σ H ι σi h Q E N K
 refine W.methodCall_KW (pl:=pl) (ho.run N K λ v h1 u s1 H1 ι1 N1 n1 r1 K1=>?_) ht
 cases v with
 | ref i =>
  obtain⟨w,rw',a,e1,hi⟩:=r1
  subst e1
  cases rw'
  dsimp only at K1
  cases hh:h1[i]? with
  | none=>rw[hh] at K1;exact Zf K1
  | some ob =>
   cases ob with
   | ins c fs =>
    rw[hh] at K1
    dsimp only at K1
    cases hd1:disp c with
    | none=>rw[hd1] at K1;exact Zf K1
    | some fd1 =>
     obtain⟨f,dvs⟩:=fd1
     cases hl:fs.lookup m with
     | some z=>rw[hd1,hl] at K1;exact Zf K1
     | none =>
      rw[hd1,hl] at K1
      dsimp only at K1
      obtain⟨C,fa,fd,k,ps,ds,hC,cl,hm,F,hr,hb,hdv,hn⟩:=hd c f dvs hd1
      obtain⟨C',dx,vs,hC',hH,rp⟩:=N1.at hh hi
      rw[hC] at hC'
      cases hC'
      refine Jic N1.inv hH cl hm ((RPs.lookup rp).2 hl) ?_
      refine W.callWith_K (first:=[.ref a]) (h₀:=X.base) N1.inv.ok.mod.kin hm.kp ?_ hst hpl
      refine ha pos pj s1 σ H1 ι1 σi h1 _ E N1 ?_
      cases e0:ma σi h1 with
      | exc n h'=>rw[e0] at K1;exact K1
      | stuck=>rw[e0] at K1;exact K1
      | ok xs h' =>
       rw[e0] at K1
       intro us s2 H2 ι2 N2 n2 r2
       have hl:xs.length=us.length:=by
        obtain⟨vs,rv,q⟩:=r2
        rw[<- rv.length,q.length]
       have hl2:=hlen σi h1 xs h' e0
       refine⟨N2.inv.kIn,Jje (us:=.ref a::us) (xs:=.ref i::xs) F hr hb hdv (by rw[Z0];omega) N2 (.cons ⟨.ref a,rfl,a,rfl,n2.at hi⟩ r2) ?_⟩
       exact Kont.mono (r:=(f (.ref i::(xs++dvs)) h')) K1 n2
   | _=>rw[hh] at K1;exact Zf K1
 | _=>exact Zf K1
theorem Ju9 {disp:Str->Option ((List IV->IH->Res IV)×List IV)}{pl:Sem Bool}(ho:PEi ce X o mo)(hd:Joe ce X m 0 disp)
  (ht:ZaV (.Call (.Attribute o m apos) [] [] pos) X.env=(do
   let ov<-ZaV o X.env
   Ze8 apos.atName
   let (f,first)<-Zcz [ov] (Zem ov m pl)
   callWith pos f first (Zba pos (ZN [] X.env)) (Zee pos (ZcK [] X.env))):=by rfl) :
  PEi ce X (.Call (.Attribute o m apos) [] [] pos) (Jri m disp mo Jd):=by
 intro pj s σ H ι σi h Q E N K
 refine W.methodCall_KW (pl:=pl) (ho.run N K λ v h1 u s1 H1 ι1 N1 n1 r1 K1=>?_) ht
 cases v with
 | ref i =>
  obtain⟨w,rw',a,e1,hi⟩:=r1
  subst e1
  cases rw'
  dsimp only at K1
  cases hh:h1[i]? with
  | none=>rw[hh] at K1;exact Zf K1
  | some ob =>
   cases ob with
   | ins c fs =>
    rw[hh] at K1
    dsimp only at K1
    cases hd1:disp c with
    | none=>rw[hd1] at K1;exact Zf K1
    | some fd1 =>
     obtain⟨f,dvs⟩:=fd1
     cases hl:fs.lookup m with
     | some z=>rw[hd1,hl] at K1;exact Zf K1
     | none =>
      rw[hd1,hl] at K1
      dsimp only at K1
      obtain⟨C,fa,fd,k,ps,ds,hC,cl,hm,F,hr,hb,hdv,hn⟩:=hd c f dvs hd1
      obtain⟨C',dx,vs,hC',hH,rp⟩:=N1.at hh hi
      rw[hC] at hC'
      cases hC'
      refine Jic N1.inv hH cl hm ((RPs.lookup rp).2 hl) ?_
      exact W.callWith_K0 (first:=[.ref a]) N1.inv.kIn hm.kp (Jje (us:=[.ref a]) (xs:=[.ref i]) F hr hb hdv (by rw[Z0,Zal];omega) N1 (.cons ⟨.ref a,rfl,a,rfl,hi⟩ .nil) K1)
   | _=>rw[hh] at K1;exact Zf K1
 | _=>exact Zf K1
def eFld (f:Str)(o:E1):E1:=λ σ h=>(o σ h).bind λ v h1=>match v with
 | .ref i=>(match h1[i]? with
  | some (.ins _ fs)=>(match fs.lookup f with
   | some x=>.ok x h1
   | none=>.stuck)
  | _=>.stuck)
 | _=>.stuck
def Jq9 (ce:CeT)(K:W.Frag)(f:Str):Prop:=∀c C,ce c=Za C->Cls K C/\VG K C f
theorem J0u {fl:Str}(ho:PEi ce X o mo)(hf:Jq9 ce X.K fl)(hb:ZcE o fl X.env (ZaV o X.env)=ZaV o X.env:=by rfl):PEi ce X (.Attribute o fl pos) (eFld fl mo):=by
 intro pj s σ H ι σi h Q E N K
 refine Juh hb (ho.run N K λ v h1 u s1 H1 ι1 N1 n1 r1 K1=>?_)
 cases v with
 | ref i =>
  obtain⟨w,rw',a,e1,hi⟩:=r1
  subst e1
  cases rw'
  dsimp only at K1
  cases hh:h1[i]? with
  | none=>rw[hh] at K1;exact Zf K1
  | some ob =>
   cases ob with
   | ins c fs =>
    rw[hh] at K1
    dsimp only at K1
    cases hl:fs.lookup fl with
    | none=>rw[hl] at K1;exact Zf K1
    | some z =>
     rw[hl] at K1
     obtain⟨C,dx,vs,hC,hH,rp⟩:=N1.at hh hi
     obtain⟨cl,na⟩:=hf c C hC
     obtain⟨y,hy,q⟩:=(RPs.lookup rp).1 z hl
     exact Jnk N1.inv hH cl na hy λ u' s2 I2 ru=>K1 u' s2 H1 ι1 ⟨I2,N1.rel,N1.st⟩ .refl ⟨y,ru,q⟩
   | _=>rw[hh] at K1;exact Zf K1
 | _=>exact Zf K1
noncomputable def putI (f:Str)(v:IV):List (Str×IV)->List (Str×IV)
 | []=>[(f,v)]
 | (g,x)::r=>if g=f then(g,v)::r else(g,x)::putI f v r
theorem RPs.put {K:W.Frag}{ι:List Zi}{H:Hp}{fl:Str}{v:IV}{y:V}(q:RV K ι H v y):∀{fs:List (Str×IV)}{vs:List (Str×V)},RPs K ι H fs vs->RPs K ι H (putI fl v fs) (putF fl y vs)
 | [],_,h=>by
  have e:_=[]:=h
  subst e
  exact⟨y,[],rfl,q,rfl⟩
 | (g,x)::r,_,h=>by
  obtain⟨w,vr,e,qx,t⟩:=h
  subst e
  show RPs K ι H (if g=fl then(g,v)::r else(g,x)::putI fl v r) (if g=fl then(g,y)::vr else(g,w)::putF fl y vr)
  by_cases hg:g=fl
  ·rw[if_pos hg,if_pos hg]
   exact⟨y,vr,rfl,q,t⟩
  ·rw[if_neg hg,if_neg hg]
   exact⟨w,_,rfl,qx,RPs.put q t⟩
def QO (f:Str)(o e:E1):S1:=λ σ h=>rS σ (e σ h) λ v h1=>rS σ (o σ h1) λ ov h2=>match ov with
 | .ref i=>(match h2[i]? with
  | some (.ins c fs)=>if fs.length<1000 then .next σ (h2.set i (.ins c (putI f v fs))) else .stuck
  | _=>.stuck)
 | _=>.stuck
theorem J1i {fl:Str}{value:Expr}{mv:E1}{pos':Pos}(ho:PEi ce X o mo)(hv:PEi ce X value mv)(hf:Jq9 ce X.K fl)(hs:Zcs value (Za (.Attribute o fl pos')) pos.line X.env=pure Zc:=by rfl):PS1 ce X (.Assign [.Attribute o fl pos'] value pos) (QO fl mo mv):=by
 intro pj s σ H ι σi h Q E N K
 refine plainObj_wpAny_Assign_Attribute (krun hv N K λ v h1 u s1 H1 ι1 N1 n1 r1 K1=>krun ho N1 K1 λ ov h2 w s2 H2 ι2 N2 n2 r2 K2=>?_) hs
 cases ov with
 | ref i =>
  obtain⟨w,rw',a,e1,hi⟩:=r2
  subst e1
  cases rw'
  dsimp only at K2
  cases hh:h2[i]? with
  | none=>rw[hh] at K2;exact Zf K2
  | some ob =>
   cases ob with
   | ins c fs =>
    rw[hh] at K2
    dsimp only at K2
    split at K2
    ·rename_i hz
     obtain⟨C,dx,vs,hC,hH,rp⟩:=N2.at hh hi
     obtain⟨cl,na⟩:=hf c C hC
     obtain⟨y,ry,q⟩:=r1
     refine Jn4 N2.inv hH cl na (by rw[rp.length];exact hz) ry λ s3 I3=>?_
     have n3:Nxt ι2 H2 ι2 (upd H2 a (.ins C dx (putF fl y vs))):=⟨⟨[],by simp⟩,Ext.upd_mut hH (by rw[hH];exact True.intro)⟩
     obtain⟨R3,_⟩:=N2.rel.write (o:=.ins C dx (putF fl y vs)) (io:=.ins c (putI fl v fs)) hi hH (by rw[hH];exact True.intro) ⟨C,dx,_,hC,J2,RPs.put (RV.mono (n2.trans n3) _ _ q) (RPs.mono n3 _ _ rp)⟩
     exact K2 s3 σ _ ι2 ⟨I3,R3,N2.st.mono n3⟩ n3
    ·exact Zf K2
   | _=>rw[hh] at K2;exact Zf K2
 | _=>exact Zf K2
end
section
variable {ce:CeT}{X:Cx}{a b c:Expr}{ma mb mc:E1}{pos:Pos}
def Jg:IV->IV->IH->Res IV
 | .ref i,.int k,h=>match h[i]? with
  | some (.lst xs)=>(match atI xs k with
   | some v=>.ok v h
   | none=>.stuck)
  | _=>.stuck
 | .rol xs,.int k,h=>match atI xs k with
  | some v=>.ok v h
  | none=>.stuck
 | .tup xs,.int k,h=>match atI xs k with
  | some v=>.ok v h
  | none=>.stuck
 | .str x,.int k,h=>if x.length<=sizeLine then(match atI x.cps.toList k with
  | some c=>.ok (.str ⟨#[c]⟩) h
  | none=>.stuck) else .stuck
 | _,_,_=>.stuck
theorem Jli {K:W.Frag}{ι:List Zi}{H:Hp}{xs:List IV}{vs:List V}{k:Int}{v:IV}(r:RVs K ι H xs vs)(e:atI xs k=Za v):∃u,atI vs k=Za u/\RV K ι H v u:=by
 unfold atI at e ⊢
 rw[r.length]
 cases q:ixN xs.length k with
 | none=>rw[q] at e;cases e
 | some j =>
  rw[q] at e
  exact r.get e
def IxI (ce:CeT)(X:Cx)(g:IV->IV->IH->Res IV):Prop :=
 ∀(value slice:Expr)(pj:PnT)(s:Zj)(σ:L2.St)(H:Hp)(ι:List Zi)(σi:ISt)(h:IH)(x y:IV)(v u:Zg)(Q:QvT)(E:QvT),Now ce X pj ι σi h σ H s->RU X.K ι H x v->RU X.K ι H y u ->
  Kont ce X RU pj ι σi σ H (g x y h) Q E->Zed slice Zc v u=operate [v,u] (Zen v u)->Zz (ZE X.prog X.w) X.A (Zd0 value slice v u) Q E s
theorem Jm8 {pj:PnT}{s:Zj}{σ:L2.St}{H:Hp}{Q:QvT}{E:QvT}{r:R2}{value slice:Expr}{x y:V}{v u:Zg}(p:IxR (X.wish E) r)(I:Inv X pj σ H s)(rx:RelV x v)(ry:RelV y u)
  (k:r x y H λ z H'=>∀u s',Inv X pj σ H' s'->RelV z u->Q u s')(hs:Zed slice Zc v u=operate [v,u] (Zen v u)):Zz (ZE X.prog X.w) X.A (Zd0 value slice v u) Q E s :=
 Zan (p value slice pj s σ H x y v u _ (I.wish E) rx ry k hs) (λ u s' ⟨_,_,I',r,q⟩=>q u s' I'.unwish r) λ _ _ z=>z
theorem x_ix:IxI ce X Jg:=by
 intro value slice pj s σ H ι σi h x y v u Q E N rx ry K hs
 obtain⟨xv,rx,qx⟩:=rx
 obtain⟨yv,ry,qy⟩:=ry
 cases y with
 | int k =>
  have e2:yv=.int k:=qy
  subst e2
  cases x with
  | ref i =>
   obtain⟨a,e1,ha⟩:=qx
   subst e1
   dsimp only[Jg] at K
   cases hi:h[i]? with
   | none=>rw[hi] at K;exact Zf K
   | some ob =>
    rw[hi] at K
    cases ob with
    | lst xs =>
     dsimp only at K
     cases hk:atI xs k with
     | none=>rw[hk] at K;exact Zf K
     | some z =>
      rw[hk] at K
      obtain⟨vs,e1,r1⟩:=N.at hi ha
      obtain⟨w,hw,qw⟩:=Jli r1 hk
      exact Jm8 (Jpq (X:=X.wish E)) N.inv rx ry ⟨a,vs,k,w,rfl,rfl,SqL.of e1,hw,fin0 N K qw⟩ hs
    | _=>exact Zf K
  | rol xs =>
   obtain⟨a,vs,e1,sa,ra⟩:=qx
   subst e1
   dsimp only[Jg] at K
   cases hk:atI xs k with
   | none=>rw[hk] at K;exact Zf K
   | some z =>
    rw[hk] at K
    obtain⟨w,hw,qw⟩:=Jli ra hk
    exact Jm8 (Jpq (X:=X.wish E)) N.inv rx ry ⟨a,vs,k,w,rfl,rfl,sa.sq,hw,fin0 N K qw⟩ hs
  | tup xs =>
   obtain⟨a,vs,e1,sa,ra⟩:=qx
   subst e1
   dsimp only[Jg] at K
   cases hk:atI xs k with
   | none=>rw[hk] at K;exact Zf K
   | some z =>
    rw[hk] at K
    obtain⟨w,hw,qw⟩:=Jli ra hk
    exact Jm8 (Jx9 (X:=X.wish E)) N.inv rx ry ⟨a,vs,k,w,rfl,rfl,sa,hw,fin0 N K qw⟩ hs
  | str x =>
   have e1:xv=.str x:=qx
   subst e1
   dsimp only[Jg] at K
   split at K
   ·rename_i hz
    cases hk:atI x.cps.toList k with
    | none=>rw[hk] at K;exact Zf K
    | some z =>
     rw[hk] at K
     exact Jm8 (Jx8 (X:=X.wish E)) N.inv rx ry ⟨x,k,z,rfl,rfl,hz,hk,fin0 N K rfl⟩ hs
   ·exact Zf K
  | _=>exact Zf K
 | _=>cases x<;>exact Zf K
theorem i_ix {g:IV->IV->IH->Res IV}(hg:IxI ce X g)(ha:PEi ce X a ma)(hb:PEi ce X b mb)(hs:Jof b:=by intro _ _;rfl):PEi ce X (.Subscript a b pos) (Jc g ma mb):=λ pj s σ H ι σi h Q E N K =>
 Subscript_ (ha.run N K λ x h1 u s1 H1 ι1 N1 n1 r1 K1=>hb.run N1 K1 λ y h2 w s2 H2 ι2 N2 n2 r2 K2=>hg a b pj s2 σ H2 ι2 σi h2 x y u w Q E N2 (r1.mono n2) r2 K2 (hs _ _))
abbrev O1:=ISt->IH->Res (Option Int)
def Jz8:REL (Option Int) Zg:=λ _ _ _ o u=>ZeB u o
def PPi (ce:CeT)(X:Cx)(e:Option Expr)(m:O1):Prop:=PX ce X Jz8 (evalPart e X.env) m
noncomputable def Qr:O1:=λ _ h=>.ok Ze h
def JX (e:E1):O1:=λ σ h=>(e σ h).bind λ v h1=>match v with
 | .int i=>.ok (Za i) h1
 | _=>.stuck
theorem Jyy:PPi ce X Ze Qr:=by
 intro pj s σ H ι σi h Q E N K
 rw[evalPart_none]
 exact ZM (K _ s H ι N .refl .none)
theorem Jyz (ha:PEi ce X a ma):PPi ce X (Za a) (JX ma):=by
 intro pj s σ H ι σi h Q E N K
 rw[evalPart_some]
 refine ha.run N K λ x h1 u s1 H1 ι1 N1 n1 r1 K1=>?_
 cases x with
 | int i =>
  obtain⟨w,rw',q⟩:=r1
  have e:w=.int i:=q
  subst e
  obtain⟨t,rfl⟩:=rw'
  exact K1 _ s1 H1 ι1 N1 .refl (.int i t)
 | _=>exact Zf K1
def cutI {α:Type}(xs:List α)(lo hi:Option Int):List α:=(xs.drop (HT.sIx xs.length 0 lo)).take (HT.sIx xs.length xs.length hi-HT.sIx xs.length 0 lo)
def slI:IV->Option Int->Option Int->IH->Res IV
 | .ref i,lo,hi,h=>match h[i]? with
  | some (.lst xs)=>.ok (.ref h.length) (h++[.lst (cutI xs lo hi)])
  | _=>.stuck
 | .rol xs,lo,hi,h=>.ok (.ref h.length) (h++[.lst (cutI xs lo hi)])
 | _,_,_,_=>.stuck
theorem RVs.cut {K:W.Frag}{ι:List Zi}{H:Hp}{xs:List IV}{vs:List V}(r:RVs K ι H xs vs)(lo hi:Option Int):RVs K ι H (cutI xs lo hi) (cutV vs lo hi):=by
 unfold cutI cutV
 rw[r.length]
 exact(r.drop _).take _
def eSl (f:IV->Option Int->Option Int->IH->Res IV)(e:E1)(lo hi:O1):E1:=λ σ h=>(e σ h).bind λ x h1=>(lo σ h1).bind λ l h2=>(hi σ h2).bind λ u h3=>f x l u h3
def SlI (ce:CeT)(X:Cx)(g:IV->Option Int->Option Int->IH->Res IV):Prop :=
 ∀(pj:PnT)(s:Zj)(σ:L2.St)(H:Hp)(ι:List Zi)(σi:ISt)(h:IH)(x:IV)(v vl vu:Zg)(lo hi:Option Int)(sl:Zi)(Q:QvT)(E:QvT),Now ce X pj ι σi h σ H s->RU X.K ι H x v->s.heap.IsSliceOf sl vl vu .none->ZeB vl lo->ZeB vu hi ->
  Kont ce X RU pj ι σi σ H (g x lo hi h) Q E->∃T id,typeLookup (.type T) "__getitem__"=pure (Za (.builtin id))/\s.TypeIs v T/\Zz (ZE X.prog X.w) X.A (Zen v (.ref sl)) Q E s
theorem Jub {pj:PnT}{s:Zj}{σ:L2.St}{H:Hp}{Q:QvT}{E:QvT}{r:V->Option Int->Option Int->Hp->VK->Prop}{x:V}{v vl vu:Zg}{lo hi:Option Int}{sl:Zi}(p:SlR (X.wish E) r)(I:Inv X pj σ H s)(rx:RelV x v)
  (hs:s.heap.IsSliceOf sl vl vu .none)(pl:ZeB vl lo)(pu:ZeB vu hi)(k:r x lo hi H λ z H'=>∀u s',Inv X pj σ H' s'->RelV z u->Q u s') :
  ∃T id,typeLookup (.type T) "__getitem__"=pure (Za (.builtin id))/\s.TypeIs v T/\Zz (ZE X.prog X.w) X.A (Zen v (.ref sl)) Q E s:=by
 obtain⟨T,id,h1,h2,h3⟩:=p pj s σ H x v vl vu lo hi sl _ (I.wish E) rx hs pl pu k
 exact⟨T,id,h1,h2,Zan h3 (λ u s' ⟨_,_,I',r,q⟩=>q u s' I'.unwish r) λ _ _ z=>z⟩
theorem Jva {g:IV->Option Int->Option Int->IH->Res IV}{lo hi:Option Expr}{ml mh:O1}{p2:Pos}(hr:SlI ce X g)(he:PEi ce X a ma)(hl:PPi ce X lo ml)(hu:PPi ce X hi mh):PEi ce X (.Subscript a (.Slice lo hi Ze p2) pos) (eSl g ma ml mh):=by
 intro pj s σ H ι σi h Q E N K
 refine Subscript_ (he.run N K λ x h1 v s1 H1 ι1 N1 n1 r1 K1=>?_)
 refine wpAny_Slice (PX.run hl N1 K1 λ l h2 vl s2 H2 ι2 N2 n2 pl K2=>PX.run hu N2 K2 λ u h3 vu s3 H3 ι3 N3 n3 pu K3=>?_)
 rw[evalPart_none]
 refine ZM ?_
 have I4:Inv X pj σ H3 { s3 with heap:=s3.heap.push { cls:=.type "slice",data:=.fields #[vl,vu,.none] } }:=N3.inv.kept (t':=s3.toks) λ b ob q=>Zm _ q
 obtain⟨T,id,hT,ht,hg⟩:=hr pj { s3 with heap:=s3.heap.push { cls:=.type "slice",data:=.fields #[vl,vu,.none] } } σ H3 ι3 σi h3 x v vl vu l u s3.heap.objs.size Q E ⟨I4,N3.rel,N3.st⟩ ((r1.mono n2).mono n3) (Heap.IsSliceOf.new ..) pl pu K3
 show Zz (ZE X.prog X.w) X.A (Zd0 a (.Slice lo hi Ze p2) v (.ref s3.heap.objs.size)) Q E { s3 with heap:=s3.heap.push { cls:=.type "slice",data:=.fields #[vl,vu,.none] } }
 exact tail_any (ops:=[.ref s3.heap.objs.size,v]) ht hT hg (by with_unfolding_all rfl)
def eCB (f:List IV->IH->Res IV)(a:A1):E1:=λ σ h=>(a σ h).bind f
variable {es:List Expr}{mr:A1}{x:Str}{p:Pos}{id T:String}{g:List IV->IH->Res IV}
theorem YR (hc:QY ce X (.builtin id) g)(hg:Gl X x)(hm:X.mg x=Ze)(hv:Zbo x=Za (.builtin id))(ha:PAi ce X (a::es) mr)(hn:x≠"__name__":=by decide)(hdb:(x==("__debug__":Str))=Zc:=by decide)
  (he:ZN (a::es) X.env=(Zc,ZaV a X.env)::ZN es X.env:=by rfl)(hpl:(Zba pos (ZN es X.env)).any (·.1)=Zc:=by rfl):PEi ce X (.Call (.Name x p) (a::es) [] pos) (eCB g mr):=λ pj s σ H ι σi h Q E N K =>
 Zaz (V7 N.inv hg hm hv (ZbC ((ha pos).run N K λ xs h1 us s1 H1 ι1 N1 n1 r1 K1=>hc pj s1 σ H1 ι1 σi h1 xs us Q E N1 r1 K1) he hpl) hn hdb)
theorem Ji4 (hc:QY ce X (.type T) g)(hg:Gl X x)(hm:X.mg x=Ze)(hv:Zbo x=Za (.type T))(ha:PAi ce X (a::es) mr)(hn:x≠"__name__":=by decide)(hdb:(x==("__debug__":Str))=Zc:=by decide)
  (he:ZN (a::es) X.env=(Zc,ZaV a X.env)::ZN es X.env:=by rfl)(hpl:(Zba pos (ZN es X.env)).any (·.1)=Zc:=by rfl):PEi ce X (.Call (.Name x p) (a::es) [] pos) (eCB g mr):=λ pj s σ H ι σi h Q E N K =>
 Zaz (V7 N.inv hg hm hv (ZaS ((ha pos).run N K λ xs h1 us s1 H1 ι1 N1 n1 r1 K1=>hc pj s1 σ H1 ι1 σi h1 xs us Q E N1 r1 K1) he hpl) hn hdb)
def on1 (f:IV->IH->Res IV):List IV->IH->Res IV
 | [x],h=>f x h
 | _,_=>.stuck
def on2 (f:IV->IV->IH->Res IV):List IV->IH->Res IV
 | [x,y],h=>f x y h
 | _,_=>.stuck
theorem RVs.one_of {K:W.Frag}{ι:List Zi}{H:Hp}{x:IV}{vs:List V}(r:RVs K ι H [x] vs):∃v,vs=[v]/\RV K ι H x v:=by
 obtain⟨v,r',e,q,q2⟩:=r
 have e2:r'=[]:=q2
 subst e2
 exact⟨v,e,q⟩
theorem RVs.two_of {K:W.Frag}{ι:List Zi}{H:Hp}{x y:IV}{vs:List V}(r:RVs K ι H [x,y] vs):∃v w,vs=[v,w]/\RV K ι H x v/\RV K ι H y w:=by
 obtain⟨v,r',e,q,r2⟩:=r
 obtain⟨w,e2,q2⟩:=r2.one_of
 subst e2
 exact⟨v,w,e,q,q2⟩
theorem X3 {fv:Zg}{f:IV->IH->Res IV}(hh:∀(pj:PnT)(s:Zj)(σ:L2.St)(H:Hp)(ι:List Zi)(σi:ISt)(h:IH)(x:IV)(xv:V)(u:Zg)(Q:QvT)(E:QvT),Now ce X pj ι σi h σ H s->RelV xv u->RV X.K ι H x xv ->
  Kont ce X RU pj ι σi σ H (f x h) Q E->Zz (ZE X.prog X.w) X.A (call fv [u]) Q E s):QY ce X fv (on1 f):=by
 intro pj s σ H ι σi h xs us Q E N r K
 obtain⟨vs,rv,q⟩:=r
 match xs,K with
 | [x],K =>
  obtain⟨v,e,qx⟩:=q.one_of
  subst e
  obtain⟨u,rfl,ru⟩:=QG rv
  exact hh pj s σ H ι σi h x v u Q E N ru qx K
 | [],K=>exact Zf K
 | _::_::_,K=>exact Zf K
noncomputable def lenI:IV->IH->Res IV
 | .str x,h=>if x.length<=sizeLine then .ok (.int x.length) h else .stuck
 | .tup xs,h=>.ok (.int xs.length) h
 | .rol xs,h=>.ok (.int xs.length) h
 | .ref i,h=>match h[i]? with
  | some (.lst xs)=>.ok (.int xs.length) h
  | _=>.stuck
 | _,_=>.stuck
theorem Jw4:QY ce X (.builtin "len") (on1 lenI):=X3 λ pj s σ H ι σi h x xv u Q E N ru qx K=>by
 cases x with
 | str y =>
  have e:xv=.str y:=qx
  subst e
  dsimp only[lenI] at K
  split at K
  ·rename_i hz
   exact QU (Jg3 (X:=X.wish E)) N.inv (.cons ru .nil) ⟨_,_,rfl,⟨hz,rfl⟩,fin0 N K rfl⟩
  ·exact Zf K
 | tup xs =>
  obtain⟨a,vs,e1,sa,ra⟩:=qx
  subst e1
  exact QU (Jg3 (X:=X.wish E)) N.inv (.cons ru .nil) ⟨_,xs.length,rfl,.inr ⟨vs,sa,ra.length.symm⟩,fin0 N K rfl⟩
 | rol xs =>
  obtain⟨a,vs,e1,sa,ra⟩:=qx
  subst e1
  exact QU (Jg3 (X:=X.wish E)) N.inv (.cons ru .nil) ⟨_,xs.length,rfl,.inl ⟨vs,sa.sq,ra.length.symm⟩,fin0 N K rfl⟩
 | ref i =>
  obtain⟨a,e1,ha⟩:=qx
  subst e1
  dsimp only[lenI] at K
  cases hi:h[i]? with
  | none=>rw[hi] at K;exact Zf K
  | some ob =>
   rw[hi] at K
   cases ob with
   | lst xs =>
    obtain⟨vs,e1,r1⟩:=N.at hi ha
    exact QU (Jg3 (X:=X.wish E)) N.inv (.cons ru .nil) ⟨_,xs.length,rfl,.inl ⟨vs,SqL.of e1,r1.length.symm⟩,fin0 N K rfl⟩
   | _=>exact Zf K
 | _=>exact Zf K
end
def ALen (n:Nat)(m:A1):Prop:=∀σ h xs h',m σ h=.ok xs h'->xs.length=n
theorem Jra:ALen 0 Jd:=λ _ _ xs _ e=>by
 unfold Jd at e
 cases e
 rfl
theorem Joh {n:Nat}{e:E1}{r:A1}(hr:ALen n r):ALen (n+1) (Ja e r):=λ σ h xs h' q=>by
 unfold Ja at q
 cases e1:e σ h with
 | ok x h1 =>
  rw[e1] at q
  change (r σ h1).bind (λ xs h2=>.ok (x::xs) h2)=_ at q
  cases e2:r σ h1 with
  | ok ys h2 =>
   rw[e2] at q
   cases q
   rw[Z0,hr σ h1 ys _ e2]
  | exc n h2=>rw[e2] at q;cases q
  | stuck=>rw[e2] at q;cases q
 | exc n h1=>rw[e1] at q;cases q
 | stuck=>rw[e1] at q;cases q
def Yk (K:W.Frag)(x:Str)(f:List IV->IH->Res IV):Sp:=λ vs H Q E=>∀ce,spI ce K [x] f vs H Q E
theorem Jrl {P:ZG}{w:ZX}{K:W.Frag}{mg:Str->Option Zg}{base:Zak}{k:Nat}{fa:Zi}{fd:Zax}{x:Str}{f:List IV->IH->Res IV}{ce:CeT}(F:FnOk P w K mg base (CXI P w) k fa fd [x] (spI ce K [x] f)) :
  FnOk P w K mg base (CXI P w) k fa fd [x] (Yk K x f):=F.imp λ _ _ _ _ h=>h ce
theorem Jpw {K:W.Frag}{x:Str}{f:List IV->IH->Res IV}{H:Hp}{a:Zi}{ns:List Int}(hO:Only H)(hS:SqL K H a (ns.map V.int))(hf:∃h',f [.rol (ns.map IV.int)] []=.ok (.bl Zh) h') :
  Yk K x f [.ref a] H (λ v _=>v=.bl Zh) λ _ _ _=>False:=by
 intro ce
 obtain⟨h',hf⟩:=hf
 have sr:SqR K H a (ns.map V.int):=by
  rcases hS with(h|⟨o,h⟩)|h
  ·rcases hO a with z|⟨ob,xs,z⟩
   ·rw[z] at h;cases h
   ·rw[z] at h;cases h
  ·exact .inl ⟨o,h⟩
  ·exact .inr h
 refine⟨rfl,[],[],[.rol (ns.map IV.int)],⟨rfl,List.nodup_nil,λ i o e=>by simp at e⟩,⟨.ref a,[],rfl,⟨a,_,rfl,sr,RVs.ints ns⟩,rfl⟩,?_⟩
 rw[hf]
 intro v H' ι' _ _ q
 exact q
noncomputable def toD (h:IH):Nat->IV->Option ZdM
 | 0=>λ v=>match v with
  | .non=>Za .none
  | .bl b=>Za (.bool b)
  | .int i=>Za (.int i)
  | .str x=>Za (.str x)
  | _=>Ze
 | n+1=>λ v=>match v with
  | .non=>Za .none
  | .bl b=>Za (.bool b)
  | .int i=>Za (.int i)
  | .str x=>Za (.str x)
  | .tup xs=>(xs.mapM (toD h n)).map .tuple
  | .rol xs=>(xs.mapM (toD h n)).map .list
  | .ref i=>match h[i]? with
   | some (.lst xs)=>(xs.mapM (toD h n)).map .list
   | _=>Ze
section
variable {ce:CeT}{X:Cx}
theorem Jdf {pj:PnT}{s:Zj}{σ:L2.St}{H:Hp}{ι:List Zi}{σi:ISt}{h:IH}{n:Nat}(N:Now ce X pj ι σi h σ H s)
  (ih:∀(v:IV)(d:ZdM)(x:V)(u:Zg),toD h n v=Za d->RV X.K ι H v x->RelV x u->∃as,Reads s.heap u d as) :
  ∀(xs:List IV)(ds:List ZdM)(vs:List V)(us:List Zg),xs.mapM (toD h n)=Za ds->RVs X.K ι H xs vs->Vals vs us->∃as,ReadsAll s.heap us ds as
 | [],ds,vs,us,e,q,r=>by
  have e1:vs=[]:=q
  subst e1
  cases r
  simp at e
  subst e
  exact⟨_,.nil⟩
 | x::xs,ds,vs,us,e,q,r=>by
  obtain⟨v,vr,e1,q1,q2⟩:=q
  subst e1
  cases r with
  | cons r1 r2 =>
   rw[List.mapM_cons] at e
   cases e2:toD h n x with
   | none=>rw[e2] at e;cases e
   | some d =>
    rw[e2] at e
    cases e3:xs.mapM (toD h n) with
    | none=>rw[e3] at e;cases e
    | some dr =>
     rw[e3] at e
     cases e
     obtain⟨as,h1⟩:=ih x d v _ e2 q1 r1
     obtain⟨bs,h2⟩:=Jdf N ih xs dr vr _ e3 q2 r2
     exact⟨_,.cons h1 h2⟩
theorem VB {pj:PnT}{s:Zj}{σ:L2.St}{H:Hp}{ι:List Zi}{σi:ISt}{h:IH}(N:Now ce X pj ι σi h σ H s):∀(n:Nat)(v:IV)(d:ZdM)(x:V)(u:Zg),toD h n v=Za d->RV X.K ι H v x->RelV x u->∃as,Reads s.heap u d as:=by
 have flat:∀(v:IV)(d:ZdM)(x:V)(u:Zg),toD h 0 v=Za d->RV X.K ι H v x->RelV x u->∃as,Reads s.heap u d as:=by
  intro v d x u e q r
  cases v with
  | non=>cases e;have e1:x=.non:=q;subst e1;cases r;exact⟨_,.none⟩
  | bl b=>cases e;have e1:x=.bl b:=q;subst e1;cases r;exact⟨_,.bool b⟩
  | int i=>cases e;have e1:x=.int i:=q;subst e1;obtain⟨t,rfl⟩:=r;exact⟨_,.int i t⟩
  | str z=>cases e;have e1:x=.str z:=q;subst e1;obtain⟨t,rfl⟩:=r;exact⟨_,.str z t⟩
  | _=>cases e
 intro n
 induction n with
 | zero=>exact flat
 | succ n ih =>
  intro v d x u e q r
  cases v with
  | non=>exact flat .non d x u e q r
  | bl b=>exact flat (.bl b) d x u e q r
  | int i=>exact flat (.int i) d x u e q r
  | str z=>exact flat (.str z) d x u e q r
  | tup xs =>
   obtain⟨a,vs,e1,sa,ra⟩:=q
   subst e1
   cases r
   obtain⟨ds,e2,rfl⟩:=Z7.mp (show(xs.mapM (toD h n)).map PyData.tuple=Za d from e)
   obtain⟨its,rv,⟨o,ho,hc,m,hd⟩,hz⟩:=N.inv.tuple sa
   obtain⟨as,h1⟩:=Jdf N ih xs ds vs its e2 ra rv
   exact⟨_,.tuple ho hc hd h1⟩
  | rol xs =>
   obtain⟨a,vs,e1,sa,ra⟩:=q
   subst e1
   cases r
   obtain⟨ds,e2,rfl⟩:=Z7.mp (show(xs.mapM (toD h n)).map Zef=Za d from e)
   obtain⟨its,rv,⟨o,m,ho,hc,_,hd⟩,hz⟩:=N.inv.list sa.sq
   obtain⟨as,h1⟩:=Jdf N ih xs ds vs its e2 ra rv
   exact⟨_,.list ho hc hd h1⟩
  | ref i =>
   obtain⟨a,e1,ha⟩:=q
   subst e1
   cases r
   have e':(match h[i]? with|some (.lst xs)=>(xs.mapM (toD h n)).map Zef|_=>Ze)=Za d:=e
   cases hi:h[i]? with
   | none=>rw[hi] at e';cases e'
   | some ob =>
    rw[hi] at e'
    cases ob with
    | lst xs =>
     obtain⟨ds,e2,rfl⟩:=Z7.mp e'
     obtain⟨vs,e1,r1⟩:=N.at hi ha
     obtain⟨its,rv,⟨o,m,ho,hc,_,hd⟩,hz⟩:=N.inv.list (SqL.of e1)
     obtain⟨as,h1⟩:=Jdf N ih xs ds vs its e2 r1 rv
     exact⟨_,.list ho hc hd h1⟩
    | _=>cases e'
theorem Jde {n:Nat}{f:IV->Option ZdM}(hf:∀v d,f v=Za d->d.depth<=n):∀(xs:List IV)(ds:List ZdM),xs.mapM f=Za ds->PyData.depthAll ds<=n
 | [],ds,e=>by simp at e;subst e;exact Zar _
 | x::xs,ds,e=>by
  rw[List.mapM_cons] at e
  cases e2:f x with
  | none=>rw[e2] at e;cases e
  | some d =>
   rw[e2] at e
   cases e3:xs.mapM f with
   | none=>rw[e3] at e;cases e
   | some dr =>
    rw[e3] at e
    cases e
    have h1:=hf x d e2
    have h2:=Jde hf xs dr e3
    show max d.depth (PyData.depthAll dr)<=n
    omega
theorem Jf7 {h:IH}:∀(n:Nat)(v:IV)(d:ZdM),toD h n v=Za d->d.depth<=n:=by
 intro n
 induction n with
 | zero =>
  intro v d e
  cases v<;>cases e<;>exact Zu _
 | succ n ih =>
  intro v d e
  cases v with
  | non=>cases e;exact Zar _
  | bl b=>cases e;exact Zar _
  | int i=>cases e;exact Zar _
  | str z=>cases e;exact Zar _
  | tup xs =>
   obtain⟨ds,e2,rfl⟩:=Z7.mp (show(xs.mapM (toD h n)).map PyData.tuple=Za d from e)
   exact ZdC (Jde ih xs ds e2)
  | rol xs =>
   obtain⟨ds,e2,rfl⟩:=Z7.mp (show(xs.mapM (toD h n)).map Zef=Za d from e)
   exact ZdC (Jde ih xs ds e2)
  | ref i =>
   have e':(match h[i]? with|some (.lst xs)=>(xs.mapM (toD h n)).map Zef|_=>Ze)=Za d:=e
   cases hi:h[i]? with
   | none=>rw[hi] at e';cases e'
   | some ob =>
    rw[hi] at e'
    cases ob with
    | lst xs =>
     obtain⟨ds,e2,rfl⟩:=Z7.mp e'
     exact ZdC (Jde ih xs ds e2)
    | _=>cases e'
noncomputable def Nh:IV->IV->Option Bool
 | .non,.non=>Za Zh
 | .int i,.int j=>Za (decide (i=j))
 | .str i,.str j=>Za (decide (i=j))
 | .bl i,.bl j=>Za (decide (i=j))
 | _,_=>Ze
noncomputable def XW (x y:IV)(h:IH):Option Bool:=match toD h 6 x,toD h 6 y with
 | some a,Za b=>if a.canLay0=Zh/\b.canLay0=Zh then Za (Zbm a b) else Ze
 | _,_=>Ze
noncomputable def cEq (x y:IV)(h:IH):Res IV:=match Nh x y with
 | some b=>.ok (.bl b) h
 | none=>match XW x y h with
  | some b=>.ok (.bl b) h
  | none=>.stuck
noncomputable def cNe (x y:IV)(h:IH):Res IV:=match Nh x y with
 | some b=>.ok (.bl (!b)) h
 | none=>match XW x y h with
  | some b=>.ok (.bl (!b)) h
  | none=>.stuck
theorem Jmk {x y:IV}{h:IH}{b:Bool}(e:XW x y h=Za b):∃da db,toD h 6 x=Za da/\toD h 6 y=Za db/\da.canLay0=Zh/\db.canLay0=Zh/\b=Zbm da db:=by
 unfold XW at e
 cases e1:toD h 6 x with
 | none=>rw[e1] at e;cases e
 | some da =>
  cases e2:toD h 6 y with
  | none=>rw[e1,e2] at e;cases e
  | some db =>
   rw[e1,e2] at e
   dsimp only at e
   split at e
   ·rename_i hz
    cases e
    exact⟨da,db,rfl,rfl,hz.1,hz.2,rfl⟩
   ·cases e
theorem Jkz {K:W.Frag}{ι:List Zi}{H:Hp}{x y:IV}{b:Bool}{xv yv:V}(e:Nh x y=Za b)(qx:RV K ι H x xv)(qy:RV K ι H y yv):scal xv yv=Zh/\decide (xv=yv)=b:=by
 cases x with
 | non =>
  cases y with
  | non=>cases e;cases (show xv=.non from qx);cases (show yv=.non from qy);exact⟨rfl,rfl⟩
  | _=>cases e
 | int i =>
  cases y with
  | int j=>cases e;cases (show xv=.int i from qx);cases (show yv=.int j from qy);exact⟨rfl,by simp⟩
  | _=>cases e
 | str i =>
  cases y with
  | str j=>cases e;cases (show xv=.str i from qx);cases (show yv=.str j from qy);exact⟨rfl,by simp⟩
  | _=>cases e
 | bl i =>
  cases y with
  | bl j=>cases e;cases (show xv=.bl i from qx);cases (show yv=.bl j from qy);exact⟨rfl,by simp⟩
  | _=>cases e
 | _=>cases y<;>cases e
theorem o_eq (hu:X.A.units+64<Zeq):OpI ce X (Zav .Eq) cEq:=by
 intro pj s σ H ι σi h x y v u Q E N rx ry K
 obtain⟨xv,rx,qx⟩:=rx
 obtain⟨yv,ry,qy⟩:=ry
 unfold cEq at K
 cases es:Nh x y with
 | some b =>
  rw[es] at K
  obtain⟨h1,h2⟩:=Jkz es qx qy
  exact Q4 (J03 (X:=X.wish E)) N.inv rx ry ⟨h1,by rw[h2];exact fin0 N K rfl⟩
 | none =>
  rw[es] at K
  dsimp only at K
  cases ed:XW x y h with
  | none=>rw[ed] at K;exact Zf K
  | some b =>
   rw[ed] at K
   obtain⟨da,db,e1,e2,c1,c2,rfl⟩:=Jmk ed
   obtain⟨as,r1⟩:=VB N 6 x da xv v e1 qx rx
   obtain⟨bs,r2⟩:=VB N 6 y db yv u e2 qy ry
   have d1:=Jf7 6 x da e1
   exact PySem.SeqAt.compareEq_reads r1 r2 c1 c2 (by omega) (fin0 N K rfl _ s N.inv rfl)
theorem o_ne (hu:X.A.units+64<Zeq):OpI ce X (Zav .NotEq) cNe:=by
 intro pj s σ H ι σi h x y v u Q E N rx ry K
 obtain⟨xv,rx,qx⟩:=rx
 obtain⟨yv,ry,qy⟩:=ry
 unfold cNe at K
 cases es:Nh x y with
 | some b =>
  rw[es] at K
  obtain⟨h1,h2⟩:=Jkz es qx qy
  exact Q4 (J08 (X:=X.wish E)) N.inv rx ry ⟨h1,by rw[h2];exact fin0 N K rfl⟩
 | none =>
  rw[es] at K
  dsimp only at K
  cases ed:XW x y h with
  | none=>rw[ed] at K;exact Zf K
  | some b =>
   rw[ed] at K
   obtain⟨da,db,e1,e2,c1,c2,rfl⟩:=Jmk ed
   obtain⟨as,r1⟩:=VB N 6 x da xv v e1 qx rx
   obtain⟨bs,r2⟩:=VB N 6 y db yv u e2 qy ry
   have d1:=Jf7 6 x da e1
   exact PySem.SeqAt.compareNe_reads r1 r2 c1 c2 (by omega) (fin0 N K rfl _ s N.inv rfl)
def inI (x c:IV)(h:IH):Option Bool:=match toD h 6 c,toD h 6 x with
 | some (.list ds),Za d=>if ZbQ ds=Zh/\d.canLay0=Zh then Za (ds.any λ y=>Zbm y d) else Ze
 | some (.tuple ds),Za d=>if ZbQ ds=Zh/\d.canLay0=Zh then Za (ds.any λ y=>Zbm y d) else Ze
 | _,_=>Ze
noncomputable def cIn (x c:IV)(h:IH):Res IV:=match inI x c h with
 | some b=>.ok (.bl b) h
 | none=>.stuck
def Jot (x c:IV)(h:IH):Res IV:=match inI x c h with
 | some b=>.ok (.bl (!b)) h
 | none=>.stuck
theorem Jtl {x c:IV}{h:IH}{b:Bool}(e:inI x c h=Za b):∃ds d,(toD h 6 c=Za (.list ds)∨toD h 6 c=Za (.tuple ds))/\toD h 6 x=Za d/\ZbQ ds=Zh/\d.canLay0=Zh/\b=ds.any λ y=>Zbm y d:=by
 unfold inI at e
 cases e1:toD h 6 c with
 | none=>rw[e1] at e;cases e
 | some dc =>
  cases e2:toD h 6 x with
  | none=>rw[e1,e2] at e;cases dc<;>cases e
  | some d =>
   rw[e1,e2] at e
   cases dc with
   | list ds =>
    dsimp only at e
    split at e
    ·rename_i hz;cases e;exact⟨ds,d,.inl rfl,rfl,hz.1,hz.2,rfl⟩
    ·cases e
   | tuple ds =>
    dsimp only at e
    split at e
    ·rename_i hz;cases e;exact⟨ds,d,.inr rfl,rfl,hz.1,hz.2,rfl⟩
    ·cases e
   | _=>cases e
theorem o_in (hu:X.A.units+64<Zeq):OpI ce X (Zav .In) cIn:=by
 intro pj s σ H ι σi h x y v u Q E N rx ry K
 obtain⟨xv,rx,qx⟩:=rx
 obtain⟨yv,ry,qy⟩:=ry
 unfold cIn at K
 cases ei:inI x y h with
 | none=>rw[ei] at K;exact Zf K
 | some b =>
  rw[ei] at K
  obtain⟨ds,d,hc,e2,c1,c2,rfl⟩:=Jtl ei
  obtain⟨bs,r2⟩:=VB N 6 x d xv v e2 qx rx
  have d2:=Jf7 6 x d e2
  rcases hc with e1|e1
  ·obtain⟨as,r1⟩:=VB N 6 y _ yv u e1 qy ry
   exact PySem.SeqAt.in_list_reads r1 r2 c1 c2 (by omega) (fin0 N K rfl _ s N.inv rfl)
  ·obtain⟨as,r1⟩:=VB N 6 y _ yv u e1 qy ry
   exact PySem.SeqAt.in_tuple_reads r1 r2 c1 c2 (by omega) (fin0 N K rfl _ s N.inv rfl)
theorem Jvq (hu:X.A.units+64<Zeq):OpI ce X (Zav .NotIn) Jot:=by
 intro pj s σ H ι σi h x y v u Q E N rx ry K
 obtain⟨xv,rx,qx⟩:=rx
 obtain⟨yv,ry,qy⟩:=ry
 unfold Jot at K
 cases ei:inI x y h with
 | none=>rw[ei] at K;exact Zf K
 | some b =>
  rw[ei] at K
  obtain⟨ds,d,hc,e2,c1,c2,rfl⟩:=Jtl ei
  obtain⟨bs,r2⟩:=VB N 6 x d xv v e2 qx rx
  have d2:=Jf7 6 x d e2
  rcases hc with e1|e1
  ·obtain⟨as,r1⟩:=VB N 6 y _ yv u e1 qy ry
   exact PySem.SeqAt.notIn_list_reads r1 r2 c1 c2 (by omega) (fin0 N K rfl _ s N.inv rfl)
  ·obtain⟨as,r1⟩:=VB N 6 y _ yv u e1 qy ry
   exact PySem.SeqAt.notIn_tuple_reads r1 r2 c1 c2 (by omega) (fin0 N K rfl _ s N.inv rfl)
noncomputable def isI:IV->IV->Option Bool
 | .non,.non=>Za Zh
 | .bl a,.bl b=>Za (a==b)
 | .bl _,.non=>Za Zc
 | .int _,.non=>Za Zc
 | .str _,.non=>Za Zc
 | .tup _,.non=>Za Zc
 | .rol _,.non=>Za Zc
 | .ref _,.non=>Za Zc
 | .non,.bl _=>Za Zc
 | .int _,.bl _=>Za Zc
 | .str _,.bl _=>Za Zc
 | .tup _,.bl _=>Za Zc
 | .rol _,.bl _=>Za Zc
 | .ref _,.bl _=>Za Zc
 | _,_=>Ze
noncomputable def cIs (x y:IV)(h:IH):Res IV:=match isI x y with
 | some b=>.ok (.bl b) h
 | none=>.stuck
noncomputable def Jos (x y:IV)(h:IH):Res IV:=match isI x y with
 | some b=>.ok (.bl (!b)) h
 | none=>.stuck
theorem Jtn {K:W.Frag}{ι:List Zi}{H:Hp}{x y:IV}{b:Bool}{v u:Zg}(e:isI x y=Za b)(rx:RU K ι H x v)(ry:RU K ι H y u):plainIs v u=Zh/\(v==u)=b:=by
 obtain⟨xv,rx,qx⟩:=rx
 obtain⟨yv,ry,qy⟩:=ry
 cases y with
 | non =>
  cases (show yv=.non from qy)
  cases ry
  cases x with
  | non=>cases e;cases (show xv=.non from qx);cases rx;exact⟨rfl,rfl⟩
  | bl c=>cases e;cases (show xv=.bl c from qx);cases rx;exact⟨rfl,rfl⟩
  | int c=>cases e;cases (show xv=.int c from qx);obtain⟨t,rfl⟩:=rx;exact⟨rfl,rfl⟩
  | str c=>cases e;cases (show xv=.str c from qx);obtain⟨t,rfl⟩:=rx;exact⟨rfl,rfl⟩
  | tup c=>cases e;obtain⟨a,vs,rfl,_⟩:=qx;cases rx;exact⟨rfl,rfl⟩
  | rol c=>cases e;obtain⟨a,vs,rfl,_⟩:=qx;cases rx;exact⟨rfl,rfl⟩
  | ref c=>cases e;obtain⟨a,rfl,_⟩:=qx;cases rx;exact⟨rfl,rfl⟩
 | bl d =>
  cases (show yv=.bl d from qy)
  cases ry
  cases x with
  | non=>cases e;cases (show xv=.non from qx);cases rx;exact⟨rfl,rfl⟩
  | bl c=>cases e;cases (show xv=.bl c from qx);cases rx;cases c<;>cases d<;>exact⟨rfl,rfl⟩
  | int c=>cases e;cases (show xv=.int c from qx);obtain⟨t,rfl⟩:=rx;exact⟨rfl,rfl⟩
  | str c=>cases e;cases (show xv=.str c from qx);obtain⟨t,rfl⟩:=rx;exact⟨rfl,rfl⟩
  | tup c=>cases e;obtain⟨a,vs,rfl,_⟩:=qx;cases rx;exact⟨rfl,rfl⟩
  | rol c=>cases e;obtain⟨a,vs,rfl,_⟩:=qx;cases rx;exact⟨rfl,rfl⟩
  | ref c=>cases e;obtain⟨a,rfl,_⟩:=qx;cases rx;exact⟨rfl,rfl⟩
 | _=>cases x<;>cases e
theorem o_is:OpI ce X (Zav .Is) cIs:=by
 intro pj s σ H ι σi h x y v u Q E N rx ry K
 unfold cIs at K
 cases ei:isI x y with
 | none=>rw[ei] at K;exact Zf K
 | some b =>
  rw[ei] at K
  obtain⟨h1,h2⟩:=Jtn ei rx ry
  exact wpAny_is_plain h1 (by rw[h2];exact fin0 N K rfl _ s N.inv rfl)
theorem Jvp:OpI ce X (Zav .IsNot) Jos:=by
 intro pj s σ H ι σi h x y v u Q E N rx ry K
 unfold Jos at K
 cases ei:isI x y with
 | none=>rw[ei] at K;exact Zf K
 | some b =>
  rw[ei] at K
  obtain⟨h1,h2⟩:=Jtn ei rx ry
  exact wpAny_isNot_plain h1 (by rw[h2];exact fin0 N K rfl _ s N.inv rfl)
inductive Ty where
 | non|bl|int|str|lst|tup|dct|ins (c:Str)|exc (c:Str)
noncomputable def tyI:IV->IH->Option Ty
 | .non,_=>Za .non
 | .bl _,_=>Za .bl
 | .int _,_=>Za .int
 | .str _,_=>Za .str
 | .tup _,_=>Za .tup
 | .rol _,_=>Za .lst
 | .ref i,h=>match h[i]? with
  | some (.lst _)=>Za .lst
  | some (.dct _)=>Za .dct
  | some (.ins c _)=>Za (.ins c)
  | some (.exc c _)=>Za (.exc c)
  | some (.hld c _)=>Za (.exc c)
  | _=>Ze
structure ClsI (K:W.Frag)(C:Zi):Prop where
 cl:Cls K C
 ha:W.findIn K (.ref C) "__class__"=Za (Za (.builtin "object.__class__"))
 hn:W.specialIn K (.builtin "object.__class__") "__get__"=Za (Za (.builtin "getset_descriptor.__get__"))
 htk:W.takesIn K (.builtin "object.__class__")=Za Zh
 hm:W.mroIn K C (.type "object")=Za Zh
structure IsOk (ce:CeT)(K:W.Frag)(c:Zg)(ans:Ty->Option Bool):Prop where
 non:∀b,ans .non=Za b->W.kitOne K (.type "NoneType") c=Za b
 bl:∀b,ans .bl=Za b->W.kitOne K (.type "bool") c=Za b
 int:∀b,ans .int=Za b->W.kitOne K (.type "int") c=Za b
 str:∀b,ans .str=Za b->W.kitOne K (.type "str") c=Za b
 lst:∀b,ans .lst=Za b->W.kitOne K (.type "list") c=Za b
 tup:∀b,ans .tup=Za b->W.kitOne K (.type "tuple") c=Za b
 dct:∀b,ans .dct=Za b->W.kitOne K (.type "dict") c=Za b
 ins:∀k C b,ans (.ins k)=Za b->ce k=Za C->ClsI K C/\W.kitOne K (.ref C) c=Za b
 exc:∀k C b,ans (.exc k)=Za b->W.nsIn K Zp k=Za (Za (.ref C))->ExI K C/\W.kitOne K (.ref C) c=Za b
def eIsi (ans:Ty->Option Bool)(e:E1):E1:=λ σ h=>(e σ h).bind λ v h1=>match (tyI v h1).bind ans with
 | some b=>.ok (.bl b) h1
 | none=>.stuck
theorem Jvd {pj:PnT}{s:Zj}{σ:L2.St}{H:Hp}{ι:List Zi}{σi:ISt}{h:IH}{x:IV}{u c:Zg}{ans:Ty->Option Bool}{b:Bool}{Q:QvT}{E:QvT}{A:ZO}(N:Now ce X pj ι σi h σ H s)(rx:RU X.K ι H x u)(O:IsOk ce X.K c ans)
  (e:(tyI x h).bind ans=Za b)(hq:∀tk,Q (.bool b) { s with toks:=tk }):Zz (ZE X.prog X.w) A (call (.builtin "isinstance") [u,c]) Q E s:=by
 obtain⟨xv,rx,qx⟩:=rx
 cases x with
 | non=>cases (show xv=.non from qx);cases rx;exact W.kia_one W.kitx_none N.inv.kIn True.intro (O.non b e) (λ z=>nomatch z) hq
 | bl i=>cases (show xv=.bl i from qx);cases rx;exact W.kia_one W.kitx_bool N.inv.kIn True.intro (O.bl b e) (λ z=>nomatch z) hq
 | int i=>cases (show xv=.int i from qx);obtain⟨t,rfl⟩:=rx;exact W.kia_one W.kitx_int N.inv.kIn True.intro (O.int b e) (λ z=>nomatch z) hq
 | str i=>cases (show xv=.str i from qx);obtain⟨t,rfl⟩:=rx;exact W.kia_one W.kitx_str N.inv.kIn True.intro (O.str b e) (λ z=>nomatch z) hq
 | tup xs =>
  obtain⟨a,vs,rfl,sa,_⟩:=qx
  cases rx
  obtain⟨its,rv,⟨o,ho,hc,m,hd⟩,hz⟩:=N.inv.tuple sa
  exact W.kia_one W.kitx_tuple N.inv.kIn ⟨o,ho,hc⟩ (O.tup b e) (λ z=>nomatch z) hq
 | rol xs =>
  obtain⟨a,vs,rfl,sa,_⟩:=qx
  cases rx
  obtain⟨its,rv,⟨o,m,ho,hc,_,hd⟩,hz⟩:=N.inv.list sa.sq
  exact W.kia_one W.kitx_list N.inv.kIn ⟨o,ho,hc⟩ (O.lst b e) (λ z=>nomatch z) hq
 | ref i =>
  obtain⟨a,rfl,ha⟩:=qx
  cases rx
  cases hi:h[i]? with
  | none=>simp[tyI,hi] at e
  | some ob =>
   cases ob with
   | lst xs =>
    simp only[tyI,hi] at e
    obtain⟨vs,e1,r1⟩:=N.at hi ha
    obtain⟨its,rv,⟨o,m,ho,hc,_,hd⟩,hz⟩:=N.inv.list (SqL.of e1)
    exact W.kia_one W.kitx_list N.inv.kIn ⟨o,ho,hc⟩ (O.lst b e) (λ z=>nomatch z) hq
   | dct kvs =>
    simp only[tyI,hi] at e
    obtain⟨vs,e1,r1⟩:=N.at hi ha
    obtain⟨_,_,ws,_,p⟩:=(show Qa X.prog X.w H s.heap a (.dK vs) from N.inv.hok a _ e1)
    obtain⟨o,es,ep,h1,h2,_⟩:=p
    exact W.kia_one W.kitx_dict N.inv.kIn ⟨o,h1,h2.1⟩ (O.dct b e) (λ z=>nomatch z) hq
   | ins c fs =>
    simp only[tyI,hi] at e
    obtain⟨C,dx,vs,hC,hH,rp⟩:=N.at hi ha
    obtain⟨I,hk⟩:=O.ins c C b e hC
    obtain⟨mA,Ob,_⟩:=Ji5 N.inv.hok hH
    obtain⟨od,J,_⟩:=Ob.look
    exact W.kia_one (W.kitx_own (I.cl.get _) I.cl.hd I.ha I.hn I.htk I.hm) N.inv.kIn J hk (λ z=>nomatch z) hq
   | exc c fs =>
    simp only[tyI,hi] at e
    obtain⟨C,tv,d,_,hC,hH,_⟩:=N.at hi ha
    obtain⟨I,hk⟩:=O.exc c C b e hC
    obtain⟨oe,vs,e1,e2,_⟩:=ExF.get N.inv.hok hH
    exact W.kia_one (Jmt I) N.inv.kIn ⟨oe,e1,e2⟩ hk (λ z=>nomatch z) hq
   | hld c fs =>
    simp only[tyI,hi] at e
    obtain⟨C,oe,u,vs,_,hC,hH,e2,_⟩:=N.at hi ha
    obtain⟨I,hk⟩:=O.exc c C b e hC
    exact W.kia_one (Jmt I) N.inv.kIn ⟨oe,(N.inv.hok a _ hH).1,e2⟩ hk (λ z=>nomatch z) hq
   | tab q=>simp[tyI,hi] at e
variable {a cx:Expr}{ma:E1}{pos p:Pos}
def ClsE (X:Cx)(cx:Expr)(c:Zg):Prop:=∀(pj:PnT)(σ:L2.St)(H:Hp)(s:Zj)(Q:QvT)(E:QvT),Inv X pj σ H s->Q c s->Zz (ZE X.prog X.w) X.A (ZaV cx X.env) Q E s
theorem X4 {x:Str}{c:Zg}(hg:Gl X x)(hm:X.mg x=Ze)(hv:Zbo x=Za c)(hn:x≠"__name__":=by decide)(hdb:(x==("__debug__":Str))=Zc:=by decide):ClsE X (.Name x p) c:=λ _ _ _ _ _ _ I q=>V7 I hg hm hv q hn hdb
theorem Jll {x:Str}{c:Zg}(hg:Gl X x)(hm:X.mg x=Za c)(hdb:(x==("__debug__":Str))=Zc:=by decide):ClsE X (.Name x p) c:=λ _ _ _ _ _ _ I q=>Xg I hg hm q hdb
theorem Jxw {ans:Ty->Option Bool}{c:Zg}(hc:ClsE X cx c)(O:IsOk ce X.K c ans)(ha:PEi ce X a ma)(hg:Gl X "isinstance")(hm:X.mg "isinstance"=Ze)(hv:Zbo "isinstance"=Za (.builtin "isinstance"):=by rfl)
  (he:ZN [a,cx] X.env=(Zc,ZaV a X.env)::ZN [cx] X.env:=by rfl)(he2:ZN [cx] X.env=(Zc,ZaV cx X.env)::ZN [] X.env:=by rfl)(hpl:(Zba pos (ZN [cx] X.env)).any (·.1)=Zc:=by rfl):PEi ce X (.Call (.Name "isinstance" p) [a,cx] [] pos) (eIsi ans ma):=by
 intro pj s σ H ι σi h Q E N K
 refine Zaz (V7 N.inv hg hm hv ?_ (by decide) (by decide))
 refine ZbC ?_ he hpl
 rw[he]
 show Zz _ _ (spliced ((Zc,ZaV a X.env)::Zba pos (ZN [cx] X.env))) _ _ s
 refine Zdj (ha.run N K λ x h1 u s1 H1 ι1 N1 n1 r1 K1=>?_)
 rw[he2]
 show Zz _ _ (spliced ((Zc,ZaV cx X.env)::Zba pos (ZN [] X.env))) _ _ s1
 refine Zdj (hc pj σ H1 s1 _ E N1.inv ?_)
 refine Calls.spliced_nil ?_
 cases e:(tyI x h1).bind ans with
 | none=>rw[e] at K1;exact Zf K1
 | some b =>
  rw[e] at K1
  exact Jvd N1 r1 O e λ tk=>K1 _ _ H1 ι1 ⟨N1.inv.tok tk,N1.rel,N1.st⟩ .refl ⟨.bl b,rfl,rfl⟩
def JM:Ty->Option Bool
 | .int=>Za Zh|.bl=>Za Zh|.ins _=>Ze|.exc _=>Ze|_=>Za Zc
def JL:Ty->Option Bool
 | .bl=>Za Zh|.ins _=>Ze|.exc _=>Ze|_=>Za Zc
def J6:Ty->Option Bool
 | .str=>Za Zh|.ins _=>Ze|.exc _=>Ze|_=>Za Zc
def JH:Ty->Option Bool
 | .lst=>Za Zh|.ins _=>Ze|.exc _=>Ze|_=>Za Zc
def JP:Ty->Option Bool
 | .tup=>Za Zh|.ins _=>Ze|.exc _=>Ze|_=>Za Zc
theorem Jpm {K:W.Frag}:IsOk ce K (.type "bool") JL:=by
 refine⟨?_,?_,?_,?_,?_,?_,?_,(λ k C b e=>by cases e),(λ k C b e=>by cases e)⟩<;>(intro b e;cases e;first|rfl|with_unfolding_all rfl|kernel_rfl)
theorem Jrx {K:W.Frag}:IsOk ce K (.type "str") J6:=by
 refine⟨?_,?_,?_,?_,?_,?_,?_,(λ k C b e=>by cases e),(λ k C b e=>by cases e)⟩<;>(intro b e;cases e;first|rfl|with_unfolding_all rfl|kernel_rfl)
theorem Jka {K:W.Frag}:IsOk ce K (.type "list") JH:=by
 refine⟨?_,?_,?_,?_,?_,?_,?_,(λ k C b e=>by cases e),(λ k C b e=>by cases e)⟩<;>(intro b e;cases e;first|rfl|with_unfolding_all rfl|kernel_rfl)
theorem Jry {K:W.Frag}:IsOk ce K (.type "tuple") JP:=by
 refine⟨?_,?_,?_,?_,?_,?_,?_,(λ k C b e=>by cases e),(λ k C b e=>by cases e)⟩<;>(intro b e;cases e;first|rfl|with_unfolding_all rfl|kernel_rfl)
theorem Jrw {K:W.Frag}:IsOk ce K (.type "int") JM:=by
 refine⟨?_,?_,?_,?_,?_,?_,?_,(λ k C b e=>by cases e),(λ k C b e=>by cases e)⟩<;>(intro b e;cases e;first|rfl|with_unfolding_all rfl|kernel_rfl)
end
def clOf (cells:List (Str×Zi)):List (Str×ZaX)->List (Str×Zi)->List (Str×Zi)
 | [],acc=>acc
 | (n,k)::r,acc=>clOf cells r (if (k==Za8)=Zh then(match cells.lookup n with|some c=>(n,c)::acc|none=>acc) else acc)
theorem Jh1 {env:Env}(names:List (Str×ZaX))(acc:List (Str×Zi))(h:∀x∈names,x.2=.free->∃c,env.cells.lookup x.1=Za c) :
  (forIn names acc (λ (x:Str×ZaX)(r:List (Str×Zi))=>if (x.2==Za8)=Zh then(do let c<-cellOf env x.1;pure (ZaN ((x.1,c)::r))) else pure (ZaN r)):Sem (List (Str×Zi)))=pure (clOf env.cells names acc):=by
 induction names generalizing acc with
 | nil=>rfl
 | cons x r ih =>
  obtain⟨n,k⟩:=x
  have ih':=λ a=>ih a λ y hy=>h y (Zs _ hy)
  rw[List.forIn_cons]
  by_cases hk:(k==Za8)=Zh
  ·have hk':k=.free:=by
    cases k<;>first|rfl|exact absurd hk (by decide)
   obtain⟨c,hc⟩:=h (n,k) Zv hk'
   have e1:cellOf env n=pure c:=by unfold cellOf;rw[hc]
   simp only[hk,if_true,e1,pure_bind]
   rw[ih']
   simp only[clOf,hk,if_true,hc]
  ·simp only[hk,ZD,if_false,pure_bind]
   rw[ih']
   simp only[clOf,hk,ZD,if_false]
theorem Ji0 {scope:Zbw}{env:Env}(h:∀x∈scope.names,x.2=.free->∃c,env.cells.lookup x.1=Za c):closureFor scope env=pure (clOf env.cells scope.names []):=by
 have e:=Jh1 (env:=env) scope.names [] h
 have e2:closureFor scope env=((forIn scope.names [] (λ (x:Str×ZaX)(r:List (Str×Zi))=>if (x.2==Za8)=Zh then(do let c<-cellOf env x.1;pure (ZaN ((x.1,c)::r))) else pure (ZaN r)):Sem (List (Str×Zi)))>>=λ s=>pure s):=rfl
 rw[e2,e]
 rfl
theorem Jmi {cells:List (Str×Zi)}:∀(names:List (Str×ZaX))(acc:List (Str×Zi)),(∀x c,acc.lookup x=Za c->cells.lookup x=Za c)->∀x c,(clOf cells names acc).lookup x=Za c->cells.lookup x=Za c
 | [],_,h,x,c,e=>h x c e
 | (n,k)::r,acc,h,x,c,e=>by
  refine Jmi r _ ?_ x c e
  intro y d q
  split at q
  ·cases hc:cells.lookup n with
   | none=>rw[hc] at q;exact h y d q
   | some a =>
    rw[hc] at q
    simp only[Zai] at q
    cases hb:y==n with
    | true =>
     rw[hb] at q
     cases q
     rw[beq_iff_eq.mp hb]
     exact hc
    | false =>
     rw[hb] at q
     exact h y d q
  ·exact h y d q
theorem Jjx {cells:List (Str×Zi)}:∀(names:List (Str×ZaX))(acc:List (Str×Zi))(x:Str),(acc.lookup x).isSome=Zh->((clOf cells names acc).lookup x).isSome=Zh
 | [],_,_,h=>h
 | (n,k)::r,acc,x,h=>by
  refine Jjx r _ x ?_
  split
  ·cases hc:cells.lookup n with
   | none=>exact h
   | some a =>
    simp only[Zai]
    cases hb:x==n with
    | true=>rfl
    | false=>exact h
  ·exact h
theorem Jiz {cells:List (Str×Zi)}:∀(names:List (Str×ZaX))(acc:List (Str×Zi))(x:Str)(c:Zi),(x,Za8)∈names->cells.lookup x=Za c->((clOf cells names acc).lookup x).isSome=Zh
 | [],_,_,_,h,_=>by simp at h
 | (n,k)::r,acc,x,c,h,hc=>by
  rcases Zt.mp h with e|e
  ·obtain⟨rfl,rfl⟩:=Prod.mk.inj e
   refine Jjx r _ _ ?_
   simp[hc]
  ·exact Jiz r _ x c e hc
theorem Jck {env:Env}:∀{names:List (Str×ZaX)}{x:Str}{k:ZaX},
  (names.map λ (n,k)=>if (k==Za8&&env.scope.kind==.function&&env.kindOf n==Za .cell) then(n,Zd3) else(n,k)).lookup x=Za k ->
  ∃k0,names.lookup x=Za k0/\(k,k0)∈([(k0,k0),(.cell,.free)]:List (ZaX×ZaX))
 | [],_,_,h=>by simp at h
 | (n,k1)::r,x,k,h=>by
  have ih:=@Jck env r x k
  have h':ZbI x ((if (k1==Za8&&env.scope.kind==.function&&env.kindOf n==Za .cell)=Zh then(n,Zd3) else(n,k1))::_)=Za k:=h
  cases hx:x==n with
  | true =>
   refine⟨k1,by simp[Zai,hx],?_⟩
   by_cases hc:(k1==Za8&&env.scope.kind==.function&&env.kindOf n==Za .cell)=Zh
   ·rw[if_pos hc] at h'
    simp only[Zai,hx] at h'
    cases h'
    simp only[Zl,beq_iff_eq] at hc
    rw[hc.1.1]
    simp
   ·rw[if_neg hc] at h'
    simp only[Zai,hx] at h'
    cases h'
    simp
  | false =>
   have h2:ZbI x (r.map λ (n,k)=>if (k==Za8&&env.scope.kind==.function&&env.kindOf n==Za .cell) then(n,Zd3) else(n,k))=Za k:=by
    by_cases hc:(k1==Za8&&env.scope.kind==.function&&env.kindOf n==Za .cell)=Zh
    ·rw[if_pos hc] at h';simpa only[Zai,hx] using h'
    ·rw[if_neg hc] at h';simpa only[Zai,hx] using h'
   obtain⟨k0,e,m⟩:=ih h2
   exact⟨k0,by simp only[Zai,hx];exact e,m⟩
theorem Jgt {env:Env}:∀{names:List (Str×ZaX)}{x:Str},names.lookup x=Za .free ->
  ∃k,(names.map λ (n,k)=>if (k==Za8&&env.scope.kind==.function&&env.kindOf n==Za .cell) then(n,Zd3) else(n,k)).lookup x=Za k/\(k=.cell∨k=.free)
 | [],_,h=>by simp at h
 | (n,k1)::r,x,h=>by
  have ih:=@Jgt env r x
  cases hx:x==n with
  | true =>
   simp only[Zai,hx] at h
   cases h
   by_cases hc:(Za8==Za8&&env.scope.kind==.function&&env.kindOf n==Za .cell)=Zh
   ·exact⟨.cell,by rw[ZA];dsimp only;rw[if_pos hc];simp only[Zai,hx],.inl rfl⟩
   ·exact⟨.free,by rw[ZA];dsimp only;rw[if_neg hc];simp only[Zai,hx],.inr rfl⟩
  | false =>
   simp only[Zai,hx] at h
   obtain⟨k,e,q⟩:=ih h
   refine⟨k,?_,q⟩
   rw[ZA]
   dsimp only
   by_cases hc:(k1==Za8&&env.scope.kind==.function&&env.kindOf n==Za .cell)=Zh
   ·rw[if_pos hc];simp only[Zai,hx];exact e
   ·rw[if_neg hc];simp only[Zai,hx];exact e
def cxC (X:Cx)(N':List Str)(scope:Zbw)(C:Zi)(s:Zj)(H:Hp)(fp:List Zi):Cx :=
 { X with N:=N',s₀:=s,H₀:=H,env:=compEnvC scope (clOf X.env.cells scope.names []) C X.env,outer:=X.stack,ex:=fp,fn:=λ _=>Zc,pn:=[] }
def Qw (N0 loc caps:List Str)(js:List Nat)(sc₀ scope:Zbw):Bool :=
 decide (scope.kind=.function)&&decide (sc₀.kind=.function)&&scope.names.all (λ x=>!(x.2==.cell))&&scope.names.all (λ x=>!(x.2==.local)||decide (scope.names.lookup x.1=Za .local)) &&
 scope.names.all (λ x=>!(x.2==.free)||decide (sc₀.names.lookup x.1=Za .cell)||decide (sc₀.names.lookup x.1=Za .free)) &&
 scope.names.all (λ x=>!(decide (scope.names.lookup x.1=Za .free))||(x.2==.free)) &&
 (js.zip caps).all (λ p=>decide (N0[p.1]?=Za p.2)&&decide (scope.names.lookup p.2=Za .free))&&decide (js.length=caps.length)&&decide (loc++caps).Nodup &&
 loc.all (λ n=>decide (scope.names.lookup n=Za .local))
open Classical in
def QM (chk:IH->Prop)(g:G1)(t:T1)(e:E1)(i0:Nat):List IV->ISt->IH->Res IV
 | [],_,h=>if chk h then .ok (.ref i0) h else .stuck
 | x::xs,σ,h=>if chk h then(match g x σ h with
   | .next σ1 h1=>(match t σ1 h1 with
    | .ok Zh h2=>(match e σ1 h2 with
     | .ok v h3=>(match h3[i0]? with
      | some (.lst acc)=>if acc.length<sizeLine then QM chk g t e i0 xs σ1 (h3.set i0 (.lst (acc++[v]))) else .stuck
      | _=>.stuck)
     | _=>.stuck)
    | .ok Zc h2=>QM chk g t e i0 xs σ1 h2
    | _=>.stuck)
   | _=>.stuck) else .stuck
open Classical in
def JS (chk:IH->Prop)(g:G1)(t:T1)(e:E1)(i0:Nat):List IV->ISt->IH->Res IV
 | [],_,h=>if chk h then .ok (.ref i0) h else .stuck
 | x::xs,σ,h=>if chk h then(match g x σ h with
   | .next σ1 h1=>(match t σ1 h1 with
    | .ok Zh h2=>(match e σ1 h2 with
     | .ok v h3=>(match h3[i0]? with
      | some (.lst acc)=>if acc.length<sizeLine then JS chk g t e i0 xs σ1 (h3.set i0 (.lst (acc++[v]))) else .stuck
      | _=>.stuck)
     | .exc n h3=>(match h3[n]? with
      | some (.exc _ _)=>.exc n h3
      | _=>.stuck)
     | _=>.stuck)
    | .ok Zc h2=>JS chk g t e i0 xs σ1 h2
    | _=>.stuck)
   | _=>.stuck) else .stuck
def noX {α:Type}:Res α->Res α
 | .ok v h=>.ok v h
 | _=>.stuck
theorem YG {chk:IH->Prop}{g:G1}{t:T1}{e:E1}{i0:Nat}:∀(xs:List IV)(σ:ISt)(h:IH),QM chk g t e i0 xs σ h=noX (JS chk g t e i0 xs σ h)
 | [],σ,h=>by unfold QM JS;split<;>rfl
 | x::xs,σ,h=>by
  unfold QM JS
  by_cases c:chk h
  ·rw[if_pos c,if_pos c]
   cases g x σ h with
   | next σ1 h1 =>
    dsimp only
    cases t σ1 h1 with
    | ok b h2 =>
     cases b with
     | true =>
      dsimp only
      cases e σ1 h2 with
      | ok v h3 =>
       dsimp only
       cases h3[i0]? with
       | none=>rfl
       | some o =>
        cases o with
        | lst acc =>
         dsimp only
         split
         ·exact YG xs _ _
         ·rfl
        | _=>rfl
      | exc n h3=>dsimp only;split<;>rfl
      | stuck=>rfl
     | false=>exact YG xs _ _
    | _=>rfl
   | _=>rfl
  ·rw[if_neg c,if_neg c];rfl
def stC (nloc:Nat)(js:List Nat)(σ:ISt):ISt:=Zac nloc Ze++js.map λ j=>(σ[j]?).join
def J7 (it:I1)(nloc:Nat)(js:List Nat)(g:G1)(t:T1)(e:E1):E1:=λ σ h=>(it σ h).bind λ J h1=>QM J.chk g t e h1.length J.xs (stC nloc js σ) (h1++[.lst []])
def Qx (it:I1)(nloc:Nat)(js:List Nat)(g:G1)(t:T1)(e:E1):E1:=λ σ h=>(it σ h).bind λ J h1=>JS J.chk g t e h1.length J.xs (stC nloc js σ) (h1++[.lst []])
theorem Jjz {prog:ZG}{w:ZX}{A:ZO}{R:Zdy->Zj->Prop}{s:Zj}{elt target iter:Expr}{ifs:List Expr}{scope:Zbw}{pos:Pos}{it acc:Zg}{env:Env}(I:Nat->Zj->Prop)
  (turn:∀n s,I n s->Zz (ZE prog w) A (Zc8 it) (λ r s₁=>match r with
   | none=>R (.ok .next) s₁
   | some v=>Zz (ZE prog w) A (Zcj target it v) (λ _ s₁'=>Zz (ZE prog w) A (Zd1 target env v) (λ _ s₂ =>
     Zz (ZE prog w) A (forIn ifs Zh λ c r=>if r=Zh then do let ok<-Zew c env (ZaV c env);pure (ZaN ok) else pure (ZaN r)) (λ ok s₃ =>
      if ok=Zh then Zz (ZE prog w) A (ZaV elt env) (λ x s₄ =>
       Zz (ZE prog w) A (call (.builtin "list.append") [acc,x]) (λ _ s₅=>∃m,m<n/\I m s₅) (λ _ _=>False) s₄) (notedBy (ZE prog w) A env λ e s'=>R (.error e) s') s₃
      else ∃m,m<n/\I m s₃) (λ _ _=>False) s₂) (λ _ _=>False) s₁') (λ _ _=>False) s₁) (λ _ _=>False) s)
  (n:Nat) (h:I n s):Zcw (ZE prog w) A (.compLoop (.ListComp elt [⟨target,iter,ifs,0⟩] scope pos) 0 it acc env) R s:=by
 refine codeAny_loop rfl I (λ n s hI=>?_) n h
 show Zz _ A ((compTurn (.ListComp elt [⟨target,iter,ifs,0⟩] scope pos) 0 it acc env).onRaise (λ x=>do Zda x env;theTreesLotGoes x)) _ _ s
 refine wpAny_noted ?_
 rw[compTurn_list]
 refine Zk (Zci (Zk (Zan (turn n s hI) (λ r s₁ h₁=>?_) λ _ _ h'=>h'.elim)))
 cases r with
 | none=>exact ZM h₁
 | some v =>
  refine Zk (Zan h₁ (λ _ s₁' h₁'=>?_) λ _ _ h'=>h'.elim)
  refine Zk (Zan h₁' (λ _ s₂ h₂=>Zk (Zan h₂ (λ ok s₃ h₃=>?_) λ _ _ h'=>h'.elim)) λ _ _ h'=>h'.elim)
  cases ok with
  | false=>exact ZM ⟨rfl,h₃⟩
  | true =>
   exact Zk (Zk (Zan h₃ (λ x s₄ h₄=>Zk (Zan h₄ (λ _ s₅ h₅=>ZM (ZM ⟨rfl,h₅⟩)) λ _ _ h'=>h'.elim)) λ _ _ h'=>h'))
def PTsi (ce:CeT)(X:Cx)(ifs:List Expr)(m:T1):Prop:=PX ce X RB (forIn ifs Zh λ c r=>if r=Zh then do let ok<-Zew c X.env (ZaV c X.env);pure (ZaN ok) else pure (ZaN r)) m
noncomputable def JB:T1:=λ _ h=>.ok Zh h
theorem Jqv {ce:CeT}{X:Cx}:PTsi ce X [] JB:=λ _ s _ H ι _ _ _ _ N K=>wpAny_tests_nil (K Zh s H ι N .refl rfl)
theorem Jm5 {ce:CeT}{X:Cx}{c:Expr}{m:T1}(hc:PTi ce X c m):PTsi ce X [c] m:=λ pj s σ H ι σi h Q E N K=>wpAny_tests_one (hc pj s σ H ι σi h Q E N K)
def Vz (ce:CeT)(X:Cx)(use:Option (Zg->Sem Unit))(pj:PnT)(ι:List Zi)(σi:ISt)(σ:L2.St)(H:Hp)(r:Res IV)(Q:QvT)(E:QvT):Prop :=
 match r with
 | .ok v h'=>∀D C m s' H' ι',Now ce X pj ι' σi h' σ H' s'->Nxt ι H ι' H'->RU X.K ι' H' v (.ref D)->s'.heap.Ns C m->FpOk X pj H' C->compPost (ZE X.prog X.w) X.A E use Q (.ref D) C (.ok .next) s'
 | .exc n h'=>X.stack=X.env::X.outer/\X.env.frame=Za X.env.locals/\∀pl a s' H' ι',Now ce X (pj++pl) ι' σi h' σ H' s'->Nxt ι H ι' H'->ι'[n]?=Za a->∀s1,Fly X.env.locals (frs X.stack) a s' s1->E (.ref a) s1
 | .stuck=>False
theorem Vz.mono {ce:CeT}{X:Cx}{use:Option (Zg->Sem Unit)}{pj:PnT}{ι ι':List Zi}{σi:ISt}{σ:L2.St}{H H':Hp}{r:Res IV}{Q:QvT}{E:QvT}(k:Vz ce X use pj ι σi σ H r Q E)(n:Nxt ι H ι' H'):Vz ce X use pj ι' σi σ H' r Q E:=by
 cases r with
 | ok v h'=>exact λ D C m s' H2 ι2 N n2 q=>k D C m s' H2 ι2 N (n.trans n2) q
 | exc m h'=>exact⟨k.1,k.2.1,λ pl a s' H2 ι2 N n2 q=>k.2.2 pl a s' H2 ι2 N (n.trans n2) q⟩
 | stuck=>exact k
def Xd (C:Zi)(h:Zak):Zak:=h.update C λ o=>{ o with data:=.freed }
theorem Jlu {C:Zi}{h:Zak}:(Xd C h).get? C=Ze:=by
 cases q:(Xd C h).get? C with
 | none=>rfl
 | some o =>
  obtain⟨e1,e2⟩:=Heap.get?_some_iff.mp q
  cases h
  simp only[Xd,Heap.update,Array.getElem?_modify,if_true] at e1
  obtain⟨x,_,rfl⟩:=Z7.mp e1
  cases e2
theorem Noted.letgo {fv:Zg}{fs:List Zi}{a C:Zi}{h h3 h4:Zak}{oC:Obj}(n:Noted fv fs a h h3)(na:a≠C)(hC:h.get? C=Za oC)(sb:ZbK C h3 h4):Noted fv fs a (Xd C h) h4:=by
 have sm:∀b,b≠C->(Xd C h).get? b=h.get? b:=λ b hb=>Z2 _ _ (Zao hb)
 have nC:∀b o,(Xd C h).get? b=Za o->b≠C:=λ b o q z=>by rw[z,Jlu] at q;cases q
 obtain⟨⟨oe,vs,T,ts,g1,g2,g3,g4,g5,g6,g7,g8⟩,sl,kp⟩:=n
 have hT:T≠C:=λ z=>by rw[z,hC] at g6;cases g6
 exact⟨⟨oe,vs,T,ts,(sm a na).trans g1,g2,g3,(sb.2 a na).trans g4,g5,(sm T hT).trans g6,(sb.2 T hT).trans g7,g8⟩,
  λ b o q m=>let ⟨s',z⟩:=sl b o ((sm b (nC b o q)).symm.trans q) m;⟨s',(sb.2 b (nC b o q)).trans z⟩,λ b o q m m'=>(sb.2 b (nC b o q)).trans (kp b o ((sm b (nC b o q)).symm.trans q) m m')⟩
def Warm (A:ZO)(H:Hp):Prop:=∃a oe u vs,A.handled=Za (.ref a)/\H a=Za (.frz oe u)/\oe.data=.fields vs/\vs[2]?=Za .none
theorem Warm.mono {A:ZO}{H H':Hp}(x:Ext H H')(w:Warm A H):Warm A H':=let ⟨a,oe,u,vs,e1,e2,e3,e4⟩:=w;⟨a,oe,u,vs,e1,x.frzs _ _ _ e2,e3,e4⟩
structure TurnC (P:ZG)(w:ZX)(C:Cx->Hp->Prop)(tg:Expr)(J:It)(fp:List Zi)(it:Zi)(tn:Nat->Zak->Prop):Prop where
 obj:∀i h,tn i h->∀b∈fp,∃o,h.get? b=Za o/\∀v,o.data≠.cell v
 keep:∀i h h',tn i h->(∀b∈fp,∀o,h.get? b=Za o->h'.get? b=Za o)->tn i h'
 item:∀(X:Cx)(i:Nat)(s:Zj)(σ:L2.St)(H:Hp),C X H->Inv X [] σ H s->(∀b∈fp,FpOk X [] H b)->tn i s.heap->J.go i H ->
  Zz (ZE P w) X.A (Zc8 (.ref it)) (λ r s1=>∃u,r=Za u/\Zz (ZE P w) X.A (Zcj tg (.ref it) u) (λ _ s2=>∃x H',Inv X [] σ H' s2/\RelV x u/\J.yld i H x H'/\tn (i+1) s2.heap/\∀b∈fp,H' b=Ze) (λ _ _=>False) s1) (λ _ _=>False) s
 done:∀(X:Cx)(i:Nat)(s:Zj)(σ:L2.St)(H:Hp),C X H->Inv X [] σ H s->(∀b∈fp,FpOk X [] H b)->tn i s.heap->J.stop i H->Zz (ZE P w) X.A (Zc8 (.ref it)) (λ r s1=>r=Ze/\Inv X [] σ H s1) (λ _ _=>False) s
 self:∀(A:ZO)(i:Nat)(s:Zj)(Q:QvT)(E:QvT),tn i s.heap->Q (.ref it) s->Zz (ZE P w) A (Zex (.ref it)) Q E s
def Jz6 (X0:Cx)(X:Cx)(_:Hp):Prop:=X.prog=X0.prog/\X.w=X0.w/\X.K=X0.K/\X.calm=Zh
def Juf (X0:Cx)(X:Cx)(H:Hp):Prop:=X.prog=X0.prog/\X.w=X0.w/\X.K=X0.K/\Warm X.A H
def RItC (C:Cx->Hp->Prop)(ce:CeT)(X:Cx)(tg:Expr)(pj:PnT)(ι':List Zi)(I:ItI)(itv:Zg)(s2:Zj)(H':Hp):Prop :=
 ∃(it:Zi)(fp:List Zi)(tn:Nat->Zak->Prop)(J:It),itv=.ref it/\TurnC X.prog X.w C tg J fp it tn/\tn 0 s2.heap/\(∀b∈fp,FpOk X pj H' b)/\ItOk ce X.K ι' H' J I
def PIc (C:Cx->Hp->Prop)(ce:CeT)(X:Cx)(tg iter:Expr)(m:I1):Prop :=
 ∀(pj:PnT)(s:Zj)(σ:L2.St)(H:Hp)(ι:List Zi)(σi:ISt)(h:IH)(Q:QvT)(E:QvT),Now ce X pj ι σi h σ H s ->
  (match m σi h with
   | .ok I h'=>∀itv s' H' ι',Now ce X pj ι' σi h' σ H' s'->Nxt ι H ι' H'->RItC C ce X tg pj ι' I itv s' H'->Q itv s'
   | .exc n h'=>∀pl a s' H' ι',Now ce X (pj++pl) ι' σi h' σ H' s'->Nxt ι H ι' H'->ι'[n]?=Za a->E (.ref a) s'
   | .stuck=>False) ->
  Zz (ZE X.prog X.w) X.A (ZaV iter X.env) (λ v s1=>Zz (ZE X.prog X.w) X.A (Zex v) Q E s1) E s
theorem PIi.c {ce:CeT}{X:Cx}{tg iter:Expr}{m:I1}(p:PIi ce X tg iter m):PIc (Jz6 X) ce X tg iter m:=λ pj s σ H ι σi h Q E N k=>p pj s σ H ι σi h Q E N (by
 cases e:m σi h with
 | exc n h'=>rw[e] at k;exact k
 | stuck=>rw[e] at k;exact k
 | ok I h' =>
  rw[e] at k
  intro itv s' H' ι' N' n' ⟨it,fp,tn,J,e1,T,r⟩
  refine k itv s' H' ι' N' n' ⟨it,fp,tn,J,e1,⟨T.obj,T.keep,λ X' i s σ H c=>?_,λ X' i s σ H c=>?_,T.self⟩,r⟩
  ·exact T.item X' c.1 c.2.1 c.2.2.1 c.2.2.2 i [] s σ H _
  ·exact T.done X' c.1 c.2.1 c.2.2.1 c.2.2.2 i [] s σ H _)
section
variable {ce:CeT}{X:Cx}
theorem Now.letgo {pj:PnT}{ι:List Zi}{σi:ISt}{h:IH}{σ:L2.St}{H:Hp}{s:Zj}{C:Zi}{h':Zak}(N:Now ce X pj ι σi h σ H s)(fC:FpOk X pj H C)(sb:ZbK C s.heap h'):Now ce X pj ι σi h σ H { s with heap:=h' } :=
 ⟨N.inv.turned (it:=C) (t':=s.toks) (λ b o hb q=>(sb.2 b hb).trans q) fC.1 fC.2.1 fC.2.2.2.1 fC.2.2.2.2.1 fC.2.2.2.2.2,N.rel,N.st⟩
theorem Jfu {N0 loc caps:List Str}{js:List Nat}{sc₀ scope:Zbw}{tg iter elt:Expr}{ifs:List Expr}{mi:I1}{g:G1}{mt:T1}{me:E1}{pos ppos:Pos}{use:Option (Zg->Sem Unit)}{Cc:Cx->Hp->Prop}(hi:PIc Cc ce X tg iter mi)
  (hg:∀C s H fp,PGi ce (cxC X (loc++caps) scope C s H fp) tg g)(ht:∀C s H fp,PTsi ce (cxC X (loc++caps) scope C s H fp) ifs mt)(he:∀C s H fp,PEi ce (cxC X (loc++caps) scope C s H fp) elt me)
  (ok:Qw N0 loc caps js sc₀ scope=Zh)(hN0:X.N=N0:=by rfl)(hsc:X.env.scope=sc₀:=by rfl)(hs:∀x,Zbh iter X.env x=pure x:=by intro _;rfl)
  {pj:PnT}{s:Zj}{σ:L2.St}{H:Hp}{ι:List Zi}{σi:ISt}{h:IH}{Q:QvT}{E:QvT}(hcc:∀C s H1 fp H',Ext H H'->Cc (cxC X (loc++caps) scope C s H1 fp) H')(N:Now ce X pj ι σi h σ H s)(K:match mi σi h with|.exc n h'=>∀pl a s' H' ι',Now ce X (pj++pl) ι' σi h' σ H' s'->Nxt ι H ι' H'->ι'[n]?=Za a->E (.ref a) s'|.stuck=>False|.ok J h1=>Vz ce X use pj ι σi σ H (JS J.chk g mt me h1.length J.xs (stC loc.length js σi) (h1++[.lst []])) Q E) :
  Zz (ZE X.prog X.w) X.A (comprehension (.ListComp elt [⟨tg,iter,ifs,0⟩] scope pos) scope X.env ppos (newList []) Zc (ZaV iter X.env) use) Q E s:=by
 simp only[Qw,Zl,decide_eq_true_eq,Zab,Zaf,Za7,beq_iff_eq,beq_eq_false_iff_ne] at ok
 obtain⟨⟨⟨⟨⟨⟨⟨⟨⟨kF,kF0⟩,kNC⟩,kL⟩,kFr⟩,kFx⟩,kJ⟩,kLen⟩,kNd⟩,kLo⟩:=ok
 have hfree:∀x∈scope.names,x.2=.free->X.env.kindOf x.1=Za .cell∨X.env.kindOf x.1=Za .free:=λ x hx hk=>by
  have e:X.env.kindOf x.1=sc₀.names.lookup x.1:=by rw[<- hsc];rfl
  rw[e]
  rcases kFr x hx with(z|z)|z
  ·exact absurd hk z
  ·exact .inl z
  ·exact .inr z
 have hclos:closureFor scope X.env=pure (clOf X.env.cells scope.names []):=Ji0 λ x hx hk=>N.inv.ok.has x.1 (hfree x hx hk)
 refine wpAny_comprehension_free (use:=use) (e:=.ListComp elt [⟨tg,iter,ifs,0⟩] scope pos) rfl hs hclos kF (λ x hx hl=>(kL x hx).resolve_left λ z=>z hl) ?_
 refine hi pj s σ H ι σi h _ E N ?_
 cases e0:mi σi h with
 | exc n h'=>rw[e0] at K;exact K
 | stuck=>rw[e0] at K;exact K
 | ok Jt h1 =>
  rw[e0] at K
  intro itv s1 H1 ι1 N1 n1 RI
  obtain⟨it,fp,tn,J,e,T,st1,f1,OK⟩:=RI
  subst e
  -- the list
  refine Zb3 ?_
  have fresh1:H1 s1.heap.objs.size=Ze:=N1.inv.hok.fresh (Zu _)
  have I2:Inv X pj σ (upd H1 s1.heap.objs.size (.lst [])) { s1 with heap:=s1.heap.push { cls:=.type "list",dict:=Ze,data:=.seq ([]:List Zg).toArray } } :=
   N1.inv.laid (t':=s1.toks) (λ b u e=>Zm _ e) (Zu _) ⟨Zar _,[],0,.nil,Z8 _ rfl⟩
  obtain⟨R2,n2⟩:=N1.rel.alloc (o:=.lst []) (io:=.lst []) fresh1 ⟨[],J2,rfl⟩
  generalize hs2:({ s1 with heap:=s1.heap.push { cls:=.type "list",dict:=Ze,data:=.seq ([]:List Zg).toArray } }:Zj)=s2 at I2 ⊢
  generalize hD:s1.heap.objs.size=D at *
  generalize hH2:upd H1 D (.lst [])=H2 at *
  have N2:Now ce X pj (ι1++[D]) σi (h1++[.lst []]) σ H2 s2:=⟨I2,R2,N1.st.mono n2⟩
  have keep12:∀b o,s1.heap.get? b=Za o->s2.heap.get? b=Za o:=λ b o q=>by rw[<- hs2];exact Zm _ q
  have st2:tn 0 s2.heap:=T.keep 0 _ _ st1 λ b _ o q=>keep12 b o q
  have hat:(ι1++[D])[h1.length]?=Za D:=by
   rw[<- N1.rel.len,ZI (Zu _)]
   simp
  have f2:∀b∈fp,FpOk X pj H2 b:=λ b hb=>by
   refine⟨?_,(f1 b hb).2⟩
   obtain⟨o,ho,_⟩:=T.obj 0 _ st1 b hb
   have:b≠D:=ZK (by rw[<- hD];exact Z4 ho)
   rw[<- hH2,Jo this]
   exact(f1 b hb).1
  -- the block's own dict
  refine wpAny_newFunctionEnv (λ x hx=>kNC x hx) (by intro y hy;simp at hy) (λ h3 hns3 hsb3=>?_) kF
  generalize hC:s2.heap.objs.size=C at *
  have keep23:∀b o,s2.heap.get? b=Za o->h3.get? b=Za o:=λ b o q=>(hsb3.2 b (ZK (by rw[<- hC];exact Z4 q))).trans (Zm _ q)
  have cells':∀x c,(clOf X.env.cells scope.names []).lookup x=Za c->X.env.cells.lookup x=Za c:=Jmi _ _ (λ x c q=>by simp at q)
  -- the context of the block
  have okX:(cxC X (loc++caps) scope C s2 H2 fp).Ok:=by
   refine⟨N.inv.ok.mod,kF,N.inv.ok.glob,N.inv.ok.blt,Zcx hC,λ x y c a b=>N.inv.ok.inj x y c (cells' x c a) (cells' y c b),λ x hx=>?_,λ x c z=>?_,N.inv.ok.hd,N.inv.ok.frames,.inl rfl,λ b hb=>?_,λ b o q=>I2.bs b o q,
    Zau N.inv.ok.bsz I2.sz,λ b o q hb=>?_,λ b hb z=>?_,I2.stack,I2.stkFree⟩
   ·have hx':(relabel scope X.env).names.lookup x=Za .cell∨(relabel scope X.env).names.lookup x=Za .free:=hx
    have hfr:scope.names.lookup x=Za .free:=by
     rcases hx' with z|z
     ·obtain⟨k0,e,m⟩:=Jck z
      simp only[Zt,Prod.mk.injEq,Z9,or_false] at m
      rcases m with⟨m1,_⟩|⟨_,m2⟩
      ·exact absurd (kNC _ (Za9 e)) (by rw[<- m1];intro q;exact q rfl)
      ·rw[m2] at e;exact e
     ·obtain⟨k0,e,m⟩:=Jck z
      simp only[Zt,Prod.mk.injEq,Z9,or_false] at m
      rcases m with⟨m1,_⟩|⟨m1,_⟩
      ·rw[<- m1] at e;exact e
      ·cases m1
    have hm:=Za9 hfr
    obtain⟨c,hc'⟩:=N.inv.ok.has x (hfree (x,.free) hm rfl)
    exact Zch.mp (Jiz _ _ x c hm hc')
   ·exact absurd (show Zc=Zh from z) Zy
   ·have hbD:=f2 b hb
    obtain⟨o,ho,_⟩:=T.obj 0 _ st2 b hb
    exact⟨ZK (by show b<C;rw[<- hC];exact Z4 ho),λ x c q=>hbD.2.2.2.2.1 x c (cells' x c q)⟩
   ·rcases(f2 b hb).2.2.2.1 with z|z
    ·exact N.inv.ok.noex b o q z
    ·exact Zcg _ (ZY (Z4 q) (Zau N.inv.ok.bsz z))
   ·rcases Zt.mp (I2.stkSub b z) with e|e
    ·exact(f2 b hb).2.1 e
    ·exact(f2 b hb).2.2.1 e
  -- the block's state
  have lenJ:js.length=caps.length:=kLen
  have stl:(stC loc.length js σi).length=(loc++caps).length:=by simp[stC,lenJ]
  have R3:Rel ce X.K (ι1++[D]) (h1++[.lst []]) H2:=R2
  have I3:Inv (cxC X (loc++caps) scope C s2 H2 fp) [] (Zac loc.length Ze++js.map λ j=>(σ[j]?).join) H2 { s2 with heap:=h3,toks:=s2.toks+([]:List (Str×Zg)).length }:=by
   refine⟨okX,rfl,I2.bare,Un.kept keep23,⟨_,hns3,λ i x v a b c=>?_⟩,λ x c q=>?_,I2.hok.fresh (Zcx hC),λ x c q=>I2.freeC x c (cells' x c q),λ p hp=>absurd (show p∈([]:PnT) from hp) (by simp),I2.hok.kept keep23,by show _=(loc++caps).length;simp[lenJ]⟩
   ·have hi:loc.length<=i:=by
     refine Zd9 λ hlt=>?_
     rw[ZF (by simpa using hlt),ZbA] at b
     split at b<;>cases b
    obtain⟨k,rfl⟩:∃k,i=loc.length+k:=⟨i-loc.length,by omega⟩
    have a':(loc++caps)[loc.length+k]?=Za x:=a
    rw[ZI (by omega)] at a'
    rw[ZI (by simp)] at b
    simp only[Nat.add_sub_cancel_left,ZbP,Z6] at a' b
    cases ej:js[k]? with
    | none=>rw[ej] at b;cases b
    | some j =>
     rw[ej] at b
     have b':(σ[j]?).join=Za v:=Zaw b
     have hσ:σ[j]?=Za (Za v):=by
      cases es:σ[j]? with
      | none=>rw[es] at b';cases b'
      | some o=>rw[es] at b';rw[show o=Za v from b']
     have hz:=kJ (j,x) (List.mem_iff_getElem?.mpr ⟨k,by rw[List.getElem?_zip_eq_some];exact⟨ej,a'⟩⟩)
     obtain⟨hx1,hx2⟩:=hz
     obtain⟨m,hn,hl⟩:=I2.loc
     have hk:=hfree (x,.free) (Za9 hx2) rfl
     obtain⟨u,ru,lk⟩:=hl j x v (by rw[hN0];exact hx1) hσ (by rcases hk with q|q;exact .inr (.inl q);exact .inr (.inr q))
     rcases lk with⟨q,_⟩|⟨q,c,hc',hcell⟩
     ·rcases hk with q'|q'<;>(rw[q'] at q;cases q)
     ·obtain⟨kk,ek,hkk⟩:=Jgt (env:=X.env) hx2
      have hcl:=Jiz (cells:=X.env.cells) scope.names [] x c (Za9 hx2) hc'
      obtain⟨c',hc2⟩:=Zch.mp hcl
      have:=cells' x c' hc2
      rw[hc'] at this
      cases this
      obtain⟨oc,hoc,hd⟩:=hcell
      refine⟨u,ru,.inr ⟨?_,c,hc2,oc,keep23 _ _ hoc,hd⟩⟩
      rcases hkk with rfl|rfl
      ·exact .inl ek
      ·exact .inr ek
   ·obtain⟨v,o,ho,hd⟩:=I2.cell x c (cells' x c q)
    exact⟨v,o,keep23 _ _ ho,hd⟩
  have N3:Now ce (cxC X (loc++caps) scope C s2 H2 fp) [] (ι1++[D]) (stC loc.length js σi) (h1++[.lst []]) (Zac loc.length Ze++js.map λ j=>(σ[j]?).join) H2 { s2 with heap:=h3,toks:=s2.toks+([]:List (Str×Zg)).length }:=by
   refine⟨I3,R3,by simp[stC],λ i v q=>?_⟩
   unfold stC at q
   have hi:loc.length<=i:=by
    refine Zd9 λ hlt=>?_
    rw[ZF (by simpa using hlt),ZbA] at q
    split at q<;>cases q
   rw[ZI (by simpa using hi)] at q
   simp only[ZbP,Z6] at q
   cases ej:js[i-loc.length]? with
   | none=>rw[ej] at q;cases q
   | some j =>
    rw[ej] at q
    have q':(σi[j]?).join=Za v:=Zaw q
    have hσ:σi[j]?=Za (Za v):=by
     cases es:σi[j]? with
     | none=>rw[es] at q';cases q'
     | some o=>rw[es] at q';rw[show o=Za v from q']
    obtain⟨u,hu,qu⟩:=N2.st.at_ j v hσ
    refine⟨u,?_,qu⟩
    rw[ZI (by simpa using hi)]
    simp only[ZbP,Z6,ej,ZdU,hu]
    rfl
  have st3:tn 0 h3:=T.keep 0 _ _ st2 λ b _ o q=>keep23 b o q
  have K2:Vz ce X use pj (ι1++[D]) σi σ H2 (JS Jt.chk g mt me h1.length Jt.xs (stC loc.length js σi) (h1++[.lst []])) Q E:=Vz.mono (r:=JS Jt.chk g mt me h1.length Jt.xs (stC loc.length js σi) (h1++[.lst []])) K (n1.trans n2)
  have loop:Zcw (ZE X.prog X.w) X.A (.compLoop (.ListComp elt [⟨tg,iter,ifs,0⟩] scope pos) 0 (.ref it) (.ref D) (compEnvC scope (clOf X.env.cells scope.names []) C X.env)) (compPost (ZE X.prog X.w) X.A E use Q (.ref D) C)
    { s2 with heap:=h3,toks:=s2.toks+([]:List (Str×Zg)).length }:=by
   refine Jjz (λ n s'=>∃k ιk σk hk σ' H',Now ce (cxC X (loc++caps) scope C s2 H2 fp) [] ιk σk hk σ' H' s'/\Nxt (ι1++[D]) H2 ιk H'/\tn k s'.heap/\(∀b∈fp,H' b=Ze)/\n=Jt.xs.length-k/\k<=Jt.xs.length/\Vz ce X use pj ιk σi σ H' (JS Jt.chk g mt me h1.length (Jt.xs.drop k) σk hk) Q E) ?_ Jt.xs.length
    ⟨0,ι1++[D],stC loc.length js σi,h1++[.lst []],_,H2,N3,.refl,st3,λ b hb=>(f2 b hb).1,by simp,Zar _,by simpa using K2⟩
   have stat:∀{H':Hp},(∀b∈fp,H' b=Ze)->∀b∈fp,FpOk (cxC X (loc++caps) scope C s2 H2 fp) [] H' b:=λ hn b hb =>
    ⟨hn b hb,(okX.exf b hb).1,okX.exfs b hb,.inl hb,(okX.exf b hb).2,λ p hp=>absurd (show p∈([]:PnT) from hp) (by simp)⟩
   rintro n s4 ⟨k,ιk,σk,hk,σ4,H4,N4,n4,st4,fr4,rfl,hkl,K4⟩
   by_cases hlt:k<Jt.xs.length
   ·have hd:Jt.xs.drop k=Jt.xs[k]::Jt.xs.drop (k+1):=ZaW hlt
    rw[hd] at K4
    unfold JS at K4
    split at K4
    ·rename_i hck
     obtain⟨go,yl⟩:=OK.go k Jt.xs[k] hk H4 ιk (n2.trans n4) N4.rel hck (Zn hlt)
     refine thn (T.item (cxC X (loc++caps) scope C s2 H2 fp) k s4 σ4 H4 (hcc _ _ _ _ _ (n1.trans (n2.trans n4)).ext) N4.inv (stat fr4) st4 go) λ r s5 ⟨u,hr,h5⟩=>?_
     subst hr
     refine thn h5 λ _ s6 ⟨x,H6,I6,r6,y6,st6,fr6⟩=>?_
     obtain⟨R6,n6,q6⟩:=yl x H6 y6
     have I6':=I6.pinned (stat fr6) (T.obj _ _ st6)
     have N6:Now ce (cxC X (loc++caps) scope C s2 H2 fp) ([]++VA fp s6.heap) ιk σk hk σ4 H6 s6:=⟨I6',R6,N4.st.mono n6⟩
     have again:∀{σ7:L2.St}{H7:Hp}{s7:Zj}{σ7i:ISt}{h7:IH}{ι7:List Zi},Now ce (cxC X (loc++caps) scope C s2 H2 fp) ([]++VA fp s6.heap) ι7 σ7i h7 σ7 H7 s7->Nxt ιk H6 ι7 H7->Vz ce X use pj ιk σi σ H4 (JS Jt.chk g mt me h1.length (Jt.xs.drop (k+1)) σ7i h7) Q E ->
       ∃m,m<Jt.xs.length-k/\∃k ιk σk hk σ' H',Now ce (cxC X (loc++caps) scope C s2 H2 fp) [] ιk σk hk σ' H' s7/\Nxt (ι1++[D]) H2 ιk H'/\tn k s7.heap/\(∀b∈fp,H' b=Ze)/\m=Jt.xs.length-k/\k<=Jt.xs.length/\Vz ce X use pj ιk σi σ H' (JS Jt.chk g mt me h1.length (Jt.xs.drop k) σk hk) Q E :=
      λ {σ7 H7 s7 σ7i h7 ι7} N7 n7 K7=>by
       have nn:Nxt ιk H4 ι7 H7:=n6.trans n7
       refine⟨Jt.xs.length-(k+1),by omega,k+1,ι7,σ7i,h7,σ7,H7,N7.pins,n4.trans nn,T.keep _ _ _ st6 λ b hb o e=>(N7.inv.pin (b,o) (Zae _ (Zae _ (YV hb e)))).1,λ b hb=>?_,rfl,hlt,K7.mono nn⟩
       obtain⟨o,e,d⟩:=T.obj _ _ st6 b hb
       exact(N7.inv.pin (b,o) (Zae _ (Zae _ (YV hb e)))).2.1
     cases eg:g Jt.xs[k] σk hk with
     | next σg hgg =>
      rw[eg] at K4
      dsimp only at K4
      refine hg C s2 H2 fp _ s6 σ4 H6 ιk σk hk _ u (λ _ s7=>Zz (ZE X.prog X.w) X.A (forIn ifs Zh λ c r=>if r=Zh then do let ok<-Zew c _ (ZaV c _);pure (ZaN ok) else pure (ZaN r)) _ _ s7) (λ _ _=>False) N6 ⟨x,r6,q6⟩ ?_
      rw[eg]
      intro s7 σ7 H7 ι7 N7 n7
      refine ht C s2 H2 fp _ s7 σ7 H7 ι7 σg hgg _ (λ _ _=>False) N7 ?_
      cases et:mt σg hgg with
      | ok c h8 =>
       rw[et] at K4
       intro d s8 H8 ι8 N8 n8 rd
       have rd':d=c:=rd
       subst rd'
       cases d with
       | false=>exact again N8 (n7.trans n8) K4
       | true =>
        dsimp only at K4
        refine he C s2 H2 fp _ s8 σ7 H8 ι8 σg h8 _ _ N8 ?_
        cases ee:me σg h8 with
        | ok v h9 =>
         rw[ee] at K4
         dsimp only at K4
         intro w s9 H9 ι9 N9 n9 rw9
         have hat9:ι9[h1.length]?=Za D:=(((n4.trans n6).trans n7).trans (n8.trans n9)).at hat
         cases hl:h9[h1.length]? with
         | none=>rw[hl] at K4;exact Zf K4
         | some ob =>
          rw[hl] at K4
          cases ob with
          | lst acc =>
           dsimp only at K4
           split at K4
           ·rename_i hz
            obtain⟨vs,eD,rD⟩:=N9.at hl hat9
            obtain⟨wv,rw9,qw⟩:=rw9
            have ap:=Jkf (X:=(cxC X (loc++caps) scope C s2 H2 fp).wish λ _ _=>False) ([]++VA fp s6.heap) s9 σ7 H9 (.ref D) [wv] (.ref D) [w] (λ _ H'=>H'=upd H9 D (.lst (vs++[wv]))) (N9.inv.wish _) rfl (.cons rw9 .nil) ⟨D,vs,wv,rfl,rfl,eD,by rw[rD.length];exact hz,rfl⟩
            refine Zan ap (λ _ s10 hq=>?_) λ _ _ z=>z
            obtain⟨z,H10,I10,_,rfl⟩:=hq
            have n10:Nxt ι9 H9 ι9 (upd H9 D (.lst (vs++[wv]))):=⟨⟨[],by simp⟩,Ext.upd_mut eD (by rw[eD];exact True.intro)⟩
            obtain⟨R10,_⟩:=N9.rel.write (o:=.lst (vs++[wv])) (io:=.lst (acc++[v])) hat9 eD (by rw[eD];exact True.intro) ⟨_,J2,(RVs.mono n10 _ _ rD).append (RVs.one (RV.mono n10 _ _ qw))⟩
            exact again ⟨I10.unwish,R10,N9.st.mono n10⟩ (((n7.trans n8).trans n9).trans n10) K4
           ·exact Zf K4
          | _=>exact Zf K4
        | exc n h9 =>
         rw[ee] at K4
         dsimp only at K4
         cases hj:h9[n]? with
         | none=>rw[hj] at K4;exact Zf K4
         | some ob =>
          cases ob with
          | exc c fs =>
           rw[hj] at K4
           obtain⟨hst,hf,K5⟩:=K4
           intro pl a s9 H9 ι9 N9 n9 q
           obtain⟨Ce,tv,d,fe,hCe,ha,ht⟩:=N9.rel.get hj q
           have I9:=N9.inv
           obtain⟨m,hnm,_⟩:=I9.loc
           have hos:s9.os=s2.os:=I9.os
           obtain⟨hp9,g9,d9,t9,os9⟩:=s9
           obtain rfl:os9=s2.os:=hos
           have J9:Inv X pj σ H9 { s2 with heap:=hp9,gens:=g9,drawn:=d9,toks:=t9 }:=I2.call (ch:=fp) I9.base I9.hok I9.bare λ b hb=>⟨(f2 b hb).2.2.2.1,(f2 b hb).2.1,(f2 b hb).2.2.2.2.1,(f2 b hb).2.2.2.2.2⟩
           have fC:FpOk X pj H9 C:=I2.fpOk (Zcx hC) I9.free
           have nn:Nxt ιk H4 ι9 H9:=(n6.trans n7).trans (n8.trans n9)
           have naC:a≠C:=λ z=>by rw[z,fC.1] at ha;cases ha
           show Zz _ X.A (Zda (.ref a) X.env) _ _ _
           refine Jjb J9 hst hf ha ht λ h3' n3'=>?_
           obtain⟨oC,es,ep,hoC,hrest⟩:=hnm
           refine show ∃m,_ from⟨m,⟨oC,es,ep,n3'.keep C oC hoC (Zao naC) (λ z=>(Zt.mp (J9.stkSub C z)).elim fC.2.1 fC.2.2.1),hrest⟩,λ h4' sb cenv hcv=>?_⟩
           refine Jy1 (s:={ s2 with heap:=Xd C hp9,gens:=g9,drawn:=d9,toks:=t9 }) (n3'.letgo naC hoC sb) λ v h5 n5=>?_
           refine K5 [] a { s2 with heap:=Xd C hp9,gens:=g9,drawn:=d9,toks:=t9 } H9 ι9 ?_ nn q _ (.inr ⟨h5,rfl,v,n5⟩)
           rw[Za2]
           exact Now.letgo ⟨J9,N9.rel,N2.st.mono (n4.trans nn)⟩ fC (ZcR _ _ _)
          | _=>rw[hj] at K4;exact Zf K4
        | stuck=>rw[ee] at K4;exact Zf K4
      | _=>rw[et] at K4;exact Zf K4
     | _=>rw[eg] at K4;exact Zf K4
    ·exact Zf K4
   ·have hke:Jt.xs.drop k=[]:=Zc0 (by omega)
    rw[hke] at K4
    unfold JS at K4
    split at K4
    ·rename_i hck
     have stop:=OK.stop k hk H4 ιk (n2.trans n4) N4.rel hck (by omega)
     refine thn (T.done (cxC X (loc++caps) scope C s2 H2 fp) k s4 σ4 H4 (hcc _ _ _ _ _ (n1.trans (n2.trans n4)).ext) N4.inv (stat fr4) st4 stop) λ r s5 ⟨hr,I5⟩=>?_
     subst hr
     obtain⟨m,hnm,_⟩:=I5.loc
     -- back to the def's own frame
     have hos:s5.os=s2.os:=I5.os
     obtain⟨hp5,g5,d5,t5,os5⟩:=s5
     obtain rfl:os5=s2.os:=hos
     have J5:Inv X pj σ H4 { s2 with heap:=hp5,gens:=g5,drawn:=d5,toks:=t5 }:=I2.call (ch:=fp) I5.base I5.hok I5.bare λ b hb=>⟨(f2 b hb).2.2.2.1,(f2 b hb).2.1,(f2 b hb).2.2.2.2.1,(f2 b hb).2.2.2.2.2⟩
     have fC:FpOk X pj H4 C:=I2.fpOk (Zcx hC) I5.free
     exact K4 D C m _ H4 ιk ⟨J5,N4.rel,(N2.st.mono n4)⟩ .refl ⟨.ref D,rfl,D,rfl,n4.at hat⟩ hnm fC
    ·exact Zf K4
  exact codeAny_compStart_list loop (T.self X.A 0 _ _ _ st3 loop)
theorem Jia {mi:I1}{g:G1}{mt:T1}{me:E1}{nl:Nat}{js:List Nat}{pj:PnT}{ι:List Zi}{σi:ISt}{h:IH}{σ:L2.St}{H:Hp}{Q:QvT}{E:QvT}(K:Kont ce X RU pj ι σi σ H (J7 mi nl js g mt me σi h) Q E) :
  match mi σi h with|.exc n h'=>∀pl a s' H' ι',Now ce X (pj++pl) ι' σi h' σ H' s'->Nxt ι H ι' H'->ι'[n]?=Za a->E (.ref a) s'|.stuck=>False|.ok J h1=>Vz ce X Ze pj ι σi σ H (JS J.chk g mt me h1.length J.xs (stC nl js σi) (h1++[.lst []])) Q E:=by
 unfold J7 at K
 cases e1:mi σi h with
 | exc n h'=>rw[e1] at K;exact K
 | stuck=>rw[e1] at K;exact K
 | ok J h1 =>
  rw[e1] at K
  dsimp only[Res.bind] at K ⊢
  rw[YG] at K
  cases e0:JS J.chk g mt me h1.length J.xs (stC nl js σi) (h1++[.lst []]) with
  | ok v h' =>
   rw[e0] at K
   exact λ D C m s' H' ι' N' n' r hns fC=>⟨m,hns,λ h2 sb=>K _ _ H' ι' (N'.letgo fC sb) n' r⟩
  | _=>rw[e0] at K;exact Zf K
theorem Jtk {N0 loc caps:List Str}{js:List Nat}{sc₀ scope:Zbw}{tg iter elt:Expr}{ifs:List Expr}{mi:I1}{g:G1}{mt:T1}{me:E1}{pos:Pos}(hc:X.calm=Zh)(hi:PIi ce X tg iter mi)
  (hg:∀C s H fp,PGi ce (cxC X (loc++caps) scope C s H fp) tg g)(ht:∀C s H fp,PTsi ce (cxC X (loc++caps) scope C s H fp) ifs mt)(he:∀C s H fp,PEi ce (cxC X (loc++caps) scope C s H fp) elt me)
  (ok:Qw N0 loc caps js sc₀ scope=Zh)(hN0:X.N=N0:=by rfl)(hsc:X.env.scope=sc₀:=by rfl)(hs:∀x,Zbh iter X.env x=pure x:=by intro _;rfl):PEi ce X (.ListComp elt [⟨tg,iter,ifs,0⟩] scope pos) (J7 mi loc.length js g mt me):=by
 intro pj s σ H ι σi h Q E N K
 rw[Zes]
 refine Jfu hi.c hg ht he ok hN0 hsc hs (λ _ _ _ _ _ _=>⟨rfl,rfl,rfl,hc⟩) N (Jia K)
theorem Jln {mi:I1}{g:G1}{mt:T1}{me:E1}{nl:Nat}{js:List Nat}(σ:ISt)(h:IH):J7 mi nl js g mt me σ h=.stuck∨J7 mi nl js g mt me σ h=Qx mi nl js g mt me σ h:=by
 unfold J7 Qx
 cases mi σ h with
 | ok J h1 =>
  dsimp only[Res.bind]
  rw[YG]
  cases JS J.chk g mt me h1.length J.xs (stC nl js σ) (h1++[.lst []]) with
  | ok v h'=>exact .inr rfl
  | _=>exact .inl rfl
 | _=>exact .inr rfl
theorem Jl6 {N0 loc caps:List Str}{js:List Nat}{sc₀ scope:Zbw}{tg iter elt:Expr}{ifs:List Expr}{mi:I1}{g:G1}{mt:T1}{me:E1}{pos pos2 pos3:Pos}{i:Nat}{x:Str}(hc:X.calm=Zh)(hi:PIi ce X tg iter mi)
  (hg:∀C s H fp,PGi ce (cxC X (loc++caps) scope C s H fp) tg g)(ht:∀C s H fp,PTsi ce (cxC X (loc++caps) scope C s H fp) ifs mt)(he:∀C s H fp,PEi ce (cxC X (loc++caps) scope C s H fp) elt me)
  (ok:Qw N0 loc caps js sc₀ scope=Zh)(hN0:X.N=N0:=by rfl)(hsc:X.env.scope=sc₀:=by rfl)(hs:∀x,Zbh iter X.env x=pure x)
  (hN:X.N.Nodup)(hix:X.N[i]?=Za x)(hlx:Loc X.env.scope x)(hf:X.fn x=Zh∨X.env.scope.names.lookup x=Za .local)
  (hsw:Zcs (.ListComp elt [⟨tg,iter,ifs,0⟩] scope pos) (Za (.Name x pos2)) pos3.line X.env=pure Zh){m:E1}(hm:∀σ h,m σ h=.stuck∨m σ h=Qx mi loc.length js g mt me σ h)(hx:(X.stack=X.env::X.outer/\X.env.frame=Za X.env.locals)∨m=J7 mi loc.length js g mt me) :
  PS1 ce X (.Assign [.Name x pos2] (.ListComp elt [⟨tg,iter,ifs,0⟩] scope pos) pos3) (Jk i m):=by
 intro pj s σ H ι σi h Q E N K
 rw[exec_Assign_Name_used _ _ _ _ hsw]
 refine Zk (Zci (Zk ?_))
 rw[arm_evalThenUse_ListComp]
 refine Zk ?_
 refine Jfu (use:=Za (Zd1 (.Name x pos2) X.env)) hi.c hg ht he ok hN0 hsc hs (λ _ _ _ _ _ _=>⟨rfl,rfl,rfl,hc⟩) N ?_
 unfold Jk at K
 rcases hm σi h with em|em
 ·rw[em] at K;exact Zf K
 rw[em] at K
 unfold Qx at K
 cases e1:mi σi h with
 | exc n h'=>rw[e1] at K;exact λ pl a s' H' ι' N' n' q=>K pl a s' σ H' ι' N' n' q s' (.inl rfl)
 | stuck=>rw[e1] at K;exact K
 | ok J h1 =>
  rw[e1] at K
  dsimp only[Res.bind] at K ⊢
  cases e0:JS J.chk g mt me h1.length J.xs (stC loc.length js σi) (h1++[.lst []]) with
  | exc n h' =>
   rw[e0] at K
   rcases hx with⟨hst,hfr⟩|rfl
   ·exact⟨hst,hfr,λ pl a s' H' ι' N' n' q s1 fl=>K pl a s' σ H' ι' N' n' q s1 fl⟩
   ·simp[J7,Qx,e1,Res.bind,YG,e0,noX] at em
  | stuck=>rw[e0] at K;exact K
  | ok v h' =>
   rw[e0] at K
   intro D C m s' H' ι' N' n' r hns fC
   obtain⟨w,rw',q⟩:=r
   obtain⟨oC,es,ep,hoC,hdC,hrest⟩:=id hns
   have hp:Inv X (pj++VA [C] s'.heap) σ H' s':=N'.inv.pinned (λ b hb=>(show b=C by simpa using hb)▸fC) (λ b hb=>by
    have e:b=C:=by simpa using hb
    subst e
    exact⟨oC,hoC,λ v z=>by rw[hdC] at z;cases z⟩)
   refine wpAny_assign_Name (Nj hp hN hix hlx rw' (λ s2 I2=>?_) hf)
   have hC2:=(I2.pin (C,oC) (Zae _ (Zae _ (YV (by simp) hoC)))).1
   refine⟨m,⟨oC,es,ep,hC2,hdC,hrest⟩,λ h2 sb=>ZM ?_⟩
   have N2:Now ce X pj ι' (σi.set i (Za v)) h' (σ.set i (Za w)) H' s2:=⟨I2.unpinned,N'.rel,N'.st.set i q⟩
   exact ZM (K _ _ H' ι' (N2.letgo fC sb) n')
theorem Jv0 {N0 loc caps:List Str}{js:List Nat}{sc₀ scope:Zbw}{tg iter elt:Expr}{ifs:List Expr}{mi:I1}{g:G1}{mt:T1}{me:E1}{pos pos3:Pos}(hc:X.calm=Zh)(hi:PIi ce X tg iter mi)
  (hg:∀C s H fp,PGi ce (cxC X (loc++caps) scope C s H fp) tg g)(ht:∀C s H fp,PTsi ce (cxC X (loc++caps) scope C s H fp) ifs mt)(he:∀C s H fp,PEi ce (cxC X (loc++caps) scope C s H fp) elt me)
  (ok:Qw N0 loc caps js sc₀ scope=Zh)(hN0:X.N=N0:=by rfl)(hsc:X.env.scope=sc₀:=by rfl)(hs:∀x,Zbh iter X.env x=pure x)
  (hst:X.stack=X.env::X.outer)(hfr:X.env.frame=Za X.env.locals) :
  PS1 ce X (.Return (Za (.ListComp elt [⟨tg,iter,ifs,0⟩] scope pos)) pos3) (Jn (Qx mi loc.length js g mt me)):=by
 intro pj s σ H ι σi h Q E N K
 refine wpAny_Return_some ?_
 rw[Zes]
 refine Jfu hi.c hg ht he ok hN0 hsc hs (λ _ _ _ _ _ _=>⟨rfl,rfl,rfl,hc⟩) N ?_
 unfold Jn Qx at K
 cases e1:mi σi h with
 | exc n h'=>rw[e1] at K;exact λ pl a s' H' ι' N' n' q=>K pl a s' σ H' ι' N' n' q s' (.inl rfl)
 | stuck=>rw[e1] at K;exact K
 | ok J h1 =>
  rw[e1] at K
  dsimp only[Res.bind] at K ⊢
  cases e0:JS J.chk g mt me h1.length J.xs (stC loc.length js σi) (h1++[.lst []]) with
  | exc n h'=>rw[e0] at K;exact⟨hst,hfr,λ pl a s' H' ι' N' n' q s1 fl=>K pl a s' σ H' ι' N' n' q s1 fl⟩
  | stuck=>rw[e0] at K;exact K
  | ok v h' =>
   rw[e0] at K
   exact λ D C m s' H' ι' N' n' r hns fC=>⟨m,hns,λ h2 sb=>K _ _ _ σ H' ι' (N'.letgo fC sb) n' r⟩
def Qs (x:Str):List IV:=x.cps.toList.map λ c=>.str ⟨#[c]⟩
def Its (x:Str):It:=⟨λ i _=>i<x.cps.size,λ i H y H'=>H'=H/\∃c,x.cps[i]?=Za c/\y=.str ⟨#[c]⟩,λ i _=>x.cps.size<=i⟩
theorem Jm6 {P:ZG}{w:ZX}{K:W.Frag}{tg:Expr}{ty:String}{x:Str}{t:Tok}(it:Zi)(hty:["enumerate","zip","dict_itemiterator","dict_reverseitemiterator","odict_iterator","itertools.zip_longest","itertools.pairwise"].contains ty=Zc)
  (W:∀A:ZO,A.handled=Ze->Walks P w A it [it] [it] x.cps.size (SignAt x) (λ i h=>h.IsStrIter it ty x t i))
  (We:∀(A:ZO)(E:QvT)(s:Zj)(i:Nat)(Q:Option Zg->Zj->Prop),A.handled=Ze->s.heap.IsStrIter it ty x t i->x.cps[i]?=Ze->(∀h',Zdt it s.heap h'->Q Ze { s with heap:=h' })->Zz (ZE P w) A (Zc8 (.ref it)) Q E s)
  (Ws:∀(A:ZO)(E:QvT)(s:Zj)(i:Nat)(Q:QvT),s.heap.IsStrIter it ty x t i->Q (.ref it) s->Zz (ZE P w) A (Zex (.ref it)) Q E s):Turn P w K tg (Its x) [it] it (λ i h=>h.IsStrIter it ty x t i) where
 mem:=by simp
 obj:=λ i h st b hb=>by
  have e:b=it:=by simpa using hb
  subst e
  obtain⟨o,e,c,d⟩:=st
  exact⟨o,e,λ v z=>by rw[d] at z;cases z⟩
 keep:=λ i h h' st k=>by
  obtain⟨o,e,r⟩:=st
  exact⟨o,k it (by simp) o e,r⟩
 item:=by
  intro X hP hw hK hc i pj s σ H E I hf st hg
  subst hP hw hK
  obtain⟨f0,f1,f2,f3,f4,f5⟩:=hf it (by simp)
  refine(W X.A (I.ok.hd hc)).item i s _ _ hg st λ v h' tk hv st' kk=>?_
  obtain⟨c,u,hcc,rfl⟩:=hv
  have I1:Inv X pj σ H { s with heap:=h',toks:=tk }:=I.turned (λ b o hb e=>kk b o (by simpa using hb) e) f0 f1 f3 f4 f5
  obtain⟨o,e,c1,d1⟩:=id st'
  exact⟨_,rfl,YN (s:={ s with heap:=h',toks:=tk }) e c1 d1 hty ⟨.str ⟨#[c]⟩,H,I1,⟨u,rfl⟩,⟨rfl,c,hcc,rfl⟩,st',λ b hb=>(hf b hb).1⟩⟩
 done:=by
  intro X hP hw hK hc i pj s σ H E I hf st hg
  subst hP hw hK
  obtain⟨f0,f1,f2,f3,f4,f5⟩:=hf it (by simp)
  have hi:x.cps.size<=i:=hg
  have hx:x.cps[i]?=Ze:=by simp[hi]
  exact We X.A _ s i _ (I.ok.hd hc) st hx λ h' eb=>⟨rfl,I.turned (t':=s.toks) (λ b o hb e=>eb b o hb e) f0 f1 f3 f4 f5⟩
 self:=λ A i s Q E st h=>Ws A E s i Q st h
def Jr1:IV->IH->Res ItI
 | .str x,h=>.ok ⟨Qs x,λ _=>True⟩ h
 | _,_=>.stuck
def iStr (e:E1):I1:=λ σ h=>(e σ h).bind Jr1
theorem Jtq {x:Str}{ι:List Zi}{H₀:Hp}:ItOk ce X.K ι H₀ (Its x) ⟨Qs x,λ _=>True⟩:=by
 refine⟨λ k v h H ι' hp R hck hx=>?_,λ k h H ι' hp R hck hx=>?_⟩
 ·have hk:k<x.cps.size:=by
   have:=(ZB.mp hx).1
   simpa [Qs] using this
  refine⟨hk,λ y H' hy=>?_⟩
  obtain⟨rfl,c,hc,rfl⟩:=hy
  simp only[Qs,Z6,Array.getElem?_toList,hc] at hx
  cases hx
  exact⟨R,.refl,rfl⟩
 ·have:(Qs x).length=x.cps.size:=by simp[Qs]
  show x.cps.size<=k
  rw[<- this]
  exact hx
theorem Jnm {tg l:Expr}{ml:E1}(hl:PEi ce X l ml):PIi ce X tg l (iStr ml):=by
 intro pj s σ H ι σi h Q E N K
 refine hl pj s σ H ι σi h _ E N ?_
 unfold iStr at K
 cases e0:ml σi h with
 | exc n h'=>rw[e0] at K;exact K
 | stuck=>rw[e0] at K;exact K
 | ok v h' =>
  rw[e0] at K
  intro u s1 H1 ι1 N1 n1 r1
  obtain⟨w,rw',q⟩:=r1
  have fresh:∀b∈[s1.heap.objs.size],FpOk X pj H1 b:=λ b hb=>by
   have e:b=s1.heap.objs.size:=by simpa using hb
   subst e
   exact N1.inv.fpOk (Zu _) (N1.inv.hok.fresh (Zu _))
  cases v with
  | str x =>
   have e1:w=.str x:=q
   subst e1
   obtain⟨t,rfl⟩:=rw'
   simp only[Res.bind,Jr1] at K
   cases ha:x.cps.all (· < 128) with
   | true =>
    refine wpAny_pyIter_ascii ha (K _ _ H1 ι1 ⟨N1.inv.kept (t':=s1.toks) λ b o e=>Zm _ e,N1.rel,N1.st⟩ n1 ?_)
    exact⟨s1.heap.objs.size,[s1.heap.objs.size],_,Its x,rfl,Jm6 (ty:="str_ascii_iterator") (t:=t) _ (by decide) (λ A hA=>Walks.strAscii hA _ x t) (λ A E s i Q hA st hx hQ=>wpAny_pyNext_ascii_end hA st hx hQ) (λ A E s i Q st hq=>wpAny_pyIter_striter_ascii st hq),⟨_,Z8 _ rfl,rfl,rfl⟩,fresh,Jtq⟩
   | false =>
    refine wpAny_pyIter_wide ha (K _ _ H1 ι1 ⟨N1.inv.kept (t':=s1.toks) λ b o e=>Zm _ e,N1.rel,N1.st⟩ n1 ?_)
    exact⟨s1.heap.objs.size,[s1.heap.objs.size],_,Its x,rfl,Jm6 (ty:="str_iterator") (t:=t) _ (by decide) (λ A hA=>Walks.strWide hA _ x t) (λ A E s i Q hA st hx hQ=>wpAny_pyNext_wide_end hA st hx hQ) (λ A E s i Q st hq=>wpAny_pyIter_striter_wide st hq),⟨_,Z8 _ rfl,rfl,rfl⟩,fresh,Jtq⟩
  | _=>simp only[Res.bind,Jr1] at K
def Ite (K:W.Frag)(a:Zi):It :=
 ⟨λ i H=>∃xs x,SqL K H a xs/\xs[i]?=Za x,λ i H y H'=>∃p x,H p=Ze/\y=.ref p/\H'=upd H p (.tup [.int (i:Int),x])/\∀xs,SqL K H a xs->xs[i]?=Za x,λ i H=>∃xs,SqL K H a xs/\xs.length<=i⟩
theorem Jqw {P:ZG}{w:ZX}{K:W.Frag}{es:List Expr}{k:Nat}{p:Pos}(a it e:Zi)(hne:e≠it):Turn P w K (.Tuple es k p) (Ite K a) [e,it] e (λ i h=>(∃old,IsEnum h e it (i:Int) old)/\h.IsListIter it a i) where
 mem:=by simp
 obj:=λ i h st b hb=>by
  obtain⟨⟨old,he⟩,o,e1,c,d⟩:=st
  simp only[Zt,Z9,or_false] at hb
  rcases hb with rfl|rfl
  ·exact⟨_,he,λ v z=>by
    have z':Data.fields _=Data.cell v:=z
    cases z'⟩
  ·exact⟨o,e1,λ v z=>by rw[d] at z;cases z⟩
 keep:=λ i h h' st k=>⟨let ⟨old,he⟩:=st.1;⟨old,k e (by simp) _ he⟩,st.2.at λ o e=>k it (by simp) o e⟩
 item:=by
  intro X hP hw hK hc i pj s σ H E I hf st hg
  subst hP hw hK
  obtain⟨⟨old,he⟩,hit⟩:=st
  obtain⟨xs,x,hq,hx⟩:=hg
  obtain⟨its,rv,pl,hz⟩:=I.list hq
  obtain⟨u,hu,ru⟩:=rv.get hx
  have fe:=hf e (by simp)
  have fi:=hf it (by simp)
  have hn:H s.heap.objs.size=Ze:=I.hok.fresh (Zu _)
  refine wpAny_pyNext_enum_item he hit pl.isList (x:=u) (by simpa using hu) hne λ h' he' hit' ht hsz kk=>?_
  refine⟨_,rfl,Zdl he' λ h2 he2 sb=>?_⟩
  have ltE:e<s.heap.objs.size:=Z4 he
  have neT:s.heap.objs.size≠e:=Zbp ltE
  have k2:∀b o,b≠e->b≠it->s.heap.get? b=Za o->h2.get? b=Za o:=λ b o h1 h3 q=>(sb.2 b h1).trans (kk b o h1 h3 q)
  have hl2:h2.IsListIter it a (i+1):=by
   obtain⟨o,q,r⟩:=hit'
   exact⟨o,(sb.2 it (Zao hne)).trans q,r⟩
  have t2:h2.get? s.heap.objs.size=Za { cls:=.type "tuple",data:=.seq #[.int i s.toks,u] }:=(sb.2 _ neT).trans ht
  -- the two records turn, then the tuple is tracked
  obtain⟨oe,hoe⟩:∃o,s.heap.get? e=Za o:=⟨_,he⟩
  obtain⟨oi,hoi,_⟩:=id hit
  have neP:∀b u,H b=Za u->b≠s.heap.objs.size:=λ b u q=>Vq q hn
  have I1:Inv X pj σ (upd H s.heap.objs.size (.tup [.int (i:Int),x])) { s with heap:=h2,toks:=s.toks+1 }:=by
   refine I.step (g':=s.gens) (d':=s.drawn) (ch:=[e,it]) (λ b hb=>?_) (λ b o _ _ hc q _=>k2 b o (λ z=>hc (by simp[z])) (λ z=>hc (by simp[z])) q) (λ b o _ _ hc q _=>⟨o.slots,k2 b o (λ z=>hc (by simp[z])) (λ z=>hc (by simp[z])) q⟩) (λ b o _ q n=>?_)
    (λ b o hc q=>⟨o,k2 b o (λ z=>hc (by simp[z])) (λ z=>hc (by simp[z])) q⟩) (λ b xs q=>by rw[Jo (neP b _ q)];exact q) (λ b o u q=>by rw[Jo (neP b _ q)];exact q) (λ b ps q=>⟨#[],by rw[Jo (neP b _ q),q];simp⟩) (λ m hm=>?_) (λ b u q=>?_) I.bare
   ·simp only[Zt,Z9,or_false] at hb
    rcases hb with rfl|rfl
    ·exact⟨fe.2.2.2.1,fe.2.1,fe.2.2.2.2.1,fe.2.2.2.2.2⟩
    ·exact⟨fi.2.2.2.1,fi.2.1,fi.2.2.2.2.1,fi.2.2.2.2.2⟩
   ·rw[Jo (ZK (Z4 q))];exact n
   ·obtain⟨o,es,ep,ho,r⟩:=hm
    exact⟨o,es,ep,k2 _ o (Zao fe.2.1) (Zao fi.2.1) ho,r⟩
   ·by_cases hb:b=s.heap.objs.size
    ·subst hb
     rw[J2] at q
     cases q
     exact⟨by show 2<=sizeLine;decide,[.int i s.toks,u],.cons ⟨_,rfl⟩ (.cons ru .nil),⟨_,t2,rfl,_,rfl⟩⟩
    ·rw[Jo hb] at q
     have n1:b≠e:=λ z=>by rw[z,fe.1] at q;cases q
     have n2:b≠it:=λ z=>by rw[z,fi.1] at q;cases q
     refine(I.hok b u q).stay (λ c v hc r=>k2 c v ?_ ?_ r) (λ c q=>by rw[Jo (neP c _ q)];exact q) λ c ys q=>by rw[Jo (neP c _ q)];exact q
     ·rcases hc with z|z
      ·rw[z];exact n1
      ·intro y;rw[y,fe.1] at z;cases z
     ·rcases hc with z|z
      ·rw[z];exact n2
      ·intro y;rw[y,fi.1] at z;cases z
  refine⟨.ref s.heap.objs.size,_,I1,rfl,⟨s.heap.objs.size,x,hn,rfl,rfl,λ ys hy=>by rw[I.list_inj hy hq];exact hx⟩,⟨⟨_,he2⟩,hl2⟩,λ b hb=>?_⟩
  simp only[Zt,Z9,or_false] at hb
  rcases hb with rfl|rfl
  ·rw[Jo (ZK ltE)];exact fe.1
  ·rw[Jo (ZK (Z4 hoi))];exact fi.1
 done:=by
  intro X hP hw hK hc i pj s σ H E I hf st hg
  subst hP hw hK
  obtain⟨⟨old,he⟩,hit⟩:=st
  obtain⟨xs,hq,hx⟩:=hg
  obtain⟨its,rv,p,hz⟩:=I.list hq
  obtain⟨f0,f1,f2,f3,f4,f5⟩:=hf it (by simp)
  have hl:=rv.length
  exact wpAny_pyNext_enum_end (I.ok.hd hc) he hit p.isList (by simp;omega) λ h' eb=>⟨rfl,I.turned (t':=s.toks) (λ b o hb e=>eb b o hb e) f0 f1 f3 f4 f5⟩
 self:=λ _ _ _ _ _ st h=>let ⟨_,he⟩:=st.1;Zc1 he h
noncomputable def Q6 (n:Nat):List IV->List IV
 | []=>[]
 | x::xs=>.tup [.int n,x]::Q6 (n+1) xs
theorem Jf0:∀(xs:List IV)(n k:Nat),(Q6 n xs)[k]?=(xs[k]?).map λ x=>.tup [.int ((n+k:Nat):Int),x]
 | [],_,_=>by simp[Q6]
 | x::xs,n,0=>by simp[Q6]
 | x::xs,n,k+1=>by
  simp only[Q6,Zap]
  rw[Jf0 xs (n+1) k]
  have:n+1+k=n+(k+1):=by omega
  rw[this]
theorem V3:∀(xs:List IV)(n:Nat),(Q6 n xs).length=xs.length
 | [],_=>rfl
 | _::xs,n=>by simp[Q6,V3 xs]
def VM:List IV->IH->Res ItI
 | [.ref i],h=>match h[i]? with
  | some (.lst xs)=>.ok ⟨Q6 0 xs,λ h'=>h'[i]?=Za (.lst xs)⟩ h
  | _=>.stuck
 | _,_=>.stuck
theorem Jx5 {a:Zi}{i:Nat}{xs:List IV}{ι:List Zi}{H₀:Hp}(ha:ι[i]?=Za a):ItOk ce X.K ι H₀ (Ite X.K a) ⟨Q6 0 xs,λ h'=>h'[i]?=Za (.lst xs)⟩:=by
 refine⟨λ k v h H ι' hp R hck hx=>?_,λ k h H ι' hp R hck hx=>?_⟩
 ·obtain⟨vs,e1,r1⟩:=R.get hck (hp.at ha)
  have hx':(Q6 0 xs)[k]?=Za v:=hx
  rw[Jf0] at hx'
  obtain⟨x,hxk,rfl⟩:=Z7.mp hx'
  obtain⟨u,hu,qu⟩:=r1.get hxk
  refine⟨⟨vs,u,SqL.of e1,hu⟩,λ y H' hy=>?_⟩
  obtain⟨p,x',hp0,rfl,rfl,hy⟩:=hy
  have:=hy vs (SqL.of e1)
  rw[hu] at this
  cases this
  obtain⟨R',n'⟩:=R.grow (o:=.tup [.int (k:Int),u]) hp0
  refine⟨R',n',p,_,rfl,SqT.of J2,⟨_,_,rfl,?_,_,_,rfl,RV.mono n' _ _ qu,rfl⟩⟩
  show V.int (k:Int)=V.int ((0+k:Nat):Int)
  simp
 ·obtain⟨vs,e1,r1⟩:=R.get hck (hp.at ha)
  exact⟨vs,SqL.of e1,by rw[r1.length,<-V3 xs 0];exact hx⟩
theorem Jxt {es:List Expr}{kt:Nat}{pt:Pos}{a:Expr}{ma:A1}{p pos:Pos}(hg:Gl X "enumerate")(hm:X.mg "enumerate"=Ze)(ha:PAi ce X [a] ma)(hs:ZN [a] X.env=[(Zc,ZaV a X.env)]:=by rfl):PIi ce X (.Tuple es kt pt) (.Call (.Name "enumerate" p) [a] [] pos) (iRg VM ma):=by
 intro pj s σ H ι σi h Q E N K
 refine Call_ (V7 N.inv hg hm boot_enumerate (ZaS ?_ hs rfl))
 refine ha pos pj s σ H ι σi h _ E N ?_
 unfold iRg at K
 cases e0:ma σi h with
 | exc n h'=>rw[e0] at K;exact K
 | stuck=>rw[e0] at K;exact K
 | ok vs h' =>
  rw[e0] at K
  intro us s1 H1 ι1 N1 n1 r1
  obtain⟨xs,rv,qs⟩:=r1
  match vs,K with
  | [.ref i],K =>
   obtain⟨w,e1,q⟩:=qs.one_of
   subst e1
   obtain⟨b,e3,hb⟩:=q
   subst e3
   obtain⟨u,rfl,ru⟩:=QG rv
   cases ru
   cases hi:h'[i]? with
   | none=>simp only[Res.bind,VM,hi] at K
   | some ob =>
    cases ob with
    | lst ys =>
     simp only[Res.bind,VM,hi] at K
     obtain⟨ws,eH,rH⟩:=N1.at hi hb
     obtain⟨z,its,n,r,hl,eo⟩:=N1.inv.lstM eH
     refine call_enumerate_1 eo λ h2 he hit hsz kp=>?_
     refine Zc1 he (K _ _ H1 ι1 ⟨N1.inv.kept (t':=s1.toks) kp,N1.rel,N1.st⟩ n1 ?_)
     refine⟨s1.heap.objs.size+1,[s1.heap.objs.size+1,s1.heap.objs.size],_,Ite X.K b,rfl,Jqw b s1.heap.objs.size (s1.heap.objs.size+1) (Zbp (Zbv _)),⟨⟨_,he⟩,hit⟩,λ c hc=>?_,Jx5 hb⟩
     simp only[Zt,Z9,or_false] at hc
     rcases hc with rfl|rfl
     ·exact N1.inv.fpOk (ZbJ _) (N1.inv.hok.fresh (ZbJ _))
     ·exact N1.inv.fpOk (Zu _) (N1.inv.hok.fresh (Zu _))
    | _=>simp only[Res.bind,VM,hi] at K
  | [],K=>exact Zf K
  | .non::_,K=>exact Zf K
  | .bl _::_,K=>exact Zf K
  | .str _::_,K=>exact Zf K
  | .tup _::_,K=>exact Zf K
  | .rol _::_,K=>exact Zf K
  | .int _::_,K=>exact Zf K
  | .ref _::_::_,K=>exact Zf K
end
noncomputable def Yb:IV->IH->Res ItI
 | .str x,h=>Jr1 (.str x) h
 | v,h=>itOf v h
def iAny (e:E1):I1:=λ σ h=>(e σ h).bind Yb
theorem Jrt {ce:CeT}{X:Cx}{tg l:Expr}{ml:E1}(hl:PEi ce X l ml):PIi ce X tg l (iAny ml):=by
 intro pj s σ H ι σi h Q E N K
 cases e0:ml σi h with
 | ok v h' =>
  cases v with
  | str x=>exact Jnm (tg:=tg) hl pj s σ H ι σi h Q E N (by unfold iStr;unfold iAny at K;rw[e0] at K ⊢;exact K)
  | _=>exact Jpj (tg:=tg) hl pj s σ H ι σi h Q E N (by unfold iVal;unfold iAny at K;rw[e0] at K ⊢;exact K)
 | exc n h'=>exact Jpj (tg:=tg) hl pj s σ H ι σi h Q E N (by unfold iVal;unfold iAny at K;rw[e0] at K ⊢;exact K)
 | stuck=>exact Jpj (tg:=tg) hl pj s σ H ι σi h Q E N (by unfold iVal;unfold iAny at K;rw[e0] at K ⊢;exact K)
section
variable {ce:CeT}{X:Cx}
theorem x_sl:SlI ce X slI:=by
 intro pj s σ H ι σi h x v vl vu lo hi sl Q E N rx hs pl pu K
 obtain⟨xv,rx,qx⟩:=rx
 cases x with
 | ref i =>
  obtain⟨a,e1,ha⟩:=qx
  subst e1
  dsimp only[slI] at K
  cases hi':h[i]? with
  | none=>rw[hi'] at K;exact Zf K
  | some ob =>
   rw[hi'] at K
   cases ob with
   | lst xs =>
    obtain⟨vs,e1,r1⟩:=N.at hi' ha
    exact Jub (Jqp (X:=X.wish E)) N.inv rx hs pl pu ⟨a,vs,rfl,SqL.of e1,λ p hp=>finA N K p hp ⟨_,J2,RVs.new hp (r1.cut lo hi)⟩⟩
   | _=>exact Zf K
 | rol xs =>
  obtain⟨a,vs,e1,sa,ra⟩:=qx
  subst e1
  exact Jub (Jqp (X:=X.wish E)) N.inv rx hs pl pu ⟨a,vs,rfl,sa.sq,λ p hp=>finA N K p hp ⟨_,J2,RVs.new hp (ra.cut lo hi)⟩⟩
 | _=>exact Zf K
noncomputable def VO:IV->IH->Res IV
 | .ref i,h=>match h[i]? with
  | some (.lst xs)=>.ok (.ref h.length) (h++[.lst xs])
  | _=>.stuck
 | .rol xs,h=>.ok (.ref h.length) (h++[.lst xs])
 | .tup xs,h=>.ok (.ref h.length) (h++[.lst xs])
 | _,_=>.stuck
theorem Jw5:QY ce X (.type "list") (on1 VO):=X3 λ pj s σ H ι σi h x xv u Q E N ru qx K=>by
 cases x with
 | ref i =>
  obtain⟨a,e1,ha⟩:=qx
  subst e1
  dsimp only[VO] at K
  cases hi:h[i]? with
  | none=>rw[hi] at K;exact Zf K
  | some ob =>
   rw[hi] at K
   cases ob with
   | lst xs =>
    obtain⟨vs,e1,r1⟩:=N.at hi ha
    exact QU (Jd3 (X:=X.wish E)) N.inv (.cons ru .nil) ⟨a,vs,rfl,.inl (SqL.of e1),λ p hp=>finA N K p hp ⟨_,J2,RVs.new hp r1⟩⟩
   | _=>exact Zf K
 | rol xs =>
  obtain⟨a,vs,e1,sa,ra⟩:=qx
  subst e1
  exact QU (Jd3 (X:=X.wish E)) N.inv (.cons ru .nil) ⟨a,vs,rfl,.inl sa.sq,λ p hp=>finA N K p hp ⟨_,J2,RVs.new hp ra⟩⟩
 | tup xs =>
  obtain⟨a,vs,e1,sa,ra⟩:=qx
  subst e1
  exact QU (Jd3 (X:=X.wish E)) N.inv (.cons ru .nil) ⟨a,vs,rfl,.inr sa,λ p hp=>finA N K p hp ⟨_,J2,RVs.new hp ra⟩⟩
 | _=>exact Zf K
noncomputable def XE:IV->IH->Res IV
 | .ref i,h=>match h[i]? with
  | some (.lst xs)=>.ok (.tup xs) h
  | _=>.stuck
 | .tup xs,h=>.ok (.tup xs) h
 | _,_=>.stuck
theorem Juk:QY ce X (.type "tuple") (on1 XE):=X3 λ pj s σ H ι σi h x xv u Q E N ru qx K=>by
 cases x with
 | ref i =>
  obtain⟨a,e1,ha⟩:=qx
  subst e1
  dsimp only[XE] at K
  cases hi:h[i]? with
  | none=>rw[hi] at K;exact Zf K
  | some ob =>
   rw[hi] at K
   cases ob with
   | lst xs =>
    obtain⟨vs,e1,r1⟩:=N.at hi ha
    exact QU (Jft (X:=X.wish E)) N.inv (.cons ru .nil) ⟨a,vs,rfl,.inl ⟨SqL.of e1,λ p hp=>finT N K p hp r1⟩⟩
   | _=>exact Zf K
 | tup xs =>
  have qx':=qx
  obtain⟨a,vs,e1,sa,ra⟩:=qx
  subst e1
  exact QU (Jft (X:=X.wish E)) N.inv (.cons ru .nil) ⟨a,vs,rfl,.inr ⟨sa,fin0 N K qx'⟩⟩
 | _=>exact Zf K
def intI:IV->IH->Res IV
 | .int i,h=>.ok (.int i) h
 | .bl b,h=>.ok (.int (if b then 1 else 0)) h
 | _,_=>.stuck
theorem VZ:QY ce X (.type "int") (on1 intI):=X3 λ pj s σ H ι σi h x xv u Q E N ru qx K=>by
 cases x with
 | int i =>
  have e:xv=.int i:=qx
  subst e
  exact QU (Jjv (X:=X.wish E)) N.inv (.cons ru .nil) (.inl ⟨i,rfl,fin0 N K rfl⟩)
 | bl b =>
  have e:xv=.bl b:=qx
  subst e
  exact QU (Jjv (X:=X.wish E)) N.inv (.cons ru .nil) (.inr ⟨b,rfl,fin0 N K rfl⟩)
 | _=>exact Zf K
def strI:IV->IH->Res IV
 | .int i,h=>if i.natAbs.log2<1920 then .ok (.str (toString i)) h else .stuck
 | _,_=>.stuck
theorem J0f:QY ce X (.type "str") (on1 strI):=X3 λ pj s σ H ι σi h x xv u Q E N ru qx K=>by
 cases x with
 | int i =>
  have e:xv=.int i:=qx
  subst e
  dsimp only[strI] at K
  split at K
  ·rename_i hz
   exact QU (Jjw (X:=X.wish E)) N.inv (.cons ru .nil) ⟨i,rfl,hz,fin0 N K rfl⟩
  ·exact Zf K
 | _=>exact Zf K
def Vn:List IV->Option (List Bool)
 | []=>Za []
 | .bl b::r=>(Vn r).map (b:: ·)
 | _::_=>Ze
noncomputable def allI:IV->IH->Res IV
 | .ref i,h=>match h[i]? with
  | some (.lst xs)=>(match Vn xs with
   | some bs=>.ok (.bl (bs.all id)) h
   | none=>.stuck)
  | _=>.stuck
 | _,_=>.stuck
theorem Jiy {K:W.Frag}{ι:List Zi}{H:Hp}:∀{xs:List IV}{bs:List Bool}{vs:List V}{us:List Zg},Vn xs=Za bs->RVs K ι H xs vs->Vals vs us->us=bs.map Zco
 | [],bs,vs,us,e,q,r=>by
  cases e
  have e1:vs=[]:=q
  subst e1
  cases r
  rfl
 | x::xs,bs,vs,us,e,q,r=>by
  obtain⟨v,vr,e1,q1,q2⟩:=q
  subst e1
  cases r with
  | cons r1 r2 =>
   cases x with
   | bl b =>
    obtain⟨b2,e2,rfl⟩:=Z7.mp (show(Vn xs).map (b:: ·)=Za bs from e)
    cases (show v=.bl b from q1)
    cases r1
    rw[Jiy e2 q2 r2]
    rfl
   | _=>cases e
theorem Joi (bs:List Bool):((ZaO bs.length).all λ i=>bs.getD i Zh)=bs.all id:=by
 induction bs with
 | nil=>rfl
 | cons b r ih =>
  rw[Z0,List.range_succ_eq_map,Zas,ZdN,Zas]
  have e:((ZaO r.length).all ((λ i=>(b::r).getD i Zh)∘Nat.succ))=(ZaO r.length).all λ i=>r.getD i Zh:=by
   congr 1
  rw[e,ih]
  rfl
theorem J0d (hh:X.A.handled=Ze):QY ce X (.builtin "all") (on1 allI):=X3 λ pj s σ H ι σi h x xv u Q E N ru qx K=>by
 cases x with
 | ref i =>
  obtain⟨a,e1,ha⟩:=qx
  subst e1
  cases ru
  dsimp only[allI] at K
  cases hi:h[i]? with
  | none=>rw[hi] at K;exact Zf K
  | some ob =>
   rw[hi] at K
   cases ob with
   | lst xs =>
    dsimp only at K
    cases hb:Vn xs with
    | none=>rw[hb] at K;exact Zf K
    | some bs =>
     rw[hb] at K
     obtain⟨vs,e1,r1⟩:=N.at hi ha
     obtain⟨its,rv,pl,hz⟩:=N.inv.list (SqL.of e1)
     have eu:=Jiy hb r1 rv
     subst eu
     refine call_all_walk (Zbg pl.isList ?_)
     have hlt:a<s.heap.objs.size:=by obtain⟨o,_,ho,_⟩:=pl;exact Z4 ho
     have ne:a≠s.heap.objs.size:=ZK hlt
     refine⟨s.heap.objs.size,_,_,_,_,_,λ i=>bs.getD i Zh,rfl,Walks.list (prog:=X.prog) (w:=X.w) (A:=X.A.in1) hh s.heap.objs.size a ne (bs.map Zco).toArray,⟨⟨_,Z8 _ rfl,rfl,rfl⟩,?_⟩,?_,λ h' tk kk=>?_⟩
     ·obtain⟨o,n,ho,hc,_,hd⟩:=pl
      exact⟨o,Zm _ ho,hc,n,hd⟩
     ·intro i v s' Q' E' hP hq
      simp only[Zea,Z6] at hP
      obtain⟨b,hb',rfl⟩:=Z7.mp hP
      refine Zb2 ?_
      have:bs.getD i Zh=b:=by simp[List.getD,hb']
      rw[<- this]
      exact hq
     ·rw[show(bs.map Zco).toArray.size=bs.length by simp,Joi]
      have I1:Inv X pj σ H { s with heap:=s.heap.push { cls:=.type "list_iterator",data:=.fields #[.ref a,.int 0 0] } }:=N.inv.kept (t':=s.toks) λ b o e=>Zm _ e
      have f:=N.inv.fpOk (Zu _) (N.inv.hok.fresh (Zu _))
      exact fin0 N K rfl _ _ (I1.turned (t':=tk) (it:=s.heap.objs.size) (λ b o hb e=>kk b o (by simpa using hb) e) f.1 f.2.1 f.2.2.2.1 f.2.2.2.2.1 f.2.2.2.2.2) rfl
   | _=>exact Zf K
 | _=>exact Zf K
def MtI (ce:CeT)(X:Cx)(T id:String)(g:IV->List IV->IH->Res IV):Prop :=
 ∀(pj:PnT)(s:Zj)(σ:L2.St)(H:Hp)(ι:List Zi)(σi:ISt)(h:IH)(x:IV)(xs:List IV)(v:Zg)(us:List Zg)(Q:QvT)(E:QvT),Now ce X pj ι σi h σ H s->RU X.K ι H x v->RUs X.K ι H xs us ->
  Kont ce X RU pj ι σi σ H (g x xs h) Q E->Zz (ZE X.prog X.w) X.A (call (.builtin id) (v::us)) Q E s
def tyOk (T:String):IV->IH->Bool
 | .str _,_=>T=="str"
 | .int _,_=>T=="int"
 | .ref i,h=>match h[i]? with
  | some (.lst _)=>T=="list"
  | some (.dct _)=>T=="dict"
  | _=>Zc
 | .rol _,_=>T=="list"
 | _,_=>Zc
def eBm (T:String)(g:IV->List IV->IH->Res IV)(o:E1)(a:A1):E1:=λ σ h=>(o σ h).bind λ x h1=>if tyOk T x h1=Zh then(a σ h1).bind λ xs h2=>g x xs h2 else .stuck
theorem Jt6 {pj:PnT}{s:Zj}{σ:L2.St}{H:Hp}{ι:List Zi}{σi:ISt}{h:IH}{x:IV}{xv:V}{T:String}(N:Now ce X pj ι σi h σ H s)(q:RV X.K ι H x xv)(e:tyOk T x h=Zh):tyV X.K T xv H:=by
 cases x with
 | str y=>cases (show xv=.str y from q);exact beq_iff_eq.mp e
 | int y=>cases (show xv=.int y from q);exact beq_iff_eq.mp e
 | rol y =>
  obtain⟨a,vs,rfl,sa,_⟩:=q
  exact .inl ⟨beq_iff_eq.mp e,vs,sa.sq⟩
 | ref i =>
  obtain⟨a,rfl,ha⟩:=q
  cases hi:h[i]? with
  | none=>simp[tyOk,hi] at e
  | some ob =>
   cases ob with
   | lst xs =>
    simp only[tyOk,hi] at e
    obtain⟨vs,e1,_⟩:=N.at hi ha
    exact .inl ⟨beq_iff_eq.mp e,vs,SqL.of e1⟩
   | dct kvs =>
    simp only[tyOk,hi] at e
    obtain⟨vs,e1,_⟩:=N.at hi ha
    exact .inr (.inr (.inl ⟨beq_iff_eq.mp e,.inl ⟨vs,e1⟩⟩))
   | _=>simp[tyOk,hi] at e
 | _=>simp[tyOk] at e
variable {o a:Expr}{es:List Expr}{mo:E1}{ma:A1}{name:Str}{apos cpos:Pos}{T id:String}{g:IV->List IV->IH->Res IV}
theorem i_bm (pa:PlainAttrs T)(slot:Slot T name id)(hty:Zez (.builtin id)=pure (.type "method_descriptor"))(hm:MtI ce X T id g)(ho:PEi ce X o mo)(ha:PAi ce X (a::es) ma)
  (hbase:ZcE o name X.env (ZaV o X.env)=ZaV o X.env:=by rfl)
  (hfew:((Zba cpos (ZN (a::es) X.env)).all (λ x=>!x.1)&&(Zee cpos (ZcK [] X.env)).all (λ x=>x.1.isSome)
   && decide ((a::es).length+([]:List ZcV).length+(if ([]:List ZcV).isEmpty then 0 else 1)<30))=Zh:=by rfl)
  (hline:(apos.endLine==cpos.line)=Zh:=by rfl) (hs:ZN (a::es) X.env=(Zc,ZaV a X.env)::ZN es X.env:=by rfl) (hplain:(Zba cpos (ZN es X.env)).any (·.1)=Zc:=by rfl) :
  PEi ce X (.Call (.Attribute o name apos) (a::es) [] cpos) (eBm T g mo ma):=by
 intro pj s σ H ι σi h Q E N K
 refine wpAny_Call_method_late hbase hfew hline rfl (ho.run N K λ x h1 v s1 H1 ι1 N1 n1 r1 K1=>?_)
 by_cases hty1:tyOk T x h1=Zh
 ·rw[if_pos hty1] at K1
  obtain⟨xv,rx,qx⟩:=r1
  obtain⟨h1',h2'⟩:=Jt7 N1.inv rx (Jt6 N1 qx hty1)
  refine⟨T,id,pa,slot,hty,h1',h2',?_⟩
  have hA:=(ha cpos).run (Q1:=λ us s2=>Zz (ZE X.prog X.w) X.A (call (.builtin id) (v::us)) Q E s2) N1 K1 λ xs h2 us s2 H2 ι2 N2 n2 r2 K2=>hm pj s2 σ H2 ι2 σi h2 x xs v us Q E N2 ⟨xv,rx,RV.mono n2 _ _ qx⟩ r2 K2
  rw[hs] at hA ⊢
  exact ZdO (by show(Zc||(Zba cpos (ZN es X.env)).any (·.1))=Zc;rw[hplain]<;>rfl) (Calls.evalArgs_plain hA)
 ·rw[if_neg hty1] at K1
  exact Zf K1
theorem J0t (pa:PlainAttrs T)(slot:Slot T name id)(hty:Zez (.builtin id)=pure (.type "method_descriptor"))(hm:MtI ce X T id g)(ho:PEi ce X o mo)
  (hbase:ZcE o name X.env (ZaV o X.env)=ZaV o X.env:=by rfl)(hline:(apos.endLine==cpos.line)=Zh:=by rfl):PEi ce X (.Call (.Attribute o name apos) [] [] cpos) (eBm T g mo Jd):=by
 intro pj s σ H ι σi h Q E N K
 refine wpAny_Call_method0_late hbase hline (ho.run N K λ x h1 v s1 H1 ι1 N1 n1 r1 K1=>?_)
 by_cases hty1:tyOk T x h1=Zh
 ·rw[if_pos hty1] at K1
  obtain⟨xv,rx,qx⟩:=r1
  obtain⟨h1',h2'⟩:=Jt7 N1.inv rx (Jt6 N1 qx hty1)
  exact⟨T,id,pa,slot,hty,h1',h2',ZdO rfl (PySem.evalArgs_none (hm pj s1 σ H1 ι1 σi h1 x [] v [] Q E N1 ⟨xv,rx,qx⟩ .nil K1))⟩
 ·rw[if_neg hty1] at K1
  exact Zf K1
theorem Jua {pj:PnT}{s:Zj}{σ:L2.St}{H:Hp}{Q:QvT}{E:QvT}{r:V->List V->Hp->VK->Prop}{x:V}{xs:List V}{v:Zg}{us:List Zg}(p:MtM (X.wish E) id r)(I:Inv X pj σ H s)(rx:RelV x v)(rs:Vals xs us)
  (k:r x xs H λ z H'=>∀u s',Inv X pj σ H' s'->RelV z u->Q u s'):Zz (ZE X.prog X.w) X.A (call (.builtin id) (v::us)) Q E s :=
 Zan (p pj s σ H x xs v us _ (I.wish E) rx rs k) (λ u s' ⟨_,_,I',r,q⟩=>q u s' I'.unwish r) λ _ _ z=>z
theorem finW {pj:PnT}{s:Zj}{σ:L2.St}{H:Hp}{ι:List Zi}{σi:ISt}{h:IH}{i:Nat}{b:Zi}{ys:List IV}{vs ws:List V}{v:IV}{w:V}{Q:QvT}{E:QvT}(N:Now ce X pj ι σi h σ H s)(K:Kont ce X RU pj ι σi σ H (.ok v (h.set i (.lst ys))) Q E)
  (hb:ι[i]?=Za b)(eH:H b=Za (.lst vs))(r:RVs X.K ι H ys ws)(q:RV X.K ι H v w):∀u s',Inv X pj σ (upd H b (.lst ws)) s'->RelV w u->Q u s':=λ u s' I ru=>by
 have n:Nxt ι H ι (upd H b (.lst ws)):=⟨⟨[],by simp⟩,Ext.upd_mut eH (by rw[eH];exact True.intro)⟩
 obtain⟨R,_⟩:=N.rel.write (o:=.lst ws) (io:=.lst ys) hb eH (by rw[eH];exact True.intro) ⟨_,J2,RVs.mono n _ _ r⟩
 exact K u s' _ ι ⟨I,R,N.st.mono n⟩ n ⟨w,ru,RV.mono n _ _ q⟩
def X1:IV->List IV->IH->Res IV
 | .ref i,[y],h=>match h[i]? with
  | some (.lst xs)=>if xs.length<sizeLine then .ok .non (h.set i (.lst (xs++[y]))) else .stuck
  | _=>.stuck
 | _,_,_=>.stuck
theorem Jr5:MtI ce X "list" "list.append" X1:=by
 intro pj s σ H ι σi h x xs v us Q E N rx rs K
 obtain⟨xv,rx,qx⟩:=rx
 obtain⟨vs,rv,qs⟩:=rs
 cases x with
 | ref i =>
  match xs,K with
  | [y],K =>
   obtain⟨a,rfl,ha⟩:=qx
   obtain⟨w,rfl,qw⟩:=qs.one_of
   dsimp only[X1] at K
   cases hi:h[i]? with
   | none=>rw[hi] at K;exact Zf K
   | some ob =>
    rw[hi] at K
    cases ob with
    | lst zs =>
     dsimp only at K
     split at K
     ·rename_i hz
      obtain⟨ws,e1,r1⟩:=N.at hi ha
      exact Jua (Jkf (X:=X.wish E)) N.inv rx rv ⟨a,ws,w,rfl,rfl,e1,by rw[r1.length];exact hz,finW N K ha e1 (r1.append (RVs.one qw)) rfl⟩
     ·exact Zf K
    | _=>exact Zf K
  | [],K=>exact Zf K
  | _::_::_,K=>exact Zf K
 | _=>cases xs<;>exact Zf K
def setI:IV->IV->IV->ISt->IH->SRes
 | .ref i,.int k,v,σ,h=>match h[i]? with
  | some (.lst xs)=>(match ixN xs.length k with
   | some j=>.next σ (h.set i (.lst (xs.set j v)))
   | none=>.stuck)
  | _=>.stuck
 | _,_,_,_,_=>.stuck
def gSb (o i:E1):G1:=λ v σ h=>rS σ (o σ h) λ ov h1=>rS σ (i σ h1) λ iv h2=>setI ov iv v σ h2
theorem J0j {oe ie:Expr}{mo mi:E1}{pos:Pos}(ho:PEi ce X oe mo)(hi:PEi ce X ie mi)
  (ha:∀v,Zd1 (.Subscript oe ie pos) X.env v=(do
   let ov<-Zcz [v] (ZaV oe X.env)
   let iv<-Zcz [v,ov] (ZaV ie X.env)
   Ze8 pos
   Zcz [v,ov,iv] (setItem ov iv v)
   release [v,ov,iv] []):=by intro _;rfl):PGi ce X (.Subscript oe ie pos) (gSb mo mi):=by
 intro pj s σ H ι σi h v u Q E N r K
 rw[ha]
 refine Zk (Zay (krun ho N K λ ov h1 ou s1 H1 ι1 N1 n1 r1 K1=>?_))
 refine Zk (Zay (krun hi N1 K1 λ iv h2 iu s2 H2 ι2 N2 n2 r2 K2=>?_))
 have r':RU X.K ι2 H2 v u:=(r.mono n1).mono n2
 obtain⟨ox,ro,qo⟩:=r1.mono n2
 obtain⟨ix,ri,qi⟩:=r2
 obtain⟨vx,rvx,qv⟩:=r'
 refine Zk (Zci (Zk (Zay ?_)))
 cases ov with
 | ref i =>
  cases iv with
  | int k =>
   obtain⟨a,rfl,haa⟩:=qo
   cases (show ix=.int k from qi)
   dsimp only[setI] at K2
   cases hh:h2[i]? with
   | none=>rw[hh] at K2;exact Zf K2
   | some ob =>
    rw[hh] at K2
    cases ob with
    | lst xs =>
     dsimp only at K2
     cases hj:ixN xs.length k with
     | none=>rw[hj] at K2;exact Zf K2
     | some j =>
      rw[hj] at K2
      obtain⟨ws,e1,r1'⟩:=N2.at hh haa
      refine Zan (Jsk (X:=X.wish E) pj s2 σ H2 (.ref a) (.int k) vx ou iu u (λ H'=>H'=upd H2 a (.lst (ws.set j vx))) (N2.inv.wish E) ro ri rvx ⟨a,ws,k,j,rfl,rfl,e1,by rw[r1'.length];exact hj,rfl⟩) (λ _ s3 hq=>?_) λ _ _ z=>z
      obtain⟨H',I',rfl⟩:=hq
      have n:Nxt ι2 H2 ι2 (upd H2 a (.lst (ws.set j vx))):=⟨⟨[],by simp⟩,Ext.upd_mut e1 (by rw[e1];exact True.intro)⟩
      obtain⟨R3,_⟩:=N2.rel.write (o:=.lst (ws.set j vx)) (io:=.lst (xs.set j v)) haa e1 (by rw[e1];exact True.intro) ⟨_,J2,(RVs.mono n _ _ r1').set (RV.mono n _ _ qv) j⟩
      exact wpAny_release (K2 s3 σ _ ι2 ⟨I'.unwish,R3,N2.st.mono n⟩ n)
    | _=>exact Zf K2
  | _=>exact Zf K2
 | _=>cases iv<;>exact Zf K2
end
section
variable {ce:CeT}{X:Cx}
noncomputable def keyI:IV->Option Key
 | .int i=>Za (.inl i)
 | .str x=>Za (.inr x)
 | _=>Ze
def J1y (mk mv:E1):E1:=λ σ h=>(mk σ (h++[.dct []])).bind λ x h1=>(mv σ h1).bind λ y h2 =>
 match keyI x,h2[h.length]? with
 | some k,Za (.dct [])=>.ok (.ref h.length) (h2.set h.length (.dct [(k,y)]))
 | _,_=>.stuck
theorem Jms {K:W.Frag}{ι:List Zi}{H:Hp}{x:IV}{v:V}{k:Key}(e:keyI x=Za k)(r:RV K ι H x v):v=kV k:=by
 cases x with
 | int i=>cases e;exact r
 | str y=>cases e;exact r
 | _=>cases e
def maxI:IV->IV->IH->Res IV
 | .int i,.int j,h=>.ok (.int (if j>i then j else i)) h
 | _,_,_=>.stuck
theorem J0e (hc:X.calm=Zh):QY ce X (.builtin "max") (on2 maxI):=by
 intro pj s σ H ι σi h xs us Q E N r K
 obtain⟨vs,rv,q⟩:=r
 match xs,K with
 | [x,y],K =>
  obtain⟨v,w,rfl,qx,qy⟩:=q.two_of
  cases x with
  | int i =>
   cases y with
   | int j =>
    cases (show v=.int i from qx)
    cases (show w=.int j from qy)
    exact QU (Jou (X:=X.wish E) hc) N.inv rv ⟨i,j,rfl,fin0 N K rfl⟩
   | _=>exact Zf K
  | _=>cases y<;>exact Zf K
 | [],K=>exact Zf K
 | [_],K=>exact Zf K
 | _::_::_::_,K=>exact Zf K
noncomputable def QT:List IV->Option (List Str)
 | []=>Za []
 | .str x::r=>(QT r).map (x:: ·)
 | _=>Ze
theorem Jmc {K:W.Frag}{ι:List Zi}{H:Hp}:∀{xs:List IV}{zs:List Str}{vs:List V}{us:List Zg},QT xs=Za zs->RVs K ι H xs vs->Vals vs us->∃l:List (Str×Tok),us=ZcD l/\l.map (·.1)=zs
 | [],zs,vs,us,e,q,r=>by
  cases e
  have e1:vs=[]:=q
  subst e1
  cases r
  exact⟨[],rfl,rfl⟩
 | x::xs,zs,vs,us,e,q,r=>by
  obtain⟨v,vr,e1,q1,q2⟩:=q
  subst e1
  cases r with
  | cons r1 r2 =>
   cases x with
   | str y =>
    obtain⟨z2,e2,rfl⟩:=Z7.mp (show(QT xs).map (y:: ·)=Za zs from e)
    cases (show v=.str y from q1)
    obtain⟨t,rfl⟩:=r1
    obtain⟨l,rfl,hl⟩:=Jmc e2 q2 r2
    exact⟨(y,t)::l,rfl,by rw[ZA,hl]⟩
   | _=>cases e
def Xf:IV->List IV->IH->Res IV
 | .str x,[.ref i],h=>match h[i]? with
  | some (.lst xs)=>(match QT xs with
   | some zs=>if ZeC x zs=Zh then .ok (.str (ZT x zs)) h else .stuck
   | none=>.stuck)
  | _=>.stuck
 | _,_,_=>.stuck
theorem Jyh:MtI ce X "str" "str.join" Xf:=by
 intro pj s σ H ι σi h x xs v us Q E N rx rs K
 obtain⟨xv,rx,qx⟩:=rx
 obtain⟨vs,rv,qs⟩:=rs
 cases x with
 | str x =>
  cases (show xv=.str x from qx)
  obtain⟨t,rfl⟩:=rx
  match xs,K with
  | [.ref i],K =>
   obtain⟨w,rfl,a,rfl,ha⟩:=qs.one_of
   obtain⟨u,rfl,ru⟩:=QG rv
   cases ru
   dsimp only[Xf] at K
   cases hi:h[i]? with
   | none=>rw[hi] at K;exact Zf K
   | some ob =>
    rw[hi] at K
    cases ob with
    | lst ys =>
     dsimp only at K
     cases hb:QT ys with
     | none=>rw[hb] at K;exact Zf K
     | some zs =>
      rw[hb] at K
      dsimp only at K
      split at K
      ·rename_i hz
       obtain⟨ws,e1,r1⟩:=N.at hi ha
       obtain⟨its,rv',pl,_⟩:=N.inv.list (SqL.of e1)
       obtain⟨l,rfl,hl⟩:=Jmc hb r1 rv'
       exact SC.join pl.isList hl hz λ t' k=>fin0 N K rfl _ _ (N.inv.tok _) ⟨_,rfl⟩
      ·exact Zf K
    | _=>exact Zf K
  | [],K=>exact Zf K
  | [.non],K=>exact Zf K
  | [.bl _],K=>exact Zf K
  | [.int _],K=>exact Zf K
  | [.str _],K=>exact Zf K
  | [.tup _],K=>exact Zf K
  | [.rol _],K=>exact Zf K
  | y::_::_,K=>cases y<;>exact Zf K
 | _=>exact Zf K
end
noncomputable def QS:List IV->Option (List Int)
 | []=>Za []
 | .int i::r=>(QS r).map (i:: ·)
 | _=>Ze
theorem Jlv {K:W.Frag}{ι:List Zi}{H:Hp}:∀{xs:List IV}{ns:List Int}{vs:List V}{us:List Zg},QS xs=Za ns->RVs K ι H xs vs->Vals vs us->Zds us ns
 | [],ns,vs,us,e,q,r=>by
  cases e
  have e1:vs=[]:=q
  subst e1
  cases r
  exact .nil
 | x::xs,ns,vs,us,e,q,r=>by
  obtain⟨v,vr,e1,q1,q2⟩:=q
  subst e1
  cases r with
  | cons r1 r2 =>
   cases x with
   | int i =>
    obtain⟨n2,e2,rfl⟩:=Z7.mp (show(QS xs).map (i:: ·)=Za ns from e)
    cases (show v=.int i from q1)
    obtain⟨t,rfl⟩:=r1
    exact .cons i t (Jlv e2 q2 r2)
   | _=>cases e
theorem Jhi:∀{us:List Zg}{ns:List Int},Zds us ns->us.length=ns.length
 | _,_,.nil=>rfl
 | _,_,.cons _ _ r=>by simp[Jhi r]
section
variable {ce:CeT}{X:Cx}
noncomputable def sumI:IV->IH->Res IV
 | .ref i,h=>match h[i]? with
  | some (.lst xs)=>(match QS xs with
   | some ns=>.ok (.int ns.sum) h
   | none=>.stuck)
  | _=>.stuck
 | _,_=>.stuck
theorem J0g (hh:X.A.handled=Ze):QY ce X (.builtin "sum") (on1 sumI):=X3 λ pj s σ H ι σi h x xv u Q E N ru qx K=>by
 cases x with
 | ref i =>
  obtain⟨a,e1,ha⟩:=qx
  subst e1
  cases ru
  dsimp only[sumI] at K
  cases hi:h[i]? with
  | none=>rw[hi] at K;exact Zf K
  | some ob =>
   rw[hi] at K
   cases ob with
   | lst xs =>
    dsimp only at K
    cases hb:QS xs with
    | none=>rw[hb] at K;exact Zf K
    | some ns =>
     rw[hb] at K
     obtain⟨vs,e1,r1⟩:=N.at hi ha
     obtain⟨its,rv,pl,hz⟩:=N.inv.list (SqL.of e1)
     have are:=Jlv hb r1 rv
     obtain⟨ys,hy⟩:=are.allInts.items
     have pl':s.heap.IsList a (intItems ys):=hy▸pl.isList
     refine sum_intListG hh pl' λ h2 tk t2 kk=>?_
     have en:ns=ys.toList.map (·.1):=by
      have q1:=are.numsOf
      have q2:=congrArg (λ z:Array Zg=>numsOf z.toList) hy
      simp only at q2
      rw[<- q1]
      exact q2.trans (nums_intItems ys)
     have es:preSum (numAt ys) ys.size=ns.sum:=by
      rw[preSum_eq,en,ZaT (by simp)]
     rw[es]
     exact fin0 N K rfl _ _ (N.inv.kept (t':=tk) kk) ⟨_,rfl⟩
   | _=>exact Zf K
 | _=>exact Zf K
end
def QF (f:Nat->Int):Nat->Int
 | 0=>0
 | 1=>f 0
 | j+2=>if f (j+1)>QF f (j+1) then f (j+1) else QF f (j+1)
theorem Jn7 (f:Nat->Int){j:Nat}(hj:0<j):QF f (j+1)=if f j>QF f j then f j else QF f j:=by
 cases j with
 | zero=>omega
 | succ j=>rfl
section
variable {pr:ZG}{wd:ZX}{B:ZO}{R:Zdy->Zj->Prop}{it:Zi}{fps wrs:List Zi}{n:Nat}{P:Nat->Zg->Prop}{St:Nat->Zak->Prop}
abbrev Jy0 (v:Zg)(c:Nat):Obj:={ cls:=.type "list",dict:=Ze,data:=.seq #[v,v] c,slots:=#[] }
theorem Ji9:(toString "max"++toString ".loop":String)="max.loop":=by decide
theorem Jvm {kw:List (Str×Zg)}(W:Walks pr wd B.in1 it fps wrs n P St)(f:Nat->Int)(hf:∀i v,P i v->∃t,v=.int (f i) t)(C:Zi)(hC:C∉fps) :
  ∀(r j:Nat)(z:Zj)(v:Zg)(u:Tok)(c:Nat),n-j=r->0<j->j<=n->St j z.heap->v=.int (QF f j) u->z.heap.get? C=Za (Jy0 v c) ->
   (∀u h2 tk,(∀a o,a∉wrs->a≠C->z.heap.get? a=Za o->h2.get? a=Za o)->R (.ok (.ret (.int (QF f n) u))) { z with heap:=h2,toks:=tk }) ->
   Zcw (ZE pr wd) B (.builtin "max.loop" ⟨[.ref it,.none,.ref C],kw⟩) R z:=by
 have hw:C∉wrs:=λ q=>hC (W.sub _ q)
 intro r
 induction r with
 | zero =>
  intro j z v u c hr h0 hj st ev gC fin
  obtain rfl:j=n:=by omega
  subst ev
  refine Zbl Zc2 ?_
  rw[Zb4 ZaI _]
  show Zz _ B.in1 (ZdD (.ref C)>>=_) _ _ z
  refine Zk (ZbW gC rfl ?_)
  show Zz _ B.in1 (tryCatch (Zc8 (.ref it)) _>>=_) _ _ z
  refine Zk (Zc3 (W.done z _ _ st λ h2 tk keep=>?_))
  have gC2:=keep C _ hw gC
  show Zz _ B.in1 (updateSeq C (λ _=>#[])>>=_) _ _ _
  refine Zk ?_
  refine ZdV gC2 rfl (Zk (Zeg (ZM ?_)))
  exact fin u _ tk λ a o ha hb e=>(Z2 _ _ (Zao hb)).trans (keep a o ha e)
 | succ r ih =>
  intro j z v u c hr h0 hj st ev gC fin
  have lt:j<n:=by omega
  subst ev
  refine Zbl Zc2 ?_
  rw[Zb4 ZaI _]
  show Zz _ B.in1 (ZdD (.ref C)>>=_) _ _ z
  refine Zk (ZbW gC rfl ?_)
  show Zz _ B.in1 (tryCatch (Zc8 (.ref it)) _>>=_) _ _ z
  refine Zk (Zc3 (W.item j z _ _ lt st λ y h2 tk hP st2 keep=>?_))
  obtain⟨t,rfl⟩:=hf j y hP
  have gC2:=keep C _ hw gC
  have cmp:=CmpOf.ints_gt (prog:=pr) (w:=wd) (A:=B.in1) (P:=λ i v=>∃t,v=.int (if i=0 then f j else QF f j) t) (λ i=>if i=0 then f j else QF f j) (λ _ _ q=>q)
  show Zz _ B.in1 (tryCatch (Zcz [Zd5 (f j) t,Zd5 (f j) t] (richCompare .Gt (.int (f j) t) (.int (QF f j) u)>>=_)) _>>=_) _ _ _
  refine Zk (Zc3 (Zay (Zk (cmp 0 1 _ _ _ _ _ ⟨t,by simp⟩ ⟨u,by simp⟩ ?_))))
  refine Zk (Zay (Zb2 ?_))
  refine Zk (Zeg (ZM ?_))
  have step:=Jn7 f h0
  by_cases hb:f j>QF f j
  ·rw[if_pos hb] at step
   simp only[if_true,show ¬(1:Nat)=0 by decide,if_false,decide_eq_true hb]
   refine Zk ?_
   refine ZdV gC2 rfl (Zk (Zeg ?_))
   rw[Ji9]
   refine ZM ⟨ZcG ZaI _,ih (j+1) _ (.int (f j) t) t _ (by omega) (by omega) lt (W.frame _ _ _ st2 λ a ha o e=>?_) (by rw[step]) (Za0 _ gC2 rfl) λ u2 h3 tk3 k3=>?_⟩
   ·exact(Z2 _ _ (λ q:C=a=>hC (by rw[q];exact ha))).trans e
   ·exact fin u2 h3 tk3 λ a o ha hc e=>k3 a o ha hc ((Z2 _ _ (Zao hc)).trans (keep a o ha e))
  ·rw[if_neg hb] at step
   simp only[if_true,show ¬(1:Nat)=0 by decide,if_false,decide_eq_false hb,ZD]
   refine Zk (Zeg ?_)
   rw[Ji9]
   refine ZM ⟨ZcG ZaI _,ih (j+1) _ (.int (QF f j) u) u c (by omega) (by omega) lt st2 (by rw[step]) gC2 λ u2 h3 tk3 k3=>?_⟩
   exact fin u2 h3 tk3 λ a o ha hc e=>k3 a o ha hc (keep a o ha e)
end
theorem Joj (a v:Zg):argsOk "max" ⟨[a],[(Zb "default",v)]⟩:=by unfold argsOk;kernel_rfl
section
variable {pr:ZG}{wd:ZX}{B:ZO}{E:QvT}{z:Zj}{l:Zi}{us:List Zg}{ns:List Int}{d:Option Zg}{Q:QvT}{kw:List (Str×Zg)}
def Jz7 (ns:List Int)(d:Option Zg)(v:Zg):Prop:=(ns=[]/\d=Za v)∨(ns≠[]/\∃u,v=.int (QF (λ i=>ns.getD i 0) ns.length) u)
theorem Jvl (hk:ZcW "max" ["key","default"] 0 ⟨[],kw⟩=pure [Ze,d])(ha:argsOk "max" ⟨[.ref l],kw⟩)(hn:ns=[]->∃v,d=Za v)(hh:B.handled=Ze)(hl:z.heap.IsList l us.toArray)(hi:Zds us ns)
  (hQ:∀v h2 tk,Jz7 ns d v->(∀b o,z.heap.get? b=Za o->h2.get? b=Za o)->Q v { z with heap:=h2,toks:=tk }) :
  Zz (ZE pr wd) B (call (.builtin "max") [.ref l] kw) Q E z:=by
 obtain⟨ol,hol,_⟩:=id hl
 have lt:l<z.heap.objs.size:=Z4 hol
 have ll:=Jhi hi
 refine kmk_tree PySem.F.kind_max PySem.F.plain_max PySem.F.entry_max ha ?_
 show Zz _ B.in1 (ZcW "max" ["key","default"] 0 ⟨[],kw⟩>>=_) _ _ z
 refine Zk (wpAny_of_eq hk ?_)
 refine Zk (ZM ?_)
 refine Zk (Zbg hl ?_)
 refine Zk (wpAny_newList ?_ (Zar _))
 rw[Ji9]
 have ne:l≠z.heap.objs.size:=ZK lt
 have W:=Walks.list (prog:=pr) (w:=wd) (A:=B.in1) hh z.heap.objs.size l ne us.toArray
 have sz:us.toArray.size=us.length:=Z5 ..
 have hS:(z.heap.push { cls:=.type "list_iterator",data:=.fields #[.ref l,.int 0 0] }).objs.size=z.heap.objs.size+1:=size_push' ..
 have hC:(z.heap.push { cls:=.type "list_iterator",data:=.fields #[.ref l,.int 0 0] }).objs.size∉[z.heap.objs.size,l]:=by
  rw[hS]
  simp only[Zt,Z9,or_false,not_or]
  exact⟨Zbp (Zbv _),Zbp (Zc4 lt)⟩
 have hw:(z.heap.push { cls:=.type "list_iterator",data:=.fields #[.ref l,.int 0 0] }).objs.size∉[z.heap.objs.size]:=by
  rw[hS]
  simp only[Zt,Z9,or_false]
  exact Zbp (Zbv _)
 have old:∀b o,z.heap.get? b=Za o->((z.heap.push { cls:=.type "list_iterator",data:=.fields #[.ref l,.int 0 0] }).push (seqObj "list" #[] 0)).get? b=Za o:=λ b o e=>Zm _ (Zm _ e)
 have gI:((z.heap.push { cls:=.type "list_iterator",data:=.fields #[.ref l,.int 0 0] }).push (seqObj "list" #[] 0)).get? z.heap.objs.size=Za { cls:=.type "list_iterator",data:=.fields #[.ref l,.int 0 0] }:=Zm _ (Z8 _ rfl)
 have gC:((z.heap.push { cls:=.type "list_iterator",data:=.fields #[.ref l,.int 0 0] }).push (seqObj "list" #[] 0)).get? (z.heap.push { cls:=.type "list_iterator",data:=.fields #[.ref l,.int 0 0] }).objs.size=Za (seqObj "list" #[] 0):=Z8 _ rfl
 have notin:∀b o,z.heap.get? b=Za o->b∉[z.heap.objs.size]:=λ b o e q=>ZK (Z4 e) (Z3.mp q)
 have notC:∀b o,z.heap.get? b=Za o->b≠(z.heap.push { cls:=.type "list_iterator",data:=.fields #[.ref l,.int 0 0] }).objs.size:=λ b o e=>by rw[hS];exact ZK (Zc4 (Z4 e))
 refine ZM ⟨ZcG ZaI _,Zbl Zc2 ?_⟩
 rw[Zb4 ZaI _]
 show Zz _ B.in1 (ZdD (.ref _)>>=_) _ _ _
 refine Zk (ZbW gC rfl ?_)
 show Zz _ B.in1 (tryCatch (Zc8 (.ref z.heap.objs.size)) _>>=_) _ _ _
 by_cases h0:us.length=0
 ·refine Zk (Zc3 (W.done _ _ _ (by rw[sz,h0];exact⟨⟨_,gI,rfl,rfl⟩,(hl.push _).push _⟩) λ h2 tk keep=>?_))
  obtain⟨v,rfl⟩:=hn (ZaK (by omega))
  show Zz _ B.in1 (rule _>>=_) _ _ _
  refine Zk (wpAny_rule (ZM ?_))
  refine hQ v h2 tk (.inl ⟨ZaK (by omega),rfl⟩) λ b o e=>keep b o (notin b o e) (old b o e)
 ·refine Zk (Zc3 (W.item 0 _ _ _ (by rw[sz];omega) ⟨⟨_,gI,rfl,rfl⟩,(hl.push _).push _⟩ λ y h2 tk hP st2 keep=>?_))
  have gC2:=keep _ _ hw gC
  show Zz _ B.in1 (updateSeq (z.heap.push { cls:=.type "list_iterator",data:=.fields #[.ref l,.int 0 0] }).objs.size (λ _=>#[y,y])>>=_) _ _ _
  refine Zk ?_
  refine ZdV gC2 rfl ?_
  rw[Ji9]
  have hf:∀(i:Nat)(v:Zg),us.toArray[i]?=Za v->∃t,v=.int ((λ i=>ns.getD i 0) i) t:=λ i v q=>IntsAre.int_at hi i v (by simpa using q)
  obtain⟨t,rfl⟩:=hf 0 y hP
  refine ZM ⟨ZcG ZaI _,Jvm W (λ i=>ns.getD i 0) hf _ hC _ 1 _ _ t _ rfl (by decide) (by rw[sz];omega) (W.frame _ _ _ st2 λ a ha o e=>?_) rfl (Za0 _ gC2 rfl) λ u h3 tk3 k3=>?_⟩
  ·exact(Z2 _ _ (λ q=>hC (by rw[q];exact ha))).trans e
  ·rw[sz,ll]
   refine hQ _ h3 tk3 (.inr ⟨λ q=>h0 (by rw[ll,q];rfl),u,rfl⟩) λ b o e=>k3 b o (notin b o e) (notC b o e) ((Z2 _ _ (Zao (notC b o e))).trans (keep b o (notin b o e) (old b o e)))
end
section
variable {ce:CeT}{X:Cx}
def maxD (ns:List Int)(d:IV):IV:=if ns=[] then d else .int (QF (λ i=>ns.getD i 0) ns.length)
def YL (aa:A1)(md:E1):E1:=λ σ h=>(aa σ h).bind λ xs h1=>(md σ h1).bind λ d h2=>match xs with
 | [.ref i]=>(match h2[i]? with
  | some (.lst ys)=>(match QS ys with
   | some ns=>.ok (maxD ns d) h2
   | none=>.stuck)
  | _=>.stuck)
 | _=>.stuck
theorem Jxz {a de:Expr}{aa:A1}{md:E1}{p pos kp:Pos}(hh:X.A.handled=Ze)(hg:Gl X "max")(hm:X.mg "max"=Ze)(ha:PAi ce X [a] aa)(hd:PEi ce X de md)(hs:ZN [a] X.env=[(Zc,ZaV a X.env)]) :
  PEi ce X (.Call (.Name "max" p) [a] [⟨Za "default",de,kp⟩] pos) (YL aa md):=λ pj s σ H ι σi h Q E N K=>by
 refine Zaz (V7 N.inv hg hm rfl ?_)
 refine callWith_kw ?_ (by rw[hs];rfl) (by rw[hs];rfl) rfl rfl
 refine(ha pos).run N K λ xs h1 us s1 H1 ι1 N1 n1 r1 K1=>?_
 refine PyProof.Rows.evalAll_cons (Zk (PX.run hd N1 K1 λ d h2 du s2 H2 ι2 N2 n2 r2 K2=>Zk (Zci (ZM (PyProof.Rows.evalAll_nil ?_)))))
 obtain⟨vs,rv,qs⟩:=r1.mono n2
 match xs,K2 with
 | [.ref i],K2 =>
  obtain⟨w,rfl,ad,rfl,hav⟩:=qs.one_of
  obtain⟨u,rfl,ru⟩:=QG rv
  cases ru
  dsimp only at K2
  cases hi:h2[i]? with
  | none=>rw[hi] at K2;exact Zf K2
  | some ob =>
   rw[hi] at K2
   cases ob with
   | lst ys =>
    dsimp only at K2
    cases hb:QS ys with
    | none=>rw[hb] at K2;exact Zf K2
    | some ns =>
     rw[hb] at K2
     dsimp only at K2
     obtain⟨ws,e1,r3⟩:=N2.at hi hav
     obtain⟨its,rv2,pl,_⟩:=N2.inv.list (SqL.of e1)
     refine Jvl (d:=Za du) rfl (Joj _ _) (λ _=>⟨_,rfl⟩) hh pl.isList (Jlv hb r3 rv2) λ v h3 tk mi kk=>?_
     have N3:Now ce X pj ι2 σi h2 σ H2 { s2 with heap:=h3,toks:=tk }:=⟨N2.inv.kept (t':=tk) kk,N2.rel,N2.st⟩
     rcases mi with⟨e,ev⟩|⟨e,t,rfl⟩
     ·cases ev
      have em:maxD ns d=d:=if_pos e
      rw[em] at K2
      exact K2 _ _ _ _ N3 .refl r2
     ·have em:maxD ns d=.int (QF (λ i=>ns.getD i 0) ns.length):=if_neg e
      rw[em] at K2
      exact K2 _ _ _ _ N3 .refl ⟨.int _,⟨t,rfl⟩,rfl⟩
   | _=>exact Zf K2
 | [],K2=>exact Zf K2
 | [.non],K2=>exact Zf K2
 | [.bl _],K2=>exact Zf K2
 | [.int _],K2=>exact Zf K2
 | [.str _],K2=>exact Zf K2
 | [.tup _],K2=>exact Zf K2
 | [.rol _],K2=>exact Zf K2
 | x::_::_,K2=>cases x<;>exact Zf K2
end
def metB (f:Nat->Str)(i:Nat)(k:Str):Bool:=(ZaO i).any λ j=>decide (k=f j)
def cntD (f:Nat->Str):Nat->Nat
 | 0=>0
 | i+1=>if metB f i (f i) then cntD f i else cntD f i+1
theorem Jp0 (f:Nat->Str)(i:Nat)(k:Str):metB f (i+1) k=(metB f i k||decide (k=f i)):=by simp[metB,ZcO]
theorem Jlm (f:Nat->Str):∀i,cntD f i<=i
 | 0=>Zu _
 | i+1=>by
  have:=Jlm f i
  unfold cntD
  split<;>omega
section
variable {pr:ZG}{wd:ZX}{B:ZO}{R:Zdy->Zj->Prop}{it:Zi}{fps wrs:List Zi}{G:Array Ze2->Array Ze2->Prop}{n:Nat}{P:Nat->Zg->Prop}{St:Nat->Zj->Prop}
abbrev VH (pr:ZG)(wd:ZX)(hp:Zak)(a:Zi)(f:Nat->Str)(i:Nat):Prop:=hp.SetOf (ZcH pr wd) a (λ k=>metB f i k) (cntD f i)
theorem VH.moved {hp h2:Zak}{a:Zi}{f:Nat->Str}{i:Nat}(q:VH pr wd hp a f i)(m:∀o,hp.get? a=Za o->h2.get? a=Za o):VH pr wd h2 a f i:=by
 obtain⟨o,es,ep,t,ho,rest⟩:=q
 exact⟨o,es,ep,t,m o ho,rest⟩
theorem Jsl (W:WalksS pr wd B.in1 it fps wrs G n P St)(C:Zi)(hC:C∉fps)(f:Nat->Str)(hf:∀i v,P i v->∃t,v=.str (f i) t)(room:n+1<Zcc) :
  ∀(r i:Nat)(z:Zj),n-i=r->i<=n->St i z->VH pr wd z.heap C f i->(∀z2,Moved (C::wrs) G z z2->VH pr wd z2.heap C f n->R (.ok (.ret .none)) z2) ->
   Zcw (ZE pr wd) B (.builtin "set.update.loop" ⟨[.ref C,.ref it],[]⟩) R z:=by
 have nw:C∉wrs:=λ q=>hC (W.sub _ q)
 have more:∀b∈wrs,b∈C::wrs:=λ b q=>Zs _ q
 intro r
 induction r with
 | zero =>
  intro i z hr hi st hS fin
  obtain rfl:i=n:=by omega
  refine Zbl Zcf ?_
  rw[Zb4 Zbn _]
  show Zz _ B.in1 (Zc8 (.ref it)>>=_) _ _ z
  refine Zk (W.done z _ _ st λ z2 mv=>?_)
  show Zz _ B.in1 (ret Zag) _ _ z2
  exact ZM (fin z2 (mv.mono more) (hS.moved λ o e=>mv.heap C _ nw e))
 | succ r ih =>
  intro i z hr hi st hS fin
  have lt:i<n:=by omega
  refine Zbl Zcf ?_
  rw[Zb4 Zbn _]
  show Zz _ B.in1 (Zc8 (.ref it)>>=_) _ _ z
  refine Zk (W.item i z _ _ lt st λ v z2 hP st2 mv=>?_)
  obtain⟨t,rfl⟩:=hf i v hP
  have hS2:VH pr wd z2.heap C f i:=hS.moved λ o e=>mv.heap C _ nw e
  have ki:(ZcH pr wd).is (f i) (.str (f i) t)=Zh:=strKind_is _ _ _ _
  show Zz _ B.in1 (Zcz [Zel (f i) t] (setAdd C (.str (f i) t))>>=_) _ _ z2
  refine Zk (Zay ?_)
  unfold setAdd
  refine Zay ?_
  refine Zk ((ZcH pr wd).pyHash (k:=f i) ki ?_)
  have rm:cntD f i+1<Zcc:=by have:=Jlm f i;omega
  refine wpAny_setAddHashed_of (knd:=ZcH pr wd) (s:={ z2 with toks:=z2.toks+1 }) ki rfl hS2 rm λ h3 sb hS3=>?_
  have hS4:VH pr wd h3 C f (i+1):=SetOf_congr hS3 (λ k=>(Jp0 f i k).symm) (by show _=cntD f (i+1);rfl)
  refine ZM ⟨ZcG Zbn _,ih (i+1) _ (by omega) lt (W.frame _ z2 _ _ st2 (ZbJ _) λ b q o e=>?_) hS4 λ z5 m5 hS5=>?_⟩
  ·rw[sb.2 b (λ e2:b=C=>hC (by rw[<- e2];exact q))];exact e
  ·refine fin z5 (Moved.trans W.gtrans ((mv.mono more).then_heap (ZbJ _) λ b o q e=>?_) m5) hS5
   rw[sb.2 b (λ e2:b=C=>q (by rw[e2];exact Zv))];exact e
end
section
variable {pr:ZG}{wd:ZX}{B:ZO}{E:QvT}{z:Zj}{l:Zi}{us:List Zg}{zs:List Str}{Q:QvT}
abbrev Vr (led:Bool):Obj:={ cls:=.type "set",dict:=Ze,data:=.set #[] 0 (.fresh 0 0 led) }
abbrev Ve (zs:List Str):Nat->Str:=λ i=>zs.getD i Zd7
set_option maxRecDepth 100000 in
theorem Jsj {l2:List (Str×Tok)}(hh:B.handled=Ze)(hl:z.heap.IsList l us.toArray)(eu:us=ZcD l2)(ez:l2.map (·.1)=zs)(room:zs.length+1<Zcc)
  (fin:∀(h2:Zak)(tk:Nat),VH pr wd h2 z.heap.objs.size (Ve zs) zs.length->(∀b o,z.heap.get? b=Za o->h2.get? b=Za o)->Q (.ref z.heap.objs.size) { z with heap:=h2,toks:=tk }) :
  Zz (ZE pr wd) B (call (.type "set") [.ref l]) Q E z:=by
 have len:us.toArray.size=zs.length:=by rw[eu,<-ez];simp[ZcD]
 have vals:∀(i:Nat)(v:Zg),us.toArray[i]?=Za v->∃t,v=.str (Ve zs i) t:=λ i v q=>by
  rw[eu] at q
  simp only[ZcD,Zea,Z6] at q
  obtain⟨p,hp,rfl⟩:=Z7.mp q
  refine⟨p.2,?_⟩
  rw[<- ez]
  simp[Ve,Zbx,Z6,hp]
 obtain⟨c,tl,hmro⟩:=PySem.F.called_set.mro
 have hmade:=PySem.F.called_set.made
 have hsub:=PySem.F.called_set.sub
 refine Zey (codeAny_of_tree ?_)
 show Zz _ _ (callAny (.type "set") _) _ _ _
 refine ZM ⟨Code.quiet_builtin _ (by decide +kernel),Zbl PySem.F.entry_type_call ?_⟩
 rw[Around.under_plain (weight_type_call_type "set" [.ref l] []) rfl]
 have no1:=PySem.F.called_set.notType
 have no2:=PySem.F.called_set.canCreate
 have ok1:=PySem.F.typeCall_set_1 (.ref l)
 repeat (any_goals (first|assumption|wp_step))
 refine Zcb (code_set_new_1 (.ref l) (E:=E) (Q₁:=λ obj z1=>∃led:Bool,obj=.ref z.heap.objs.size/\z1={ z with heap:=z.heap.push (Vr led) }) λ led=>⟨led,rfl,rfl⟩) λ res z1 hr=>?_
 cases res with
 | error e=>exact hr
 | ok fl =>
  cases fl with
  | ret obj =>
   obtain⟨led,rfl,rfl⟩:=hr
   have gS:(z.heap.push (Vr led)).get? z.heap.objs.size=Za (Vr led):=Z8 _ rfl
   have tS:Shared.TypeIs { z with heap:=z.heap.push (Vr led) } (.ref z.heap.objs.size) "set":=⟨_,gS,rfl⟩
   have in1:=PySem.F.called_set.init.lookup
   have in2:=PySem.F.called_set.init.bind (.ref z.heap.objs.size)
   repeat (any_goals (first|assumption|wp_step))
   refine Zcb (ZcJ (R:=wants (λ res z2=>res=.none/\∃h2 tk,z2={ z with heap:=h2,toks:=tk }/\VH pr wd h2 z.heap.objs.size (Ve zs) zs.length/\(∀b o,z.heap.get? b=Za o->h2.get? b=Za o)) E)
    PySem.F.called_set.init.plain PySem.F.entry_set_init (check_set_init_1 tS ?_)) λ res2 z2 hr2=>?_
   ·obtain⟨ol,hol,hcl,nl,hdl⟩:=hl
    obtain⟨ocls,odict,odata,oslots⟩:=ol
    simp only at hcl hdl
    subst hcl;subst hdl
    have gl:(z.heap.push (Vr led)).get? l=Za { cls:=.type "list",dict:=odict,data:=.seq us.toArray nl,slots:=oslots }:=Zm _ hol
    have sb1:=PySem.F.sub_list_set
    have sb2:=PySem.F.sub_list_frozenset
    have dne:(Zc7 "list"==Zc7 "dict")=Zc:=by decide
    have hl1:(z.heap.push (Vr led)).IsList l us.toArray:=⟨_,gl,rfl,nl,rfl⟩
    unfold ZdL.«set.__init__» noKeywords Builtin.Frozenset.updateFrom
    generalize hPI:Zex=PI
    wp_walk
    subst hPI
    refine Zbg hl1 ?_
    refine Zk (wpAny_runValue ?_)
    have lS:l<z.heap.objs.size:=Z4 hol
    have h3:B.in1.in1.in1.handled=Ze:=by simp[hh]
    have neI:l≠(z.heap.push (Vr led)).objs.size:=by rw[ZbV];exact ZK (Zc4 lS)
    have nC:z.heap.objs.size∉[(z.heap.push (Vr led)).objs.size,l]:=by
     rw[ZbV]
     simp only[Zt,Z9,or_false,not_or]
     exact⟨ZK (Zbv _),Zbp lS⟩
    refine Jsl ((Walks.list h3 _ l neI us.toArray).toS) z.heap.objs.size nC (Ve zs) vals (by rw[len];exact room) (us.toArray.size-0) 0 _ (by omega) (Zar _) ⟨⟨_,Z8 _ rfl,rfl,rfl⟩,(hl1.push _)⟩ ?start ?stop
    case start =>
     have g0:((z.heap.push (Vr led)).push { cls:=.type "list_iterator",data:=.fields #[.ref l,.int 0 0] }).get? z.heap.objs.size=Za (Vr led):=Zm _ gS
     exact SetOf_congr ((setObjOf_fresh (knd:=ZcH pr wd) led).setOf g0 (by unfold Zcc;omega)) (λ _=>rfl) rfl
    case stop =>
     intro z5 mv hS5
     obtain⟨h5,g5,d5,tk5,os5⟩:=z5
     have eg:g5=z.gens:=mv.gens
     have ed:d5=z.drawn:=mv.drawn
     have eo:os5=z.os:=mv.os
     subst eg;subst ed;subst eo
     show Zz _ _ _ _ _ _
     refine ZM ?_
     show Zz _ _ (ret Zag) _ _ _
     rw[len] at hS5
     refine ZM ⟨rfl,h5,tk5,rfl,hS5,λ b o e=>?_⟩
     have lb:=Z4 e
     have b1:b≠z.heap.objs.size:=ZK lb
     have b2:b≠(z.heap.push (Vr led)).objs.size:=by rw[ZbV];exact ZK (Zc4 lb)
     exact mv.heap b o (by simp only[Zt,Z9,or_false,not_or];exact⟨b1,b2⟩) (Zm _ (Zm _ e))
   ·cases res2 with
    | error e=>exact hr2
    | ok fl2 =>
     cases fl2 with
     | ret rv =>
      obtain⟨rfl,h2,tk,rfl,hS2,keep⟩:=hr2
      repeat (any_goals (first|assumption|wp_step))
      exact fin _ _ hS2 keep
     | _=>exact hr2.elim
  | _=>exact hr.elim
end
section
variable {ce:CeT}{X:Cx}
def YK (aa:A1):E1:=λ σ h=>(aa σ h).bind λ xs h1=>match xs with
 | [.ref i]=>(match h1[i]? with
  | some (.lst ys)=>(match QT ys with
   | some zs=>if zs.length+1<Zcc then .ok (.int (cntD (Ve zs) zs.length)) h1 else .stuck
   | none=>.stuck)
  | _=>.stuck)
 | _=>.stuck
theorem Jru {a:Expr}{aa:A1}{p pos p2 pos2:Pos}(hh:X.A.handled=Ze)(g1:Gl X "len")(m1:X.mg "len"=Ze)(g2:Gl X "set")(m2:X.mg "set"=Ze)(ha:PAi ce X [a] aa)(hs:ZN [a] X.env=[(Zc,ZaV a X.env)]) :
  PEi ce X (.Call (.Name "len" p) [.Call (.Name "set" p2) [a] [] pos2] [] pos) (YK aa):=λ pj s σ H ι σi h Q E N K=>by
 refine Zaz (V7 N.inv g1 m1 rfl ?_)
 refine ZbC ?_ rfl rfl
 refine PyProof.Rows.spliced_more ?_
 refine Zaz (V7 N.inv g2 m2 rfl ?_)
 refine ZaS ?_ hs rfl
 refine(ha pos2).run N K λ xs h1 us s1 H1 ι1 N1 n1 r1 K1=>?_
 obtain⟨vs,rv,qs⟩:=r1
 match xs,K1 with
 | [.ref i],K1 =>
  obtain⟨w,rfl,ad,rfl,hav⟩:=qs.one_of
  obtain⟨u,rfl,ru⟩:=QG rv
  cases ru
  dsimp only at K1
  cases hi:h1[i]? with
  | none=>rw[hi] at K1;exact Zf K1
  | some ob =>
   rw[hi] at K1
   cases ob with
   | lst ys =>
    dsimp only at K1
    cases hb:QT ys with
    | none=>rw[hb] at K1;exact Zf K1
    | some zs =>
     rw[hb] at K1
     dsimp only at K1
     split at K1
     ·rename_i room
      obtain⟨ws,e1,r3⟩:=N1.at hi hav
      obtain⟨its,rv2,pl,_⟩:=N1.inv.list (SqL.of e1)
      obtain⟨l2,eu,ez⟩:=Jmc hb r3 rv2
      refine Jsj hh pl.isList eu ez room λ h2 tk hS keep=>PyProof.Rows.spliced_none ?_
      obtain⟨o,es,ep,t,ho,hex,hd,hel,hmem,hbb,hf,hn⟩:=hS
      have fit:(es.size:Int)<2^63:=by
       have:=Jlm (Ve zs) zs.length
       have sb:Zcc<=2^40:=by unfold Zcc;decide
       omega
      refine call_len_set ho hex hd hf fit ?_
      rw[hn]
      exact K1 _ _ _ _ ⟨(N1.inv.kept (t':=_) keep),N1.rel,N1.st⟩ .refl ⟨.int _,⟨_,rfl⟩,rfl⟩
     ·exact Zf K1
   | _=>exact Zf K1
 | [],K1=>exact Zf K1
 | [.non],K1=>exact Zf K1
 | [.bl _],K1=>exact Zf K1
 | [.int _],K1=>exact Zf K1
 | [.str _],K1=>exact Zf K1
 | [.tup _],K1=>exact Zf K1
 | [.rol _],K1=>exact Zf K1
 | x::_::_,K1=>cases x<;>exact Zf K1
end
section
variable {α β:Type}{h h1:IH}{σ:ISt}
def SRes.sq (r:SRes)(b:S1):SRes:=match r with
 | .next σ' h'=>b σ' h'
 | r=>r
theorem Jut {n:Nat}{σ:ISt}{h:IH}{c:Str}{fs:List (Str×IV)}(e:h[n]?=Za (.exc c fs)):(SRes.exc n σ h).fin=.exc n h:=by simp[SRes.fin,e]
theorem X5 (v:IV)(σ:ISt):Jb 0 (Za v::σ) h=.ok v h:=rfl
theorem YM (n:Nat)(x:Option IV)(σ:ISt):Jb (n+1) (x::σ) h=Jb n σ h:=rfl
end
def MulS (x:Str)(n:Int):Bool:=decide (x.length<=1000/\ -1000<=n/\n<=1000)
theorem MulS.ok {x:Str}{n:Int}(h:MulS x n=Zh):MulOk x n:=by
 simp only[MulS,decide_eq_true_eq] at h
 obtain⟨h1,h2,h3⟩:=h
 refine⟨?_,λ hn _=>?_,λ hn _=>?_⟩
 ·simp only[ZbX,decide_eq_false_iff_not]
  omega
 ·have e:(1000:Int)<=(2^63-1)/n:=by
   rw[Int.le_ediv_iff_mul_le (by omega)]
   have:(1000:Int)*n<=1000*1000:=Int.mul_le_mul_of_nonneg_left h3 (by decide)
   omega
  omega
 ·have:x.length*n.toNat<=1000*1000:=Nat.mul_le_mul h1 (by omega)
  have hb:1000000<sizeLine:=by decide
  unfold ZcS
  simp only[decide_eq_false_iff_not]
  omega
theorem Jvu {X:L2.Cx}:OpR X (ZaQ .Mult) (λ x y H Q=>∃i j,x=.str i/\y=.int j/\MulS i j=Zh/\Q (.str (Zc5 i j)) H):=by
 intro pj s σ H x y v u Q I rx ry h
 obtain⟨i,j,rfl,rfl,hz,q⟩:=h
 obtain⟨t,rfl⟩:=rx
 obtain⟨t',rfl⟩:=ry
 exact SB.mul (MulS.ok hz) λ t' tk=>⟨.str (Zc5 i j),H,I.tok _,⟨_,rfl⟩,q⟩
def Vt (x y:IV)(h:IH):Res IV:=match x with
 | .str i=>(match y with
  | .int j=>if MulS i j then .ok (.str (Zc5 i j)) h else .stuck
  | _=>.stuck)
 | x=>Yh x y h
section
variable {ce:CeT}{X:Cx}
theorem Jyq:OpI ce X (ZaQ .Mult) Vt:=by
 intro pj s σ H ι σi h x y v u Q E N rx ry K
 cases x with
 | str i =>
  obtain⟨xv,rx,qx⟩:=rx
  obtain⟨yv,ry,qy⟩:=ry
  cases y with
  | int j =>
   have e1:xv=.str i:=qx
   have e2:yv=.int j:=qy
   subst e1 e2
   dsimp only[Vt] at K
   split at K
   ·rename_i hz
    exact Q4 (Jvu (X:=X.wish E)) N.inv rx ry ⟨i,j,rfl,rfl,hz,fin0 N K rfl⟩
   ·exact Zf K
  | _=>exact Zf K
 | _=>exact J00 pj s σ H ι σi h _ y v u Q E N rx ry K
end
noncomputable def valI (kvs:List (Key×IV))(k:Key):Option IV:=(kvs.find? λ kv=>decide (kv.1=k)).map (·.2)
theorem Js1 {p:Key×IV}{r:List (Key×IV)}{k:Key}(e:p.1=k):valI (p::r) k=Za p.2:=by simp[valI,Zbk,e]
theorem Js0 {p:Key×IV}{r:List (Key×IV)}{k:Key}(e:¬p.1=k):valI (p::r) k=valI r k:=by simp[valI,Zbk,e]
theorem RPs.get {K:W.Frag}{ι:List Zi}{H:Hp}(k:Key):∀{xs:List (Key×IV)}{vs:List (Key×V)},RPs K ι H xs vs->(valI xs k=Ze/\valV vs k=Ze)∨∃v w,valI xs k=Za v/\valV vs k=Za w/\RV K ι H v w
 | [],_,h=>by
  have e:_=[]:=h
  subst e
  exact .inl ⟨rfl,rfl⟩
 | x::xs,_,h=>by
  obtain⟨v,r,rfl,q,t⟩:=h
  by_cases e:x.1=k
  ·exact .inr ⟨x.2,v,Js1 e,Jg8 e,q⟩
  ·rw[Js0 e,Jg7 e]
   exact RPs.get k t
theorem RPs.snoc {K:W.Frag}{ι:List Zi}{H:Hp}{k:Key}{v:IV}{w:V}(q:RV K ι H v w):∀{xs:List (Key×IV)}{vs:List (Key×V)},RPs K ι H xs vs->RPs K ι H (xs++[(k,v)]) (vs++[(k,w)])
 | [],_,h=>by
  have e:_=[]:=h
  subst e
  exact⟨w,[],rfl,q,rfl⟩
 | x::xs,_,h=>by
  obtain⟨v',r,rfl,q',t⟩:=h
  exact⟨v',r++[(k,w)],rfl,q',RPs.snoc q t⟩
section
variable {ce:CeT}{X:Cx}
def J1x:E1:=λ _ h=>.ok (.ref h.length) (h++[.dct []])
end
noncomputable def putD (kvs:List (Key×IV))(k:Key)(v:IV):List (Key×IV) :=
 if (kvs.any λ kv=>decide (kv.1=k))=Zh then kvs.map (λ kv=>if kv.1=k then(kv.1,v) else kv) else kvs++[(k,v)]
theorem RPs.any {K:W.Frag}{ι:List Zi}{H:Hp}(k:Key):∀{xs:List (Key×IV)}{vs:List (Key×V)},RPs K ι H xs vs->(xs.any λ kv=>decide (kv.1=k))=vs.any λ kv=>decide (kv.1=k)
 | [],_,h=>by
  have e:_=[]:=h
  subst e
  rfl
 | x::xs,_,h=>by
  obtain⟨v,r,rfl,q,t⟩:=h
  rw[ZcF,ZcF,RPs.any k t]
theorem RPs.upd {K:W.Frag}{ι:List Zi}{H:Hp}{k:Key}{v:IV}{w:V}(q:RV K ι H v w):∀{xs:List (Key×IV)}{vs:List (Key×V)},RPs K ι H xs vs->RPs K ι H (xs.map λ kv=>if kv.1=k then(kv.1,v) else kv) (vs.map λ kv=>if kv.1=k then(kv.1,w) else kv)
 | [],_,h=>by
  have e:_=[]:=h
  subst e
  exact rfl
 | x::xs,_,h=>by
  obtain⟨v',r,rfl,q',t⟩:=h
  rw[ZA,ZA]
  by_cases e:x.1=k
  ·rw[if_pos e,if_pos e]
   exact⟨w,_,rfl,q,RPs.upd q t⟩
  ·rw[if_neg e,if_neg e]
   exact⟨v',_,rfl,q',RPs.upd q t⟩
theorem RPs.putKK {K:W.Frag}{ι:List Zi}{H:Hp}{k:Key}{v:IV}{w:V}{xs:List (Key×IV)}{vs:List (Key×V)}(q:RV K ι H v w)(r:RPs K ι H xs vs):RPs K ι H (putD xs k v) (putK vs k w):=by
 unfold putD putK
 rw[r.any k]
 split
 ·exact r.upd q
 ·exact r.snoc q
section
variable {ce:CeT}{X:Cx}
def J1z (x y:IV)(h:IH):Res IV:=match x with
 | .ref i=>(match h[i]? with
  | some (.dct kvs)=>(match keyI y with
   | some k=>(match valI kvs k with
    | some v=>.ok v h
    | none=>.stuck)
   | none=>.stuck)
  | _=>.stuck)
 | _=>.stuck
noncomputable def cInD (x c:IV)(h:IH):Res IV:=match c with
 | .ref i=>(match h[i]? with
  | some (.dct kvs)=>(match keyI x with
   | some k=>.ok (.bl (valI kvs k).isSome) h
   | none=>.stuck)
  | _=>.stuck)
 | _=>.stuck
theorem J0x:OpI ce X (Zav .In) cInD:=by
 intro pj s σ H ι σi h x y v u Q E N rx ry K
 obtain⟨xv,rx,qx⟩:=rx
 obtain⟨yv,ry,qy⟩:=ry
 cases y with
 | ref i =>
  obtain⟨a,e1,ha⟩:=qy
  subst e1
  dsimp only[cInD] at K
  cases hi:h[i]? with
  | none=>rw[hi] at K;exact Zf K
  | some ob =>
   rw[hi] at K
   cases ob with
   | dct kvs =>
    dsimp only at K
    cases ek:keyI x with
    | none=>rw[ek] at K;exact Zf K
    | some k =>
     rw[ek] at K
     dsimp only at K
     obtain⟨ws,e1,r1⟩:=N.at hi ha
     cases Jms ek qx
     cases (show u=.ref a from ry)
     obtain⟨z,hd,ps,rel,dd⟩:=Jxa N.inv.hok e1
     refine wpAny_in_of (Jya rx) hd dd.mapOf ?_
     rw[<- (rel.val k).isSome_eq]
     have es:(valV ws k).isSome=(valI kvs k).isSome:=by
      rcases r1.get k with⟨p,q⟩|⟨v1,w1,p,q,r⟩<;>rw[p,q]<;>rfl
     rw[es]
     exact fin0 N K rfl _ _ (N.inv.tok _) rfl
   | _=>exact Zf K
 | _=>exact Zf K
def Jzi:IV->IV->IV->ISt->IH->SRes
 | .ref i,iv,v,σ,h=>match h[i]? with
  | some (.dct kvs)=>(match keyI iv with
   | some k=>if kvs.length<sizeLine then .next σ (h.set i (.dct (putD kvs k v))) else .stuck
   | none=>.stuck)
  | _=>.stuck
 | _,_,_,_,_=>.stuck
def gSbD (o i:E1):G1:=λ v σ h=>rS σ (o σ h) λ ov h1=>rS σ (i σ h1) λ iv h2=>Jzi ov iv v σ h2
theorem Jxh {oe ie:Expr}{mo mi:E1}{pos:Pos}(ho:PEi ce X oe mo)(hi:PEi ce X ie mi)
  (ha:∀v,Zd1 (.Subscript oe ie pos) X.env v=(do
   let ov<-Zcz [v] (ZaV oe X.env)
   let iv<-Zcz [v,ov] (ZaV ie X.env)
   Ze8 pos
   Zcz [v,ov,iv] (setItem ov iv v)
   release [v,ov,iv] [])):PGi ce X (.Subscript oe ie pos) (gSbD mo mi):=by
 intro pj s σ H ι σi h v u Q E N r K
 rw[ha]
 refine Zk (Zay (krun ho N K λ ov h1 ou s1 H1 ι1 N1 n1 r1 K1=>?_))
 refine Zk (Zay (krun hi N1 K1 λ iv h2 iu s2 H2 ι2 N2 n2 r2 K2=>?_))
 have r':RU X.K ι2 H2 v u:=(r.mono n1).mono n2
 obtain⟨ox,ro,qo⟩:=r1.mono n2
 obtain⟨ix,ri,qi⟩:=r2
 obtain⟨vx,rvx,qv⟩:=r'
 refine Zk (Zci (Zk (Zay ?_)))
 cases ov with
 | ref i =>
  obtain⟨a,rfl,haa⟩:=qo
  dsimp only[Jzi] at K2
  cases hh:h2[i]? with
  | none=>rw[hh] at K2;exact Zf K2
  | some ob =>
   rw[hh] at K2
   cases ob with
   | dct kvs =>
    dsimp only at K2
    cases ek:keyI iv with
    | none=>rw[ek] at K2;exact Zf K2
    | some k =>
     rw[ek] at K2
     dsimp only at K2
     split at K2
     ·rename_i hl
      obtain⟨ws,e1,r1'⟩:=N2.at hh haa
      cases Jms ek qi
      cases (show ou=.ref a from ro)
      obtain⟨z,hd,ps,rel,dd⟩:=Jxa N2.inv.hok e1
      have hz:ps.length<=sizeLine:=by rw[<- rel.length];exact z
      have hlen:(putK ws k vx).length<=sizeLine:=by
       have h1:=Jlx ws k vx
       have h2:=r1'.length
       omega
      refine wpAny_setItem_pairs (hsz:=hz) (Jya ri) dd λ h' dd' hs=>?_
      have he:∃q,h'.get? a=Za q:=let ⟨q,_,_,hq,_⟩:=dd';⟨q,hq⟩
      have I4:=Jun (t':=s2.toks+1) N2.inv (by rw[e1];exact True.intro) hs he (Jw9 hlen hd (rel.put k rvx) dd')
      have n:Nxt ι2 H2 ι2 (upd H2 a (.dK (putK ws k vx))):=⟨⟨[],by simp⟩,Ext.upd_mut e1 (by rw[e1];exact True.intro)⟩
      obtain⟨R3,_⟩:=N2.rel.write (o:=.dK (putK ws k vx)) (io:=.dct (putD kvs k v)) haa e1 (by rw[e1];exact True.intro) ⟨_,J2,RPs.putKK (RV.mono n _ _ qv) (RPs.mono n _ _ r1')⟩
      exact wpAny_release (K2 _ σ _ ι2 ⟨I4,R3,N2.st.mono n⟩ n)
     ·exact Zf K2
   | _=>exact Zf K2
 | _=>exact Zf K2
end
theorem VU {a b:Str}(h:a.cps.toList=b.cps.toList):a=b:=by
 cases a;cases b
 simp only[Str.mk.injEq]
 exact Array.toList_inj.mp h
theorem Jf8:∀{us:List Zg}{ns:List Int},Zds us ns->Vals (ns.map V.int) us
 | _,_,.nil=>.nil
 | _,_,.cons _ _ r=>.cons ⟨_,rfl⟩ (Jf8 r)
theorem Jjf {K:W.Frag}{ι:List Zi}{H:Hp}:∀zs:List Str,RVs K ι H (zs.map IV.str) (zs.map V.str)
 | []=>rfl
 | _::zs=>⟨_,_,rfl,rfl,Jjf zs⟩
section
variable {ce:CeT}{X:Cx}
end
section
variable {pr:ZG}{wd:ZX}{B:ZO}{R:Zdy->Zj->Prop}{it:Zi}{fps wrs:List Zi}{n:Nat}{P:Nat->Zg->Prop}{St:Nat->Zak->Prop}
end
section
variable {pr:ZG}{wd:ZX}{B:ZO}{E:QvT}{z:Zj}{l:Zi}{us:List Zg}{ns:List Int}{Q:QvT}
end
section
variable {ce:CeT}{X:Cx}
end
section
variable {prog:ZG}{w:ZX}{A:ZO}{E:QvT}{s:Zj}
theorem Jnu {it t:Zi}{i:Nat}{items:Array Zg}{x:Zg}{Q:QvT}(hit:s.heap.IsTupleIter it t i)(ht:s.heap.IsTuple t items)(hx:items[i]?=Za x)
  (hQ:∀h',h'.IsTupleIter it t (i+1)->ZbK it s.heap h'->Q x { s with heap:=h' }):Zz (ZE prog w) A (Zb0 (.ref it)) Q E s:=by
 obtain⟨oi,hi,ci,di⟩:=id hit
 obtain⟨ot,hot,_,nt,dt⟩:=ht
 unfold Zb0
 refine Zk (Zct (name:=Zb "__next__") hit.typeIs F.slot_tuple_iterator_next (ZdE F.slot_tuple_iterator_next hit.typeIs F.entry_tuple_iterator_next ?_ (F.args_tuple_iterator_next_1 _)))
 show Zz _ A.in1 (field (.ref it) 0>>=_) _ _ s
 refine Zk (ZaD hi di (x:=.ref t) rfl ?_)
 show Zz _ A.in1 (if (ZaZ t==Zag)=Zh then _ else _) _ _ s
 rw[if_neg (show ¬(ZaZ t==Zag)=Zh from Zy)]
 show Zz _ A.in1 (field (.ref it) 1>>=_) _ _ s
 refine Zk (ZaD hi di (x:=.int i 0) rfl ?_)
 show Zz _ A.in1 (ZdD (.ref t)>>=_) _ _ s
 refine Zk (ZbW hot dt ?_);simp only[Zcy,hx]
 refine Zk (Zbe hi di (by simp) (ZM ⟨x,rfl,ZM (hQ _ ⟨_,Za0 _ hi (ZaY (Zaj di _)),(Zdu ..).trans ci,?_⟩ (ZcR ..))⟩))
 rw[Zaj di];simp[Zbq]
theorem Jkg {it t:Zi}{i:Nat}{items:Array Zg}{Q:QvT}(hh:A.handled=Ze)(hit:s.heap.IsTupleIter it t i)(ht:s.heap.IsTuple t items)(hx:items[i]?=Ze)
  (hE:∀h' e,Zdt it s.heap h'->(∃o,h'.get? e=Za o/\o.cls=.type "StopIteration")->E (.ref e) { s with heap:=h' }):Zz (ZE prog w) A (Zb0 (.ref it)) Q E s:=by
 obtain⟨oi,hi,ci,di⟩:=id hit
 obtain⟨ot,hot,_,nt,dt⟩:=ht
 unfold Zb0
 refine Zk (Zct (name:=Zb "__next__") hit.typeIs F.slot_tuple_iterator_next (ZdE F.slot_tuple_iterator_next hit.typeIs F.entry_tuple_iterator_next ?_ (F.args_tuple_iterator_next_1 _)))
 show Zz _ A.in1 (field (.ref it) 0>>=_) _ _ s
 refine Zk (ZaD hi di (x:=.ref t) rfl ?_)
 show Zz _ A.in1 (if (ZaZ t==Zag)=Zh then _ else _) _ _ s
 rw[if_neg (show ¬(ZaZ t==Zag)=Zh from Zy)]
 show Zz _ A.in1 (field (.ref it) 1>>=_) _ _ s
 refine Zk (ZaD hi di (x:=.int i 0) rfl ?_)
 show Zz _ A.in1 (ZdD (.ref t)>>=_) _ _ s
 refine Zk (ZbW hot dt ?_);simp only[Zcy,hx]
 refine Zk (wpAny_rule (Zk (Zbe hi di (by simp) ?_)))
 show Zz _ A.in1 (newExc (.type "StopIteration") []>>=_) _ _ _
 refine Zk ?_;simp only[newExc,newTuple]
 refine Zk (Zb3 ?_ (by size_fits));refine Zk (m:=Zdm _ _) (wpAny_of_eq (a:=Zag) (by first|rfl|(simp only[Zdm];rfl)) ?_)
 refine Zb3 ?_ (by size_fits);simp only[raiseNew]
 refine Zk (wpAny_handled ?_);rw[show A.in1.handled=Ze from hh]
 exact Zk (ZM (wpAny_throw (hE _ _ (((ZcR ..).extBut.push _).push _) ⟨_,Z8 _ rfl,rfl⟩)))
end
theorem Jxc {prog:ZG}{w:ZX}{A:ZO}(hh:A.handled=Ze)(it l:Zi)(hne:l≠it)(items:Array Zg) :
  Draws prog w A it [it,l] items.size (λ i v=>items[i]?=Za v) (λ i h=>h.IsTupleIter it l i/\h.IsTuple l items) where
 live:=λ _ _ st=>let ⟨o,ho,_⟩:=st.1;⟨o,ho⟩
 frame:=λ _ _ _ st hk=>⟨st.1.at λ o e=>hk it (by simp) o e,let ⟨o,e,r⟩:=st.2;⟨o,hk l (by simp) o e,r⟩⟩
 item:=λ i s Q E hi st hQ=>Jnu st.1 st.2 (x:=items[i]) (by simp[hi]) λ h' hit' hs'=>hQ _ h' s.toks (by simp[hi]) ⟨hit',st.2.extBut hs'.extBut hne⟩ hs'
 done:=λ s Q E st hE=>Jkg hh st.1 st.2 (by simp) hE
theorem Jxb {prog:ZG}{w:ZX}{A:ZO}(hh:A.handled=Ze)(it l:Zi)(i:Nat)(items:Array Zg)(hx:items[i]?=Ze) :
  Draws prog w A it [it,l] i (λ _ _=>True) (λ j h=>j=i/\h.IsTupleIter it l i/\h.IsTuple l items) where
 live:=λ _ _ st=>let ⟨o,ho,_⟩:=st.2.1;⟨o,ho⟩
 frame:=λ _ _ _ st hk=>⟨st.1,st.2.1.at λ o e=>hk it (by simp) o e,let ⟨o,e,r⟩:=st.2.2;⟨o,hk l (by simp) o e,r⟩⟩
 item:=λ j s Q E hi st hQ=>by have:=st.1;omega
 done:=λ s Q E st hE=>Jkg hh st.2.1 st.2.2 hx hE
open AutoSeq1 (wpAny_loadPart') in
theorem Jo5 (l:Zi)(items:Array Zg)(n:Nat)(dct:Option Zi)(sl:Array (Option Zg)) :
  Meets (ZdL.«enumerate.__new__» ⟨[.type "enumerate",.ref l],[]⟩) (λ _ R s=>s.heap.get? l=Za { cls:=.type "tuple",dict:=dct,data:=.seq items n,slots:=sl } /\
   R (.ok (.ret (.ref (s.heap.push { cls:=.type "tuple_iterator",data:=.fields #[.ref l,.int 0 0] }).objs.size)))
    { s with heap:=(s.heap.push { cls:=.type "tuple_iterator",data:=.fields #[.ref l,.int 0 0] }).push { cls:=.type "enumerate",data:=.fields #[.none,.bool Zc,.ref s.heap.objs.size,Zbq 0,.none,.none] } }) :=
 .of_wp λ prog w A R s h=>by
  obtain⟨hp,g,d,tk,os⟩:=s;obtain⟨hl,h⟩:=h
  have hsub:=sub_enumerate;have hT:Heap.IsTuple (Shared.heap ⟨hp,g,d,tk,os⟩) l items:=⟨_,hl,rfl,n,rfl⟩
  wp_walk using ZbM hl
  refine wpAny_stack_any λ st=>ZM ?_
  split
  ·rename_i c _ _ _ _ _
   cases (c==Zc7 "enumerate")<;>(wp_walk using ZbM hl,Zdk hT;exact⟨_,rfl,h⟩)
  ·wp_walk using ZbM hl,Zdk hT
   exact⟨_,rfl,h⟩
section
variable {prog:ZG}{w:ZX}{A:ZO}{E:QvT}{s:Zj}
theorem Jnh {l:Zi}{items:Array Zg}{Q:QvT}(hT:s.heap.IsTuple l items)
  (h:∀h',IsEnum h' (s.heap.objs.size+1) s.heap.objs.size 0 .none->h'.IsTupleIter s.heap.objs.size l 0->(∀b o,s.heap.get? b=Za o->h'.get? b=Za o)->Q (.ref (s.heap.objs.size+1)) { s with heap:=h' }) :
  Zz (ZE prog w) A (call (.type "enumerate") [.ref l]) Q E s:=by
 obtain⟨⟨c,dct,dt,sl⟩,hl,hc,n,hd⟩:=hT
 cases (show c=.type "tuple" from hc)
 cases (show dt=.seq items n from hd)
 refine callType_new F.called_enumerate (by decide) (F.typeCall_enumerate_1 _) (F.newCall_enumerate_1 _) (λ obj=>F.args_object_init_2 obj _) F.entry_enumerate_new (Jo5 l items n dct sl) ⟨hl,?_⟩
 have hz:(s.heap.push { cls:=.type "tuple_iterator",data:=.fields #[.ref l,.int 0 0] }).objs.size=s.heap.objs.size+1:=ZbV ..
 show _/\_
 rw[hz]
 have he:IsEnum ((s.heap.push { cls:=.type "tuple_iterator",data:=.fields #[.ref l,.int 0 0] }).push { cls:=.type "enumerate",data:=.fields #[.none,.bool Zc,.ref s.heap.objs.size,Zbq 0,.none,.none] }) (s.heap.objs.size+1) s.heap.objs.size 0 .none:=by
  have:=Z8 (s.heap.push { cls:=.type "tuple_iterator",data:=.fields #[.ref l,.int 0 0] }) (o:={ cls:=.type "enumerate",data:=.fields #[.none,.bool Zc,.ref s.heap.objs.size,Zbq 0,.none,.none] }) rfl
  rw[hz] at this
  exact this
 exact⟨⟨_,he,rfl⟩,h _ he ⟨_,Zm _ (Z8 _ rfl),rfl,rfl⟩ λ b o x=>Zm _ (Zm _ x)⟩
end
section
variable {ce:CeT}{X:Cx}
def IteT (K:W.Frag)(a:Zi):It :=
 ⟨λ i H=>∃xs x,SqT K H a xs/\xs[i]?=Za x,λ i H y H'=>∃p x,H p=Ze/\y=.ref p/\H'=upd H p (.tup [.int (i:Int),x])/\∀xs,SqT K H a xs->xs[i]?=Za x,λ i H=>∃xs,SqT K H a xs/\xs.length<=i⟩
theorem Jn9 {P:ZG}{w:ZX}{K:W.Frag}{es:List Expr}{k:Nat}{p:Pos}(a it e:Zi)(hne:e≠it):Turn P w K (.Tuple es k p) (IteT K a) [e,it] e (λ i h=>(∃old,IsEnum h e it (i:Int) old)/\h.IsTupleIter it a i) where
 mem:=by simp
 obj:=λ i h st b hb=>by
  obtain⟨⟨old,he⟩,o,e1,c,d⟩:=st
  simp only[Zt,Z9,or_false] at hb
  rcases hb with rfl|rfl
  ·exact⟨_,he,λ v z=>by
    have z':Data.fields _=Data.cell v:=z
    cases z'⟩
  ·exact⟨o,e1,λ v z=>by rw[d] at z;cases z⟩
 keep:=λ i h h' st k=>⟨let ⟨old,he⟩:=st.1;⟨old,k e (by simp) _ he⟩,st.2.at λ o e=>k it (by simp) o e⟩
 item:=by
  intro X hP hw hK hc i pj s σ H E I hf st hg
  subst hP hw hK
  obtain⟨⟨old,he⟩,hit⟩:=st
  obtain⟨xs,x,hq,hx⟩:=hg
  obtain⟨its,rv,pl,hz⟩:=I.tuple hq
  have pt:s.heap.IsTuple a its.toArray:=pl
  obtain⟨u,hu,ru⟩:=rv.get hx
  have fe:=hf e (by simp)
  have fi:=hf it (by simp)
  have hn:H s.heap.objs.size=Ze:=I.hok.fresh (Zu _)
  obtain⟨oe,hoe⟩:∃o,s.heap.get? e=Za o:=⟨_,he⟩
  obtain⟨oi,hoi,ci,di⟩:=id hit
  have nea:a≠it:=λ z=>by
   obtain⟨oa,ha,ca,_⟩:=pt
   rw[z,hoi] at ha;cases ha
   rw[ci] at ca
   injection ca with z1
   exact absurd z1 (by decide)
  have nee:e∉[it,a]:=λ z=>by
   simp only[Zt,Z9,or_false] at z
   rcases z with z|z
   ·exact hne z
   ·obtain⟨oa,ha,ca,_⟩:=pt
    have he':s.heap.get? e=Za _:=he
    rw[<- z,he'] at ha;cases ha
    injection ca with z1
    exact absurd z1 (by decide)
  have lti:i<its.toArray.size:=by have:=(ZB.mp hu).1;simpa using this
  refine wpAny_pyNext_enum_itemD (Jxc (A:=X.A.in1) (I.ok.hd hc) it a nea its.toArray) he ⟨hit,pt⟩ lti hne nee λ y h' tk hy he' st' ht hsz kk=>?_
  have ey:y=u:=by
   have h2:its[i]?=Za y:=by simpa using hy
   rw[hu] at h2;cases h2;rfl
  subst ey
  have hit':=st'.1
  refine⟨_,rfl,Zdl he' λ h2 he2 sb=>?_⟩
  have ltE:e<s.heap.objs.size:=Z4 he
  have neT:s.heap.objs.size≠e:=Zbp ltE
  have k2:∀b o,b≠e->b≠it->s.heap.get? b=Za o->h2.get? b=Za o:=λ b o h1 h3 q=>(sb.2 b h1).trans (kk b o h1 h3 q)
  have hl2:h2.IsTupleIter it a (i+1):=by
   obtain⟨o,q,r⟩:=hit'
   exact⟨o,(sb.2 it (Zao hne)).trans q,r⟩
  have t2:h2.get? s.heap.objs.size=Za { cls:=.type "tuple",data:=.seq #[.int i tk,y] }:=(sb.2 _ neT).trans ht
  have neP:∀b u,H b=Za u->b≠s.heap.objs.size:=λ b u q=>Vq q hn
  have I1:Inv X pj σ (upd H s.heap.objs.size (.tup [.int (i:Int),x])) { s with heap:=h2,toks:=tk+1 }:=by
   refine I.step (g':=s.gens) (d':=s.drawn) (ch:=[e,it]) (λ b hb=>?_) (λ b o _ _ hc q _=>k2 b o (λ z=>hc (by simp[z])) (λ z=>hc (by simp[z])) q) (λ b o _ _ hc q _=>⟨o.slots,k2 b o (λ z=>hc (by simp[z])) (λ z=>hc (by simp[z])) q⟩) (λ b o _ q n=>?_)
    (λ b o hc q=>⟨o,k2 b o (λ z=>hc (by simp[z])) (λ z=>hc (by simp[z])) q⟩) (λ b xs q=>by rw[Jo (neP b _ q)];exact q) (λ b o u q=>by rw[Jo (neP b _ q)];exact q) (λ b ps q=>⟨#[],by rw[Jo (neP b _ q),q];simp⟩) (λ m hm=>?_) (λ b u q=>?_) I.bare
   ·simp only[Zt,Z9,or_false] at hb
    rcases hb with rfl|rfl
    ·exact⟨fe.2.2.2.1,fe.2.1,fe.2.2.2.2.1,fe.2.2.2.2.2⟩
    ·exact⟨fi.2.2.2.1,fi.2.1,fi.2.2.2.2.1,fi.2.2.2.2.2⟩
   ·rw[Jo (ZK (Z4 q))];exact n
   ·obtain⟨o,es,ep,ho,r⟩:=hm
    exact⟨o,es,ep,k2 _ o (Zao fe.2.1) (Zao fi.2.1) ho,r⟩
   ·by_cases hb:b=s.heap.objs.size
    ·subst hb
     rw[J2] at q
     cases q
     exact⟨by show 2<=sizeLine;decide,[.int i tk,y],.cons ⟨_,rfl⟩ (.cons ru .nil),⟨_,t2,rfl,_,rfl⟩⟩
    ·rw[Jo hb] at q
     have n1:b≠e:=λ z=>by rw[z,fe.1] at q;cases q
     have n2:b≠it:=λ z=>by rw[z,fi.1] at q;cases q
     refine(I.hok b u q).stay (λ c v hc r=>k2 c v ?_ ?_ r) (λ c q=>by rw[Jo (neP c _ q)];exact q) λ c ys q=>by rw[Jo (neP c _ q)];exact q
     ·rcases hc with z|z
      ·rw[z];exact n1
      ·intro y;rw[y,fe.1] at z;cases z
     ·rcases hc with z|z
      ·rw[z];exact n2
      ·intro y;rw[y,fi.1] at z;cases z
  refine⟨.ref s.heap.objs.size,_,I1,rfl,⟨s.heap.objs.size,x,hn,rfl,rfl,λ ys hy=>by rw[I.tuple_inj hy hq];exact hx⟩,⟨⟨_,he2⟩,hl2⟩,λ b hb=>?_⟩
  simp only[Zt,Z9,or_false] at hb
  rcases hb with rfl|rfl
  ·rw[Jo (ZK ltE)];exact fe.1
  ·rw[Jo (ZK (Z4 hoi))];exact fi.1
 done:=by
  intro X hP hw hK hc i pj s σ H E I hf st hg
  subst hP hw hK
  obtain⟨⟨old,he⟩,hit⟩:=st
  obtain⟨xs,hq,hx⟩:=hg
  obtain⟨its,rv,p,hz⟩:=I.tuple hq
  obtain⟨f0,f1,f2,f3,f4,f5⟩:=hf it (by simp)
  have hl:=rv.length
  have pt:s.heap.IsTuple a its.toArray:=p
  exact wpAny_pyNext_enum_endD (Jxb (A:=X.A.in1) (I.ok.hd hc) it a i its.toArray (by simp;omega)) he ⟨rfl,hit,pt⟩ λ h' eb=>⟨rfl,I.turned (t':=s.toks) (λ b o hb e=>eb b o hb e) f0 f1 f3 f4 f5⟩
 self:=λ _ _ _ _ _ st h=>let ⟨_,he⟩:=st.1;Zc1 he h
def V4:List IV->IH->Res ItI
 | [.tup xs],h=>.ok ⟨Q6 0 xs,λ _=>True⟩ h
 | vs,h=>VM vs h
theorem Jve {a:Zi}{xs:List IV}{vs:List V}{ι:List Zi}{H₀:Hp}(ha:SqT X.K H₀ a vs)(r:RVs X.K ι H₀ xs vs):ItOk ce X.K ι H₀ (IteT X.K a) ⟨Q6 0 xs,λ _=>True⟩:=by
 refine⟨λ k v h H ι' hp R hck hx=>?_,λ k h H ι' hp R hck hx=>?_⟩
 ·have hx':(Q6 0 xs)[k]?=Za v:=hx
  rw[Jf0] at hx'
  obtain⟨x,hxk,rfl⟩:=Z7.mp hx'
  have r1:=RVs.mono hp _ _ r
  have sa:=hp.ext.sqT ha
  obtain⟨u,hu,qu⟩:=r1.get hxk
  refine⟨⟨vs,u,sa,hu⟩,λ y H' hy=>?_⟩
  obtain⟨p,x',hp0,rfl,rfl,hy⟩:=hy
  have:=hy vs sa
  rw[hu] at this
  cases this
  obtain⟨R',n'⟩:=R.grow (o:=.tup [.int (k:Int),u]) hp0
  refine⟨R',n',p,_,rfl,SqT.of J2,⟨_,_,rfl,?_,_,_,rfl,RV.mono n' _ _ qu,rfl⟩⟩
  show V.int (k:Int)=V.int ((0+k:Nat):Int)
  simp
 ·exact⟨vs,hp.ext.sqT ha,by rw[r.length,<-V3 xs 0];exact hx⟩
theorem Ju5 {es:List Expr}{kt:Nat}{pt:Pos}{a:Expr}{ma:A1}{p pos:Pos}(hg:Gl X "enumerate")(hm:X.mg "enumerate"=Ze)(ha:PAi ce X [a] ma)(hs:ZN [a] X.env=[(Zc,ZaV a X.env)]:=by rfl):PIi ce X (.Tuple es kt pt) (.Call (.Name "enumerate" p) [a] [] pos) (iRg V4 ma):=by
 intro pj s σ H ι σi h Q E N K
 by_cases ht:∃xs h',ma σi h=.ok [.tup xs] h'
 ·obtain⟨xs,h',e0⟩:=ht
  refine Call_ (V7 N.inv hg hm boot_enumerate (ZaS ?_ hs rfl))
  refine ha pos pj s σ H ι σi h _ E N ?_
  unfold iRg at K
  rw[e0] at K ⊢
  intro us s1 H1 ι1 N1 n1 r1
  obtain⟨ws,rv,qs⟩:=r1
  obtain⟨w,e1,q⟩:=qs.one_of
  subst e1
  obtain⟨b,vs,rfl,sb,rb⟩:=q
  obtain⟨u,rfl,ru⟩:=QG rv
  cases ru
  obtain⟨its,rv2,pl,hz⟩:=N1.inv.tuple sb
  refine Jnh (show s1.heap.IsTuple b its.toArray from pl) λ h2 he hit kp=>?_
  refine Zc1 he (K _ _ H1 ι1 ⟨N1.inv.kept (t':=s1.toks) kp,N1.rel,N1.st⟩ n1 ?_)
  refine⟨s1.heap.objs.size+1,[s1.heap.objs.size+1,s1.heap.objs.size],_,IteT X.K b,rfl,Jn9 b s1.heap.objs.size (s1.heap.objs.size+1) (Zbp (Zbv _)),⟨⟨_,he⟩,hit⟩,λ c hc=>?_,Jve sb rb⟩
  simp only[Zt,Z9,or_false] at hc
  rcases hc with rfl|rfl
  ·exact N1.inv.fpOk (ZbJ _) (N1.inv.hok.fresh (ZbJ _))
  ·exact N1.inv.fpOk (Zu _) (N1.inv.hok.fresh (Zu _))
 ·refine Jxt (es:=es) (kt:=kt) (pt:=pt) hg hm ha hs pj s σ H ι σi h Q E N ?_
  have e:iRg VM ma σi h=iRg V4 ma σi h:=by
   unfold iRg
   cases e0:ma σi h with
   | ok vs h' =>
    show VM vs h'=V4 vs h'
    unfold V4
    split
    ·exact absurd ⟨_,_,e0⟩ ht
    ·rfl
   | _=>rfl
  rw[e]
  exact K
end
def J1w (a:Arguments):Option Str:=match a with
 | { posonlyargs:=[],args:=[p],vararg:=Ze,kwonlyargs:=[],kw_defaults:=[],kwarg:=Ze,defaults:=[] }=>Za p.arg
 | _=>Ze
abbrev lamQ (q:Str):Str:=q++".<locals>."++"<lambda>"
def Jq8 (mg:Str->Option Zg)(base:Zak):Prop :=
 ∃bm ob,mg "__builtins__"=Za (.ref bm)/\bm≠Zdf/\bm≠Zp/\base.get? bm=Za ob/\ob.cls=.type "module"/\ob.dict=Za Zdf/\ob.data=.plain
theorem Jit.mono {H H':Hp}{q:Str}{cv:Zg}(fz:∀b o u,H b=Za (.frz o u)->H' b=Za (.frz o u))(l:Jit H q cv):Jit H' q cv:=by
 obtain⟨c,oc,vs,t,e1,e2,r⟩:=l
 exact⟨c,oc,vs,t,e1,fz _ _ _ e2,r⟩
section
variable {ce:CeT}{X:Cx}
end
abbrev envL (q:Str)(scope:Zbw)(L f:Zi)(cd:Zg)(cl:List (Str×Zi)):Env:=newEnv scope L Zp cl (lamQ q++".<locals>.") (Za f) cd Ze Zdf
def cxL (X:Cx)(A:ZO)(N':List Str)(q:Str)(scope:Zbw)(f:Zi)(cd:Zg)(s:Zj)(H:Hp):Cx :=
 { X with A:=A.deeper (envL q scope s.heap.objs.size f cd (clOf X.env.cells scope.names [])),N:=N',s₀:=s,H₀:=H,env:=envL q scope s.heap.objs.size f cd (clOf X.env.cells scope.names []),outer:=X.stack,stack:=envL q scope s.heap.objs.size f cd (clOf X.env.cells scope.names [])::X.stack,ex:=[],calm:=Zh,fn:=λ _=>Zc,pn:=[],xe:=λ _ _=>False }
structure LamSc (N0:List Str)(sc₀:List (Str×ZaX))(x:Str)(caps:List Str)(js:List Nat)(scope:Zbw):Prop where
 kind:scope.kind=.function
 co:scope.isCoroutine=Zc
 gen:scope.isGenerator=Zc
 nocell:∀y∈scope.names,y.2≠.cell
 par:scope.names.lookup x=Za .local
 free:∀y∈scope.names,y.2=.free->sc₀.lookup y.1=Za .cell
 fr:∀y,scope.names.lookup y=Za .free->(y,.free)∈scope.names
 cap:∀(k j:Nat)(y:Str),js[k]?=Za j->caps[k]?=Za y->N0[j]?=Za y/\scope.names.lookup y=Za .free
 len:js.length=caps.length
 nd:(x::caps).Nodup
section
variable {ce:CeT}{X:Cx}
end
def gtZ:IV->IV->Option Bool
 | .int a,.int b=>Za (decide (a>b))
 | _,_=>Ze
theorem FpOk.more {X:Cx}{pj:PnT}{H:Hp}{b:Zi}{p:Zi×Obj}(F:FpOk X pj H b)(ne:p.1≠b):FpOk X (pj++[p]) H b:=by
 refine⟨F.1,F.2.1,F.2.2.1,F.2.2.2.1,F.2.2.2.2.1,λ q hq=>?_⟩
 rcases Zr.mp hq with z|z
 ·exact F.2.2.2.2.2 q (ZbU _ z)
 ·rcases Zr.mp z with z|z
  ·exact F.2.2.2.2.2 q (Zae _ z)
  ·rw[Z3.mp z]
   exact ne
theorem FpOk.at {X:Cx}{pj:PnT}{H H':Hp}{b:Zi}(F:FpOk X pj H b)(n:H' b=Ze):FpOk X pj H' b:=⟨n,F.2⟩
section
variable {ce:CeT}{X:Cx}
theorem Now.turned {pj:PnT}{ι:List Zi}{σi:ISt}{h:IH}{σ:L2.St}{H:Hp}{s:Zj}{it:Zi}{h':Zak}{t':Nat}(N:Now ce X pj ι σi h σ H s)(F:FpOk X pj H it)(k:∀b o,b≠it->s.heap.get? b=Za o->h'.get? b=Za o) :
  Now ce X pj ι σi h σ H { s with heap:=h',toks:=t' }:=⟨N.inv.turned k F.1 F.2.1 F.2.2.2.1 F.2.2.2.2.1 F.2.2.2.2.2,N.rel,N.st⟩
section
variable {A:ZO}{R:Zdy->Zj->Prop}{Q:QvT}{E:QvT}{pj:PnT}{σi:ISt}{σ:L2.St}{G:Hp->Prop}{fq:Zi}{mk:IV->IH->Res IV}{gt:IV->IV->Option Bool}{i n:Nat}{l I C:Zi}{kw:List (Str×Zg)}
end
theorem Kont.more {α β:Type}{R:REL α β}{pj pl:PnT}{ι:List Zi}{σi:ISt}{σ:L2.St}{H:Hp}{r:Res α}{Q:β->Zj->Prop}{E:QvT}(K:Kont ce X R pj ι σi σ H r Q E):Kont ce X R (pj++pl) ι σi σ H r Q E:=by
 cases r with
 | ok v h'=>exact λ u s' H' ι' N n q=>K u s' H' ι' N.pins n q
 | exc m h'=>exact λ pl' a s' H' ι' N n q=>K (pl++pl') a s' H' ι' (by rw[<- Zaa];exact N) n q
 | stuck=>exact K
end
def bmV:List Zg:=[.type "ValueError",.type "Exception",.type "BaseException",.type "object"]
def XCls (K:W.Frag)(C:Zi):Prop:=W.excIn K C bmV "ValueError.__new__"=Zh
theorem XCls.obj {K:W.Frag}{C:Zi}{h:Zak}(x:XCls K C)(I:K.In h):∃bm N nm q bs hdct sn sub ab col dd k0 k1 k2 k3 k5 mN,h.get? C=Za (excClassObj nm q C N bs bm hdct sn sub ab col dd k0 k1 k2 k3 k5 "ValueError.__new__")/\h.Ns N mN/\mN "__init__"=Ze/\OwnTail h bmV bm:=by
 unfold XCls W.excIn at x
 split at x
 case h_2=>cases x
 rename_i dd cd sl ho
 split at x
 case h_2=>cases x
 rename_i D bm k0 k1 k2 k3 n k5 em es
 simp only[Zl,beq_iff_eq,Zaf] at x
 obtain⟨⟨⟨⟨⟨e1,e2⟩,e3⟩,e4⟩,e5⟩,e6⟩:=x
 subst e1 e2
 obtain⟨nm,bs,mro,N,qn,hd,sn,sub,ab,col,del⟩:=cd
 have em:mro=.ref D::bm:=em
 have e3:del=Zc:=e3
 subst em e3
 have es:sl=#[k0,k1,k2,k3,Za (.builtin "ValueError.__new__"),k5]:=by
  rw[<- ZcL (xs:=sl),es]
 subst es
 exact⟨bm,N,nm,qn,bs,hd,sn,sub,ab,col,dd,k0,k1,k2,k3,k5,_,I _ _ ho,.of_isNs (W.isNs_of_in I e5),W.nsMap_none_of_in I e5 e6,W.tail_of_in I e4⟩
def JZ (c:Str)(a:A1):S1:=λ σ h=>rS σ (a σ h) λ vs h1=>if vs.length<=sizeLine then .exc h1.length σ (h1++[.exc c []]) else .stuck
section
variable {ce:CeT}{X:Cx}{C:Zi}{x c:Str}{np cpos pos:Pos}{e:Expr}{es:List Expr}{ma:A1}
theorem Jv9 (hc:X.calm=Zh)(hg:Gl X x)(hm:X.mg x=Za (.ref C))(hC:W.nsIn X.K Zp c=Za (Za (.ref C)))(xc:XCls X.K C)(ha:PAi ce X (e::es) ma)(hdb:(x==("__debug__":Str))=Zc:=by decide)
  (he:ZN (e::es) X.env=(Zc,ZaV e X.env)::ZN es X.env:=by rfl)(hpl:(Zba cpos (ZN es X.env)).any (·.1)=Zc:=by rfl):PS1 ce X (.Raise (Za (.Call (.Name x np) (e::es) [] cpos)) Ze pos) (JZ c ma):=by
 intro pj s σ H ι σi h Q E N K
 obtain⟨bm,Na,nm,q,bs,hdct,sn,sub,ab,col,dd,k0,k1,k2,k3,k5,mN,hCo,hN,hni,T⟩:=xc.obj N.inv.mod.kin
 have hpa:(Zba cpos (ZN (e::es) X.env)).any (·.1)=Zc:=by
  rw[he]
  show(Zc||(Zba cpos (ZN es X.env)).any (·.1))=Zc
  rw[hpl]
  rfl
 refine wpAny_Raise_call_subU (mN:=mN) (nm:=nm) (q:=q) (N:=Na) (bs:=bs) (hdct:=hdct) (sn:=sn) (sub:=sub) (ab:=ab) (col:=col) (dd:=dd) (k0:=k0) (k1:=k1) (k2:=k2) (k3:=k3) (k5:=k5) F.excBase_ValueError (by decide) F.excBase_ValueError (T.hasType (by decide)) (N.inv.ok.hd hc) hpa hni (Xg N.inv hg hm ⟨rfl,?_⟩ hdb)
 have hs:=ha cpos
 rw[he] at hs ⊢
 refine Calls.evalArgs_plain (krun hs N K λ vs h1 us s1 H1 ι1 N1 n1 r1 K1=>?_)
 change JV ce X pj ι1 H1 (if vs.length<=sizeLine then _ else _) Q E at K1
 split at K1
 case isFalse=>exact K1.elim
 rename_i hz
 have kb:=N1.inv.bk
 have hl:us.length=vs.length:=by
  obtain⟨ws,rv,qv⟩:=r1
  rw[<- rv.length,qv.length]
 refine⟨rfl,by show us.length<=_;omega,kb _ _ hCo,hN.keeps kb,T.keeps kb,λ h' a M=>?_⟩
 obtain⟨t,hat,_,_⟩:=M.there
 have hf:H1 a=Ze:=by
  cases z:H1 a with
  | none=>rfl
  | some u =>
   obtain⟨o,z'⟩:=Jtx (N1.inv.hok a u z)
   rw[M.new] at z'
   cases z'
 obtain⟨R2,n2⟩:=N1.rel.alloc (o:=ExF a C .none Ze) (io:=.exc c []) hf ⟨C,.none,Ze,.inl ⟨rfl,rfl⟩,hC,J2,.inl rfl⟩
 have kk:∀b u,s1.heap.get? b=Za u->h'.get? b=Za u:=λ b u q=>M.keeps b u q
 have up:∀{b:Zi}{u:HO},H1 b=Za u->upd H1 a (ExF a C .none Ze) b=Za u:=λ {b u} q=>by
  rw[Jo (λ z=>by subst z;rw[hf] at q;cases q)]
  exact q
 have un:Un X.fs [] H1 (upd H1 a (ExF a C .none Ze)) s1.heap h' :=
  ⟨λ b o q _ _ _=>kk b o q,λ b o q _ _ _=>⟨o.slots,kk b o q⟩,λ b o q n _=>by rw[Jo (λ z=>by subst z;rw[M.new] at q;cases q)];exact n,λ b o q _=>⟨o,kk b o q⟩,λ b xs q=>up q,λ b o u q=>up q,λ b ps q=>⟨#[],by rw[up q];simp⟩⟩
 have ok:HOk X.prog X.w (upd H1 a (ExF a C .none Ze)) h':=λ b u q=>by
  by_cases z:b=a
  ·subst z
   rw[J2] at q
   cases q
   exact ExF.ok hat rfl rfl rfl rfl rfl
  ·rw[Jo z] at q
   exact(N1.inv.hok b u q).stay (λ d v _ p=>kk d v p) (λ d p=>up p) λ d xs p=>up p
 have I2:Inv X pj σ (upd H1 a (ExF a C .none Ze)) { s1 with heap:=h' }:=N1.inv.un (t':=s1.toks) un ok
 refine K1 [] a _ σ _ _ ⟨by simpa using I2,R2,N1.st.mono n2⟩ n2 ?_ _ (.inl rfl)
 rw[<- N1.rel.len,ZI (Zu _)]
 simp
end
abbrev Jl (X:Cx)(a:Zi):Cx:={ X with A:=X.A.mark (Za (.ref a)),calm:=Zc }
section
variable {ce:CeT}{X:Cx}{a C:Zi}{pj:PnT}{σ:L2.St}{H:Hp}{s:Zj}{ι:List Zi}{σi:ISt}{h:IH}{n:Nat}{c:Str}{fs:List (Str×IV)}{tv:Zg}
theorem YU (I:Inv X pj σ H s)(a:Zi):Inv (Jl X a) pj σ H s :=
 ⟨⟨I.ok.mod,I.ok.kind,I.ok.glob,I.ok.blt,I.ok.above,I.ok.inj,I.ok.has,I.ok.cab,nofun,I.ok.frames,I.ok.stk,I.ok.exf,I.ok.bs,I.ok.bsz,I.ok.noex,I.ok.exfs,I.ok.funs,I.ok.frf⟩,I.os,I.bare,I.base,I.loc,I.cell,I.free,I.freeC,I.pin,I.hok,I.len⟩
theorem Jgi (ok:X.Ok)(I:Inv (Jl X a) pj σ H s):Inv X pj σ H s :=
 ⟨ok,I.os,I.bare,I.base,I.loc,I.cell,I.free,I.freeC,I.pin,I.hok,I.len⟩
theorem _root_.L2.Inv.fewer {pj':PnT}(I:Inv X pj σ H s)(k:∀p∈X.pn++pj',p∈X.pn++pj):Inv X pj' σ H s :=
 ⟨I.ok,I.os,I.bare,I.base,I.loc,I.cell,I.free,I.freeC,λ p hp=>I.pin p (k p hp),I.hok,I.len⟩
theorem Jse {d:Option Zi}{T:Zi}{oT:Obj}{h':Zak}(N:Now ce X pj ι σi h σ H s)(hj:h[n]?=Za (.exc c fs))(hi:ι[n]?=Za a)(hC:W.nsIn X.K Zp c=Za (Za (.ref C)))(ha:H a=Za (ExF a C tv d))(p:Past X H s.heap a C d T oT h') :
  Now ce X pj ι σi h σ (upd (upd H T (.frz oT (.own 0))) a (ExF a C (.ref T) d)) { s with heap:=h' }/\Nxt ι H ι (upd (upd H T (.frz oT (.own 0))) a (ExF a C (.ref T) d)):=by
 obtain⟨C',tv',d',fe,_,ha',_⟩:=Ng N.rel hj hi
 rw[Jrk N.inv.hok ha' ha] at fe
 obtain⟨R4,n4⟩:=N.rel.grow (o:=.frz oT (.own 0)) p.new
 have ha4:upd H T (.frz oT (.own 0)) a=Za (ExF a C tv d):=by rw[Jo (Zao p.ne)];exact ha
 obtain⟨R5,n5⟩:=R4.write hi ha4 (by rw[ha4];trivial) (o:=ExF a C (.ref T) d) (io:=.exc c fs) ⟨C,.ref T,d,fe.mono p.un.frzs,hC,J2,.inr ⟨T,oT,_,rfl,by rw[Jo p.ne,J2],p.fld.choose_spec⟩⟩
 rw[Jji hj] at R5
 have I:=N.inv.call (g':=s.gens) (t':=s.toks) (d':=s.drawn) (ch:=[]) p.un p.hok N.inv.bare λ b z=>absurd z (by simp)
 exact⟨⟨I,R5,N.st.mono (n4.trans n5)⟩,n4.trans n5⟩
theorem Jj1 {d:Option Zi}{M:Model}{A:ZO}{Q:Unit->Zj->Prop}{E:QvT}(ok:HOk X.prog X.w H s.heap)(ha:H a=Za (ExF a C tv d))(ht:TvOk H tv)(k:∀h',(∀b o,s.heap.get? b=Za o->h'.get? b=Za o)->Q () { s with heap:=h' }) :
  Zz M A (Zdb (.ref a) Ze) Q E s:=by
 obtain⟨oe,vs,e1,e2,e3,e4,_⟩:=ExF.get ok ha
 unfold Zdb
 refine Zk (ZaD e1 e3 e4 ?_)
 rcases ht with rfl|⟨T,oT,ts,rfl,q1,q2,q3⟩
 ·rw[if_neg (by decide)]
  exact ZM (k s.heap λ _ _ q=>q)
 ·have gT:s.heap.get? T=Za oT:=(ok T _ q1).1
  rw[if_pos (by simp)]
  refine Zbe gT q2 (ZaC.mp q3).1 (k _ λ b o q=>?_)
  by_cases z:b=T
  ·subst z
   rw[gT] at q
   cases q
   exact Jqt gT q2 q3
  ·rw[Z2 _ _ (Zao z)]
   exact q
theorem Jrn {M:Model}{A:ZO}{E:QvT}{Q:Unit->Zj->Prop}{i:Nat}{x:Str}{pos:Pos}(I:Inv X pj σ H s)(hN:X.N.Nodup)(hi:X.N[i]?=Za x)(hx:X.env.kindOf x=Za .local)(k:∀s',Inv X pj (σ.set i Ze) H s'->Q () s') :
  Zz M A (do bindName X.env x .none;unbindBehindTheSuite X.env x pos) Q E s:=by
 obtain⟨m,hn,hl⟩:=id I.loc
 have hcls:(X.env.scope.kind==.class||(X.env.scope.kind==.module&&X.env.locals != X.env.globals))=Zc:=by rw[I.ok.kind];rfl
 have cne:=I.cne
 refine wpAny_nameGoes_keeps hx hn hcls λ h' v hn' hs=>?_
 have up:∀{b:Zi}{o:Obj},X.s₀.heap.get? b=Za o->b≠X.env.locals:=λ e=>ZK (ZY (Z4 e) I.ok.above)
 refine k _ ⟨I.ok,I.os,I.bare,⟨λ b o e nn hb hx=>?_,λ b o e nn hb hx=>?_,I.base.free,λ b o e hx=>?_,I.base.tups,I.base.frzs,I.base.tbls⟩,⟨_,hn',λ j y w e1 e2 e3=>?_⟩,λ y cc e=>?_,I.free,I.freeC,λ p hp=>?_,λ b ob e=>?_,by rw[Zbj];exact I.len⟩
 ·exact(hs.2 b (up e)).trans (I.base.keep b o e nn hb hx)
 ·obtain⟨sl,e1⟩:=I.base.slot b o e nn hb hx
  exact⟨sl,(hs.2 b (up e)).trans e1⟩
 ·obtain⟨o',e1⟩:=I.base.there b o e hx
  exact⟨o',(hs.2 b (up e)).trans e1⟩
 ·by_cases z:j=i
  ·subst z
   have hj:j<σ.length:=by rw[I.len];exact(ZB.mp hi).1
   rw[Z1 hj] at e2
   cases e2
  ·rw[ZP (Zao z)] at e2
   obtain⟨u,r,q⟩:=hl j y w e1 e2 e3
   refine⟨u,r,?_⟩
   rcases q with⟨q1,q2⟩|⟨q1,cc,q2,q3⟩
   ·refine .inl ⟨q1,?_⟩
    show(if y=x then v else m y)=Za u
    rw[if_neg (show ¬y=x from λ z2=>z (Jja hN e1 (by rw[z2];exact hi)))]
    exact q2
   ·exact .inr ⟨q1,cc,q2,q3.sameBut hs (cne y cc q2)⟩
 ·obtain⟨w',z⟩:=I.cell y cc e
  exact⟨w',z.sameBut hs (cne y cc e)⟩
 ·obtain⟨e,nn,ne,nf,d⟩:=I.pin p hp
  exact⟨(hs.2 p.1 ne).trans e,nn,ne,nf,d⟩
 ·have nb:∀{d:Zi}{u:HO},H d=Za u->d≠X.env.locals:=λ q z=>by rw[z,I.free] at q;cases q
  refine(I.hok b ob e).stay (λ d w' hc q=>(hs.2 d ?_).trans q) (λ _ q=>q) λ _ _ q=>q
  rcases hc with rfl|hc
  ·exact nb e
  ·exact nb hc
end
theorem RSt.unset {K:W.Frag}{ι:List Zi}{H:Hp}{σi:ISt}{σ:L2.St}(r:RSt K ι H σi σ)(i:Nat):RSt K ι H (σi.set i Ze) (σ.set i Ze):=by
 refine⟨by simp[r.len],λ j w e=>?_⟩
 by_cases z:j=i
 ·subst z
  have hl:j<σi.length:=by
   have:=(ZB.mp e).1
   simpa using this
  rw[Z1 hl] at e
  cases e
 ·rw[ZP (Zao z)] at e
  obtain⟨u,e1,q1⟩:=r.at_ j w e
  exact⟨u,by rw[ZP (Zao z)];exact e1,q1⟩
abbrev HdI:=(Str->Option Bool)×Option Nat×S1
def VT (sl:Option Nat)(x:Option IV)(σ:ISt):ISt:=match sl with
 | some i=>σ.set i x
 | none=>σ
def SRes.drop (sl:Option Nat)(r:SRes):SRes:=match r with
 | .next σ h=>.next (VT sl Ze σ) h
 | .brk σ h=>.brk (VT sl Ze σ) h
 | .cont σ h=>.cont (VT sl Ze σ) h
 | .ret v h=>.ret v h
 | _=>.stuck
def Xe:List HdI->Str->Nat->S1
 | [],_,_=>λ _ _=>.stuck
 | q::r,c,n=>λ σ h=>match q.1 c with
  | some Zh=>(q.2.2 (VT q.2.1 (Za (.ref n)) σ) h).drop q.2.1
  | some Zc=>Xe r c n σ h
  | none=>.stuck
def sTry (b:S1)(hs:List HdI):S1:=λ σ h=>match b σ h with
 | .exc n σ1 h1=>(match h1[n]? with
  | some (.exc c _)=>Xe hs c n σ1 h1
  | _=>.stuck)
 | r=>r
def PSH (ce:CeT)(X:Cx)(a:Zi)(sl:Option Nat)(suite:List Zbu)(m:S1):Prop :=
 ∀(pj:PnT)(s:Zj)(σ:L2.St)(H:Hp)(ι:List Zi)(σi:ISt)(h:IH)(Q:Flow->Zj->Prop)(E:QvT)(n:Nat)(c:Str)(fs:List (Str×IV)),X.Ok->Now ce (Jl X a) pj ι σi h σ H s->h[n]?=Za (.exc c fs)->ι[n]?=Za a->(∀i,sl=Za i->i<σi.length->σi[i]?=Za (Za (.ref n))) ->
  JV ce (Jl X a) pj ι H (m σi h) Q E->Zz (ZE X.prog X.w) (Jl X a).A (execs suite X.env) Q E s
theorem PS2.h {ce:CeT}{X:Cx}{a:Zi}{sl:Option Nat}{suite:List Zbu}{m:S1}(p:PS2 ce (Jl X a) suite m):PSH ce X a sl suite m:=λ pj s σ H ι σi h Q E _ _ _ _ N _ _ _ K=>p pj s σ H ι σi h Q E N K
structure HdOk (ce:CeT)(X:Cx)(t:Expr)(nm:Option Str)(suite:List Zbu)(f:Str->Option Bool)(sl:Option Nat)(m:S1):Prop where
 test:∀(a:Zi)(c:Str)(C:Zi)(b:Bool)(pj:PnT)(σ:L2.St)(H:Hp)(s:Zj)(Q:Bool->Zj->Prop)(E:QvT),f c=Za b->W.nsIn X.K Zp c=Za (Za (.ref C))->Inv (Jl X a) pj σ H s->(∃oe,s.heap.get? a=Za oe/\oe.cls=.ref C)->Q b s ->
  Zz (ZE X.prog X.w) (Jl X a).A (ZaV t X.env) (λ v s₁=>Zz (ZE X.prog X.w) (Jl X a).A (excMatches (.ref a) v) Q E s₁) E s
 nm:(nm=Ze/\sl=Ze)∨∃n i,nm=Za n/\sl=Za i/\X.N[i]?=Za n/\X.env.kindOf n=Za .local
 run:∀a,PSH ce X a sl suite m
inductive HdsOk (ce:CeT)(X:Cx):List Zbd->List HdI->Prop
 | nil:HdsOk ce X [] []
 | cons {t:Expr}{nm:Option Str}{b₀:Zbu}{suite:List Zbu}{pos:Pos}{f:Str->Option Bool}{sl:Option Nat}{m:S1}{hs:List Zbd}{ms:List HdI}:HdOk ce X t nm (b₀::suite) f sl m->HdsOk ce X hs ms->HdsOk ce X (.ExceptHandler (Za t) nm (b₀::suite) pos::hs) ((f,sl,m)::ms)
section
variable {ce:CeT}{X:Cx}
theorem Jpf (hN:X.N.Nodup){hs:List Zbd}{ms:List HdI}(O:HdsOk ce X hs ms){a:Zi}{pj:PnT}{σ:L2.St}{H:Hp}{s:Zj}{ι:List Zi}{σi:ISt}{h:IH}{n:Nat}{c:Str}{fs:List (Str×IV)}{Q:Flow->Zj->Prop}{E:QvT}
  (N:Now ce X pj ι σi h σ H s)(hj:h[n]?=Za (.exc c fs))(hi:ι[n]?=Za a)(K:JV ce X pj ι H (Xe ms c n σi h) Q E):Zz (ZE X.prog X.w) X.A (handleBy (.ref a) X.env hs) Q E s:=by
 obtain⟨C,tv,d,fe,hC,ha,ht⟩:=Ng N.rel hj hi
 obtain⟨oe,vs,e1,e2,_⟩:=ExF.get N.inv.hok ha
 induction O with
 | nil=>exact Zf K
 | @cons t nm b₀ suite pos f sl m hs ms o O ih =>
  unfold Xe at K
  dsimp only at K
  cases hb:f c with
  | none=>rw[hb] at K;exact Zf K
  | some b =>
   rw[hb] at K
   refine wpAny_handleBy_cons (codeAny_handlers_test (o.test a c C b pj σ H s _ _ hb hC (YU N.inv a) ⟨oe,e1,e2⟩ ?_)) (by intro q;cases q)
   cases b with
   | false=>exact ih K
   | true =>
    dsimp only at K
    rcases o.nm with⟨rfl,rfl⟩|⟨x,i,rfl,rfl,hx,hk⟩
    ·have K:JV ce X pj ι H ((m σi h).drop Ze) Q E:=K
     refine codeAny_handlers_suite (Jj1 N.inv.hok ha ht λ h' kp=>?_)
     have N2:Now ce (Jl X a) pj ι σi h σ H { s with heap:=h' }:=⟨YU (N.inv.kept (t':=s.toks) kp) a,N.rel,N.st⟩
     refine o.run a pj _ σ H ι σi h _ _ n c fs N.inv.ok N2 hj hi (λ i z=>by cases z) ?_
     have un:∀{pj:PnT}{ι:List Zi}{σi:ISt}{h:IH}{σ:L2.St}{H:Hp}{s:Zj},Now ce (Jl X a) pj ι σi h σ H s->Now ce X pj ι σi h σ H s:=λ q=>⟨Jgi N.inv.ok q.inv,q.rel,q.st⟩
     cases em:m σi h with
     | next σ2 h2=>rw[em] at K;exact λ s3 σ3 H3 ι3 N3 n3=>K s3 σ3 H3 ι3 (un N3) n3
     | brk σ2 h2=>rw[em] at K;exact λ s3 σ3 H3 ι3 N3 n3=>K s3 σ3 H3 ι3 (un N3) n3
     | cont σ2 h2=>rw[em] at K;exact λ s3 σ3 H3 ι3 N3 n3=>K s3 σ3 H3 ι3 (un N3) n3
     | ret v h2=>rw[em] at K;exact λ u s3 σ2 σ3 H3 ι3 N3 n3 r3=>K u s3 σ2 σ3 H3 ι3 (un N3) n3 r3
     | exc k σ2 h2=>rw[em] at K;exact Zf K
     | stuck=>rw[em] at K;exact Zf K
    ·have K:JV ce X pj ι H ((m (σi.set i (Za (.ref n))) h).drop (Za i)) Q E:=K
     refine codeAny_handlers_suite_as (Jj1 N.inv.hok ha ht λ h' kp=>?_)
     have I2:Inv (Jl X a) pj σ H { s with heap:=h' }:=YU (N.inv.kept (t':=s.toks) kp) a
     refine Nj (X:=Jl X a) (v:=V.ref a) I2 hN hx (.inl hk) rfl (λ s3 I3=>?_) (.inr hk)
     have N3:Now ce (Jl X a) pj ι (σi.set i (Za (.ref n))) h (σ.set i (Za (V.ref a))) H s3:=⟨I3,N.rel,N.st.set i ⟨a,rfl,hi⟩⟩
     refine o.run a pj _ _ H ι _ h _ _ n c fs N.inv.ok N3 hj hi (λ j z l=>by cases z;exact Z1 (by simpa using l)) ?_
     have fin:∀{ι3:List Zi}{σ2:ISt}{h2:IH}{σ3:L2.St}{H3:Hp}{s3:Zj}{W:Unit->Zj->Prop},Now ce (Jl X a) pj ι3 σ2 h2 σ3 H3 s3->(∀s4,Now ce X pj ι3 (σ2.set i Ze) h2 (σ3.set i Ze) H3 s4->W () s4)->Zz (ZE X.prog X.w) X.A (do bindName X.env x .none;unbindBehindTheSuite X.env x pos) W E s3:=λ q k =>
      Jrn (Jgi N.inv.ok q.inv) hN hx hk λ s4 I4=>k s4 ⟨I4,q.rel,q.st.unset i⟩
     cases em:m (σi.set i (Za (.ref n))) h with
     | next σ2 h2=>rw[em] at K;exact λ s3 σ3 H3 ι3 N3 n3=>fin N3 λ s4 N4=>K s4 _ H3 ι3 N4 n3
     | brk σ2 h2=>rw[em] at K;exact λ s3 σ3 H3 ι3 N3 n3=>fin N3 λ s4 N4=>K s4 _ H3 ι3 N4 n3
     | cont σ2 h2=>rw[em] at K;exact λ s3 σ3 H3 ι3 N3 n3=>fin N3 λ s4 N4=>K s4 _ H3 ι3 N4 n3
     | ret v h2=>rw[em] at K;exact λ u s3 σ2 σ3 H3 ι3 N3 n3 r3=>fin N3 λ s4 N4=>K u s4 _ _ H3 ι3 N4 n3 r3
     | exc k σ2 h2=>rw[em] at K;exact Zf K
     | stuck=>rw[em] at K;exact Zf K
theorem J1k {body:List Zbu}{mb:S1}{h₀:Zbd}{hs:List Zbd}{ms:List HdI}{pos:Pos}(hN:X.N.Nodup)(hk:X.stack=X.env::X.outer)(hf:X.env.frame=Za X.env.locals)(hb:PS2 ce X body mb)(O:HdsOk ce X (h₀::hs) ms):PS1 ce X (.Try body (h₀::hs) [] [] pos) (sTry mb ms):=by
 intro pj s σ H ι σi h Q E N K
 unfold sTry at K
 refine wpAny_Try_except (hb pj s σ H ι σi h _ _ N ?_)
 cases e:mb σi h with
 | next σ2 h2=>rw[e] at K;exact λ s3 σ3 H3 ι3 N3 n3=>Zcm (K s3 σ3 H3 ι3 N3 n3)
 | brk σ2 h2=>rw[e] at K;exact K
 | cont σ2 h2=>rw[e] at K;exact K
 | ret v h2=>rw[e] at K;exact K
 | stuck=>rw[e] at K;exact K
 | exc n σ2 h2 =>
  rw[e] at K
  dsimp only at K
  cases hj:h2[n]? with
  | none=>rw[hj] at K;exact Zf K
  | some ob =>
   cases ob with
   | exc c fs =>
    rw[hj] at K
    intro pl a s3 σ3 H3 ι3 N3 n3 hi s4 fl
    have N3:Now ce X pj ι3 σ2 h2 σ3 H3 s3:=⟨N3.inv.fewer λ p hp=>Zr.mpr ((Zr.mp hp).imp_right λ z=>ZbU _ z),N3.rel,N3.st⟩
    obtain⟨C,tv,d,fe,hC,ha,ht⟩:=Ng N3.rel hj hi
    refine Jmw N3.inv fl hk hf ha ht λ T oT h' p=>?_
    obtain⟨N4,n4⟩:=Jse N3 hj hi hC ha p
    exact Jpf hN O N4 hj hi (JV.mono (r:=Xe ms c n σ2 h2) K (n3.trans n4))
   | _=>rw[hj] at K;exact Zf K
def slT:IV->Option Int->Option Int->IH->Res IV
 | .str x,lo,hi,h=>if x.length<=sizeLine then .ok (.str (Zdc x lo hi)) h else .stuck
 | x,lo,hi,h=>slI x lo hi h
theorem J1u:SlI ce X slT:=by
 intro pj s σ H ι σi h x v vl vu lo hi sl Q E N rx hs pl pu K
 cases x with
 | str x =>
  obtain⟨xv,rx,qx⟩:=rx
  cases (show xv=.str x from qx)
  obtain⟨t,rfl⟩:=rx
  dsimp only[slT] at K
  split at K
  ·rename_i hz
   refine⟨"str",_,F.slot_str_getitem.lookup,ZcC _ _ _,?_⟩
   cases pl with
   | none =>
    cases pu with
    | none=>exact ZbD (l:=Ze) (u:=Ze) (st:=Ze) hs rfl (ZcP ⟨Zau (ZdP x _ _) hz,λ t' k=>fin0 N K rfl _ _ (N.inv.tok _) ⟨_,rfl⟩⟩)
    | int j tj=>exact ZbD (l:=Ze) (u:=Za (j,tj)) (st:=Ze) hs rfl (ZcP ⟨Zau (ZdP x _ _) hz,λ t' k=>fin0 N K rfl _ _ (N.inv.tok _) ⟨_,rfl⟩⟩)
   | int i ti =>
    cases pu with
    | none=>exact ZbD (l:=Za (i,ti)) (u:=Ze) (st:=Ze) hs rfl (ZcP ⟨Zau (ZdP x _ _) hz,λ t' k=>fin0 N K rfl _ _ (N.inv.tok _) ⟨_,rfl⟩⟩)
    | int j tj=>exact ZbD (l:=Za (i,ti)) (u:=Za (j,tj)) (st:=Ze) hs rfl (ZcP ⟨Zau (ZdP x _ _) hz,λ t' k=>fin0 N K rfl _ _ (N.inv.tok _) ⟨_,rfl⟩⟩)
  ·exact Zf K
 | _=>exact x_sl pj s σ H ι σi h _ v vl vu lo hi sl Q E N rx hs pl pu K
def Yp:IV->List IV->IH->Res IV
 | .str x,[],h=>if 3*x.length<=sizeLine then .ok (.str (Zb1 x)) h else .stuck
 | _,_,_=>.stuck
theorem Jvj:MtI ce X "str" "str.upper" Yp:=by
 intro pj s σ H ι σi h x xs v us Q E N rx rs K
 obtain⟨xv,rx,qx⟩:=rx
 obtain⟨vs,rv,qs⟩:=rs
 cases x with
 | str x =>
  cases (show xv=.str x from qx)
  obtain⟨t,rfl⟩:=rx
  match xs,K with
  | [],K =>
   cases (show vs=[] from qs)
   cases rv
   dsimp only[Yp] at K
   split at K
   ·rename_i hz
    exact SC.upper (decide_eq_false (by have:=PyProof.Rows.len_upper x;omega)) (fin0 N K rfl _ _ (N.inv.tok _) ⟨_,rfl⟩)
   ·exact Zf K
  | _::_,K=>exact Zf K
 | _=>cases xs<;>exact Zf K
structure BasK (K:W.Frag)(C:Zi):Prop where
 sp:W.specialIn K (.ref C) "__getattribute__"=Za (Za (.builtin "type.__getattribute__"))
 rd:W.readsIn K C (.type "type")=Zh
 fc:∃fa,W.findIn K (.ref C) "__init__"=Za (Za (.ref fa))/\W.findCls K (.ref C) (.type "type") "__init__"=Za (.val (.ref fa))/\W.keepIn K (.ref fa)=Zh
variable {k:Nat}{fa C:Zi}{fd:Zax}{ps:List Str}{f:List IV->IH->Res IV}{dvs:List IV}{ds:List Zg}{x:Str}{p pos apos:Pos}{e:Expr}{es:List Expr}{ma:A1}{pl:Sem Bool}
end
section
variable {prog:ZG}{w:ZX}{A:ZO}{E:QvT}{s:Zj}{x y:Str}{t u:Tok}{Q:QvT}
open Builtin Builtin.Str in
theorem Jn5 (hy:(y.length==0)=Zc)(hz:x.length+2<=sizeLine)
  (hq:∀(l:List (Str×Tok)) k,l.map (·.1)=Zad x y->Q (.ref s.heap.objs.size) { s with toks:=k,heap:=s.heap.push { cls:=.type "list",data:=.seq (ZcD l).toArray } }) :
  Zz (ZE prog w) A (call (.builtin "str.split") [.str x t,.str y u]) Q E s:=by
 have hsz:x.length<=sizeLine:=by omega
 have hsz2:(partsBetween x (occurrences x y 0 x.length (x.length+1)) y.length).length<=sizeLine:=by
  rw[len_partsBetween]
  have:=StrLaws.occ_length_le x y 0 x.length (x.length+1)
  omega
 cases h1:(decide (x.length<y.length)||decide (strKind x<strKind y))
 ·cases hf:(occurrences x y 0 x.length (x.length+1)).isEmpty
  ·refine ZbL F.slot_str_split (ZcC _ _ _) F.entry_str_split (F.args_str_split_2 _ _) (meets_str_split_sep x y t u h1 hy hf hsz hsz2) ?_
   show wants Q E _ { s with toks:=_,heap:=s.heap.push { cls:=.type "list",data:=.seq (strsFrom s.toks (partsBetween x (occurrences x y 0 x.length (x.length+1)) y.length)).toArray } }
   rw[strsFrom_eq]
   exact hq (numbered s.toks _) _ ((numbered_texts _ _).trans ((if_neg (ne_true_of_eq_false h1)).trans (if_neg (ne_true_of_eq_false hf))).symm)
  ·exact ZbL F.slot_str_split (ZcC _ _ _) F.entry_str_split (F.args_str_split_2 _ _) (meets_str_split_not_found x y t u h1 hy hf)
    (hq [(x,t)] s.toks ((if_neg (ne_true_of_eq_false h1)).trans (if_pos hf)).symm)
 ·exact ZbL F.slot_str_split (ZcC _ _ _) F.entry_str_split (F.args_str_split_2 _ _) (meets_str_split_cannot_occur x y t u h1)
   (hq [(x,t)] s.toks (if_pos h1).symm)
theorem Jqa (hy:(y.length==0)=Zc)(hz:x.length<=sizeLine)
  (hq:∀ta tb tc k,Q (.ref s.heap.objs.size) { s with toks:=k,heap:=s.heap.push { cls:=.type "tuple",data:=.seq [.str (ZC x y).1 ta,.str (ZC x y).2.1 tb,.str (ZC x y).2.2 tc].toArray } }) :
  Zz (ZE prog w) A (call (.builtin "str.partition") [.str x t,.str y u]) Q E s:=by
 refine ZbL F.slot_str_partition (ZcC _ _ _) F.entry_str_partition (F.args_str_partition_2 _ _) (meets_str_partition x y t u hy hz) ?_
 have h':=hq
 unfold ZC at h'
 revert h'
 cases Builtin.Str.occurrences x y 0 x.length 1 with
 | nil=>intro h';exact h' _ _ _ _
 | cons i r=>intro h';exact h' _ _ _ _
end
theorem Jqx:∀l:List (Str×Tok),Vals ((l.map (·.1)).map V.str) (ZcD l)
 | []=>.nil
 | _::r=>.cons ⟨_,rfl⟩ (Jqx r)
def onTT (f:Str->Str->IH->Res IV):IV->List IV->IH->Res IV
 | .str x,[.str y],h=>f x y h
 | _,_,_=>.stuck
section
variable {ce:CeT}{X:Cx}
theorem m_tt {id:String}{f:Str->Str->IH->Res IV}(q:∀(pj:PnT)(s:Zj)(σ:L2.St)(H:Hp)(ι:List Zi)(σi:ISt)(h:IH)(x y:Str)(t u:Tok)(Q:QvT)(E:QvT),
  Now ce X pj ι σi h σ H s->Kont ce X RU pj ι σi σ H (f x y h) Q E->Zz (ZE X.prog X.w) X.A (call (.builtin id) [.str x t,.str y u]) Q E s):MtI ce X "str" id (onTT f):=by
 intro pj s σ H ι σi h x xs v us Q E N rx rs K
 obtain⟨xv,rx,qx⟩:=rx
 obtain⟨vs,rv,qs⟩:=rs
 cases x with
 | str x =>
  cases (show xv=.str x from qx)
  obtain⟨t,rfl⟩:=rx
  match xs,K with
  | [.str y],K =>
   obtain⟨w,rfl,e⟩:=qs.one_of
   cases (show w=.str y from e)
   obtain⟨u,rfl,ru⟩:=QG rv
   obtain⟨t2,rfl⟩:=ru
   exact q pj s σ H ι σi h x y t t2 Q E N K
  | [],K=>exact Zf K
  | [.non],K=>exact Zf K
  | [.bl _],K=>exact Zf K
  | [.int _],K=>exact Zf K
  | [.ref _],K=>exact Zf K
  | [.tup _],K=>exact Zf K
  | [.rol _],K=>exact Zf K
  | y::_::_,K=>cases y<;>exact Zf K
 | _=>exact Zf K
def Jmf:IV->List IV->IH->Res IV:=onTT λ x y h=>.ok (.bl (ZbY x y)) h
theorem Jvi:MtI ce X "str" "str.startswith" Jmf:=m_tt λ pj s σ H ι σi h x y t u Q E N K=>SC.startswith (fin0 N K rfl _ s N.inv rfl)
def Nb:IV->List IV->IH->Res IV:=onTT λ x y h=>if (y.length==0)=Zc/\x.length<=sizeLine then .ok (.tup [.str (ZC x y).1,.str (ZC x y).2.1,.str (ZC x y).2.2]) h else .stuck
theorem Jyi:MtI ce X "str" "str.partition" Nb:=m_tt λ pj s σ H ι σi h x y t u Q E N K=>by
 split at K
 ·rename_i hz
  refine Jqa hz.1 hz.2 λ ta tb tc k=>?_
  have I':=N.inv.laid (a:=s.heap.objs.size) (o:=.tup [.str (ZC x y).1,.str (ZC x y).2.1,.str (ZC x y).2.2]) (h':=s.heap.push { cls:=.type "tuple",data:=.seq [.str (ZC x y).1 ta,.str (ZC x y).2.1 tb,.str (ZC x y).2.2 tc].toArray }) (t':=k) (λ _ _=>Zm _) (Zu _)
   ⟨by show 3<=sizeLine;decide,[.str (ZC x y).1 ta,.str (ZC x y).2.1 tb,.str (ZC x y).2.2 tc],.cons ⟨_,rfl⟩ (.cons ⟨_,rfl⟩ (.cons ⟨_,rfl⟩ .nil)),_,Z8 _ rfl,rfl,0,rfl⟩
  exact finT N K s.heap.objs.size (N.inv.hok.fresh (Zu _)) (Jjf [(ZC x y).1,(ZC x y).2.1,(ZC x y).2.2]) _ _ I' rfl
 ·exact Zf K
def Ni:IV->List IV->IH->Res IV:=onTT λ x y h=>if (y.length==0)=Zc/\x.length+2<=sizeLine then .ok (.ref h.length) (h++[.lst ((Zad x y).map .str)]) else .stuck
theorem Jvh:MtI ce X "str" "str.split" Ni:=m_tt λ pj s σ H ι σi h x y t u Q E N K=>by
 split at K
 ·rename_i hz
  refine Jn5 hz.1 hz.2 λ l k hl=>?_
  have ln:=len_le_of_split hl
  rw[<- hl] at K
  have I':=N.inv.laid (a:=s.heap.objs.size) (o:=.lst ((l.map (·.1)).map V.str)) (h':=s.heap.push { cls:=.type "list",data:=.seq (ZcD l).toArray }) (t':=k) (λ _ _=>Zm _) (Zu _)
   ⟨by rw[Zo,Zo];omega,ZcD l,0,Jqx l,Z8 _ rfl⟩
  exact finA N K s.heap.objs.size (N.inv.hok.fresh (Zu _)) ⟨_,J2,Jjf _⟩ _ _ I' rfl
 ·exact Zf K
def cInT:IV->IV->IH->Res IV
 | .str x,.str y,h=>.ok (.bl (Zbs y x)) h
 | _,_,_=>.stuck
theorem J0y:OpI ce X (Zav .In) cInT:=by
 intro pj s σ H ι σi h x y v u Q E N rx ry K
 obtain⟨xv,rx,qx⟩:=rx
 obtain⟨yv,ry,qy⟩:=ry
 cases x with
 | str x =>
  cases y with
  | str y =>
   cases (show xv=.str x from qx)
   cases (show yv=.str y from qy)
   obtain⟨t,rfl⟩:=rx
   obtain⟨t2,rfl⟩:=ry
   exact SB.contains (fin0 N K rfl _ s N.inv rfl)
  | _=>exact Zf K
 | _=>exact Zf K
def Q8:IV->IH->Res IV
 | .str x,h=>if x.length<=640 then(match ZbZ x with
  | some n=>.ok (.int n) h
  | none=>.stuck) else .stuck
 | v,h=>intI v h
theorem Jw3:QY ce X (.type "int") (on1 Q8):=by
 intro pj s σ H ι σi h xs us Q E N rs K
 match xs,K with
 | [.str x],K =>
  obtain⟨vs,rv,qs⟩:=rs
  obtain⟨w,rfl,e⟩:=qs.one_of
  cases (show w=.str x from e)
  obtain⟨u,rfl,ru⟩:=QG rv
  obtain⟨t,rfl⟩:=ru
  have K:Kont ce X RU pj ι σi σ H (if x.length<=640 then(match ZbZ x with
   | some n=>.ok (.int n) h
   | none=>.stuck) else .stuck) Q E:=K
  split at K
  ·rename_i hz
   cases en:ZbZ x with
   | none=>rw[en] at K;exact Zf K
   | some n =>
    rw[en] at K
    exact W.KIN.call_text en hz (fin0 N K rfl _ _ (N.inv.tok _) ⟨_,rfl⟩)
  ·exact Zf K
 | [],K=>exact VZ pj s σ H ι σi h [] us Q E N rs K
 | [.non],K=>exact VZ pj s σ H ι σi h _ us Q E N rs K
 | [.bl _],K=>exact VZ pj s σ H ι σi h _ us Q E N rs K
 | [.int _],K=>exact VZ pj s σ H ι σi h _ us Q E N rs K
 | [.ref _],K=>exact VZ pj s σ H ι σi h _ us Q E N rs K
 | [.tup _],K=>exact VZ pj s σ H ι σi h _ us Q E N rs K
 | [.rol _],K=>exact VZ pj s σ H ι σi h _ us Q E N rs K
 | y::z::r,K=>exact VZ pj s σ H ι σi h (y::z::r) us Q E N rs K
end
theorem Ji2:entryFor table "proto.unchain"=Za ZdL.«proto.unchain» :=entryFor_of_tree (by kernel_rfl)
section
variable {prog:ZG}{w:ZX}{A:ZO}{E:QvT}{s:Zj}
theorem Jqe {α:Type}{x e:Zi}{ox oe:Obj}{vx ve:Array Zg}{Q:α->Zj->Prop}(hh:A.handled=Za (.ref x))(gx:s.heap.get? x=Za ox)(dx:ox.data=.fields vx)(x2:vx[2]?=Za .none)(ge:s.heap.get? e=Za oe)(de:oe.data=.fields ve)(sz:2<ve.size)(ne:x≠e)
  (h:E (.ref e) { s with heap:=s.heap.update e (Zaq (·.setIfInBounds 2 (.ref x))) }):Zz (ZE prog w) A (raiseNew (α:=α) (.ref e)) Q E s:=by
 unfold raiseNew
 refine Zk (wpAny_handled ?_)
 rw[hh]
 show Zz _ _ (if (ZaZ x != ZaZ e)=Zh then _ else _) _ _ s
 rw[if_pos (by simp[bne_iff_ne];exact ne)]
 refine Zk (Zay (wpAny_runValue (Zbl Ji2 ?_)))
 ·unfold ZdL.«proto.unchain»
  dsimp only
  refine Zk (ZaD gx dx x2 ?_)
  rw[if_pos (by rfl)]
  refine Zk (ZM ?_)
  refine ZM ?_
  unfold updateField
  refine Zk (Zk (wpAny_load ge ?_))
  rw[de]
  dsimp only
  rw[if_pos sz]
  exact wpAny_update ge (wpAny_throw h)
theorem Jl4 {it l x:Zi}{i:Nat}{items:Array Zg}{ox:Obj}{vx:Array Zg}{Q:Option Zg->Zj->Prop}(hh:A.handled=Za (.ref x))(gx:s.heap.get? x=Za ox)(dx:ox.data=.fields vx)(x2:vx[2]?=Za .none)(xi:x≠it)
  (hit:s.heap.IsListIter it l i)(hl:s.heap.IsList l items)(hx:items[i]?=Ze)
  (hQ:∀h',Zdt it s.heap h'->Q Ze { s with heap:=h' }):Zz (ZE prog w) A (Zc8 (.ref it)) Q E s:=by
 obtain⟨o,ho,hc,hd⟩:=id hit
 obtain⟨ol,hol,_,nl,hdl⟩:=hl
 unfold Zc8
 refine Zk (wpAny_attempt (Zct (name:=Zb "__next__") hit.typeIs slot_listiter_next
  (ZdE slot_listiter_next hit.typeIs entry_listiter_next ?_ (args_listiter_next _))))
 show Zz _ _ (field (.ref it) 0>>=_) _ _ s
 refine Zk (ZaD ho hd (x:=.ref l) rfl ?_)
 show Zz _ _ (if (ZaZ l==Zag)=Zh then _ else _) _ _ s
 rw[if_neg (show ¬((ZaZ l==Zag)=Zh) from Zy)]
 show Zz _ _ (field (.ref it) 1>>=_) _ _ s
 refine Zk (ZaD ho hd (x:=.int i 0) rfl ?_)
 show Zz _ _ (ZdD (.ref l)>>=_) _ _ s
 refine Zk (ZbW hol hdl ?_)
 simp only[Zcy,hx]
 refine Zk (wpAny_rule (Zk (Zbe ho hd (by simp) ?_)))
 show Zz _ _ (newExc (.type "StopIteration") []>>=_) _ _ _
 refine Zk ?_
 simp only[newExc,newTuple]
 refine Zk (Zb3 ?_ (by size_fits))
 refine Zk (m:=Zdm _ _) (wpAny_of_eq (a:=Zag) (by first|rfl|(simp only[Zdm];rfl)) ?_)
 refine Zb3 ?_ (by size_fits)
 have xlt:=Z4 gx
 have gx1:(s.heap.update it (Zaq λ x=>x.setIfInBounds 0 Zag)).get? x=Za ox:=(Z2 _ _ (Zao xi)).trans gx
 have eh:∀b o,b≠it->s.heap.get? b=Za o->(s.heap.update it (Zaq λ x=>x.setIfInBounds 0 Zag)).get? b=Za o:=λ b o n q=>(Z2 _ _ (Zao n)).trans q
 generalize s.heap.update it (Zaq λ x=>x.setIfInBounds 0 Zag)=h0 at gx1 eh ⊢
 have gx2:=Zm (h:=h0) { cls:=Zc7 "tuple",data:=Data.seq #[] } gx1
 have e1:∀b o,h0.get? b=Za o->(h0.push { cls:=Zc7 "tuple",data:=Data.seq #[] }).get? b=Za o:=λ b o q=>Zm _ q
 refine Jqe (A:=A.in1) (x:=x) hh (Zm _ gx2) dx x2 (Z8 _ rfl) rfl (by simp;omega) (ZK (Z4 gx2)) ?_
 refine Zk (wpAny_isInstance (T:="StopIteration") (b:=Zh) ⟨_,Za0 _ (Z8 _ rfl) (ZaY (Zaj rfl _)),Zdu _ _⟩ isSubtype_stop ?_)
 refine ZM (hQ _ λ b o n q=>?_)
 have l1:=Z4 (e1 b o (eh b o n q))
 rw[Z2 _ _ (Zbp l1)]
 exact Zm _ (e1 b o (eh b o n q))
end
theorem Jn8 {X0:Cx}{tg:Expr}(a it:Zi):TurnC X0.prog X0.w (Juf X0) tg (Itl X0.K a) [it] it (λ i h=>h.IsListIter it a i) where
 obj:=(Nk (P:=X0.prog) (w:=X0.w) (K:=X0.K) (tg:=tg) a it).obj
 keep:=(Nk (P:=X0.prog) (w:=X0.w) (K:=X0.K) (tg:=tg) a it).keep
 self:=(Nk (P:=X0.prog) (w:=X0.w) (K:=X0.K) (tg:=tg) a it).self
 item:=by
  intro X i s σ H c I hf st hg
  obtain⟨c1,c2,c3,_⟩:=c
  rw[<- c1,<-c2]
  rw[<- c3] at hg ⊢
  obtain⟨xs,x,hq,hx⟩:=hg
  obtain⟨its,rv,p,hz⟩:=I.list hq
  obtain⟨u,hu,ru⟩:=rv.get hx
  obtain⟨f0,f1,f2,f3,f4,f5⟩:=hf it (by simp)
  refine Zcv st p.isList (x:=u) (by simpa using hu) λ h' st' sb=>?_
  have I1:Inv X [] σ H { s with heap:=h' }:=I.turned (t':=s.toks) (λ b o hb e=>(sb.2 b hb).trans e) f0 f1 f3 f4 f5
  obtain⟨o,e,c,d⟩:=id st'
  exact⟨u,rfl,YN (s:={ s with heap:=h' }) e c d (by decide) ⟨x,H,I1,ru,⟨rfl,λ ys hy=>by rw[I.list_inj hy hq];exact hx⟩,st',λ b hb=>(hf b hb).1⟩⟩
 done:=by
  intro X i s σ H c I hf st hg
  obtain⟨c1,c2,c3,e,oe,u,vs,w1,w2,w3,w4⟩:=c
  rw[<- c1,<-c2]
  rw[<- c3] at hg
  obtain⟨xs,hq,hx⟩:=hg
  obtain⟨its,rv,p,hz⟩:=I.list hq
  obtain⟨f0,f1,f2,f3,f4,f5⟩:=hf it (by simp)
  have hl:=rv.length
  exact Jl4 w1 (I.hok e _ w2).1 w3 w4 (λ z=>by rw[z,f0] at w2;cases w2) st p.isList (by simp;omega) λ h' eb=>⟨rfl,I.turned (t':=s.toks) (λ b o hb e=>eb b o hb e) f0 f1 f3 f4 f5⟩
def XX (ml:E1):I1:=λ σ h=>(ml σ h).bind λ v h1=>match v with
 | .ref i=>(match h1[i]? with
  | some (.lst xs)=>.ok ⟨xs,λ h'=>h'[i]?=Za (.lst xs)⟩ h1
  | _=>.stuck)
 | _=>.stuck
section
variable {ce:CeT}{X:Cx}
theorem Ju7 {tg l:Expr}{ml:E1}(hl:PEi ce X l ml):PIc (Juf X) ce X tg l (XX ml):=by
 intro pj s σ H ι σi h Q E N K
 refine hl pj s σ H ι σi h _ E N ?_
 unfold XX at K
 cases e0:ml σi h with
 | exc n h'=>rw[e0] at K;exact K
 | stuck=>rw[e0] at K;exact K
 | ok v h' =>
  rw[e0] at K
  intro u s1 H1 ι1 N1 n1 r1
  obtain⟨w,rw',q⟩:=r1
  have fresh:∀b∈[s1.heap.objs.size],FpOk X pj H1 b:=λ b hb=>by
   have e:b=s1.heap.objs.size:=by simpa using hb
   subst e
   exact N1.inv.fpOk (Zu _) (N1.inv.hok.fresh (Zu _))
  cases v with
  | ref i =>
   obtain⟨a,e1,ha⟩:=q
   subst e1
   cases rw'
   cases hi:h'[i]? with
   | none=>simp only[Res.bind,hi] at K
   | some o =>
    cases o with
    | lst xs =>
     simp only[Res.bind,hi] at K
     obtain⟨vs,e1,r1⟩:=N1.at hi ha
     obtain⟨its,rv,p,hz⟩:=N1.inv.list (SqL.of e1)
     refine Zbg p.isList (K _ _ H1 ι1 ⟨N1.inv.kept (t':=s1.toks) λ b o e=>Zm _ e,N1.rel,N1.st⟩ n1 ?_)
     exact⟨s1.heap.objs.size,[s1.heap.objs.size],_,Itl X.K a,rfl,Jn8 a _,⟨_,Z8 _ rfl,rfl,rfl⟩,fresh,Jtp ha⟩
    | _=>simp only[Res.bind,hi] at K
  | _=>simp only[Res.bind] at K
theorem Ju4 {N0 loc caps:List Str}{js:List Nat}{sc₀ scope:Zbw}{tg iter elt:Expr}{ifs:List Expr}{mi:I1}{g:G1}{mt:T1}{me:E1}{pos:Pos}(hw:Warm X.A X.H₀)(hi:PIc (Juf X) ce X tg iter mi)
  (hg:∀C s H fp,PGi ce (cxC X (loc++caps) scope C s H fp) tg g)(ht:∀C s H fp,PTsi ce (cxC X (loc++caps) scope C s H fp) ifs mt)(he:∀C s H fp,PEi ce (cxC X (loc++caps) scope C s H fp) elt me)
  (ok:Qw N0 loc caps js sc₀ scope=Zh)(hN0:X.N=N0:=by rfl)(hsc:X.env.scope=sc₀:=by rfl)(hs:∀x,Zbh iter X.env x=pure x:=by intro _;rfl):PEi ce X (.ListComp elt [⟨tg,iter,ifs,0⟩] scope pos) (J7 mi loc.length js g mt me):=by
 intro pj s σ H ι σi h Q E N K
 rw[Zes]
 have wH:Warm X.A H:=let ⟨a,oe,u,vs,e1,e2,e3,e4⟩:=hw;⟨a,oe,u,vs,e1,N.inv.base.frzs _ _ _ e2,e3,e4⟩
 refine Jfu hi hg ht he ok hN0 hsc hs (λ _ _ _ _ _ x=>⟨rfl,rfl,rfl,wH.mono x⟩) N (Jia K)
end
section
variable {ce:CeT}{X:Cx}{pj:PnT}{σ:L2.St}{H:Hp}{s:Zj}{ι:List Zi}{σi:ISt}{h:IH}{n:Nat}{c:Str}{fs:List (Str×IV)}{a:Zi}
theorem Jnj (N:Now ce X pj ι σi h σ H s)(hj:h[n]?=Za (.exc c fs))(hi:ι[n]?=Za a) :
  ∃oe,Now ce X pj ι σi (h.set n (.hld c fs)) σ (upd H a (.frz oe (.own 0))) s/\Nxt ι H ι (upd H a (.frz oe (.own 0)))/\∀A:ZO,Warm (A.mark (Za (.ref a))) (upd H a (.frz oe (.own 0))):=by
 obtain⟨C,tv,d,fe,hC,ha,ht⟩:=Ng N.rel hj hi
 obtain⟨oe,vs,e1,e2,e3,e4,e5,e6⟩:=ExF.get N.inv.hok ha
 obtain⟨R2,n2⟩:=N.rel.write hi ha (by rw[ha];trivial) (o:=.frz oe (.own 0)) (io:=.hld c fs) ⟨C,oe,.own 0,vs,e6▸fe.mono (λ b o u q=>by rw[Jo (λ z=>by subst z;rw[ha] at q;cases q)];exact q),hC,J2,e2,e3,e5⟩
 have I2:Inv X pj σ (upd H a (.frz oe (.own 0))) s:=N.inv.write (x:=a) (e:=a) (h':=s.heap) (t':=s.toks) (by rw[ha];trivial) (.inl rfl) (λ _ _ _ q=>q) ⟨oe,e1⟩ ⟨e1,oe,e1⟩
 exact⟨oe,⟨I2,R2,N.st.mono n2⟩,n2,λ A=>⟨a,oe,.own 0,vs,rfl,J2,e3,e5⟩⟩
end
section
variable {P:ZG}{w:ZX}{K:W.Frag}{mg:Str->Option Zg}{base:Zak}{ce:CeT}
theorem FunD.runW {x qual:Str}{st:Zbu}{f:Zi}{fd:Zax}{dV:Zg}{N ps:List Str}{k:Nat}{m:S1}(F:FunD K x qual st f fd dV)(S:FnScope N ps (Jx st))
  (hbody:∀(cdv:Zg)(A:ZO)(outer:List Env)(s:Zj)(H:Hp)(E:XK)(a:Zi),W.codeIn K cdv qual=Zh->Room k (A.deeper (Zc9 qual (Jx st) s.heap.objs.size f cdv))->Warm (A.mark (Za (.ref a))) H->PS2 ce (Jl (cxOf (CXI P w) P w K mg base N qual (Jx st) f cdv A outer s H E).nox a) (Qc st) m)
  {A:ZO}{outer:List Env}{s:Zj}{H:Hp}{args:Args}{us:List Zg}{vs:List V}{a:Zi}{ι:List Zi}{h:IH}{ivs:List IV}{Qv:VK}(hr:Room (k+1) A)(e0:Env0 P w K mg base A outer s H)(hw:Warm (A.mark (Za (.ref a))) H)(hb:Zck s fd args (ps.zip us))(r:Vals vs us)(hl:vs.length=ps.length)(R:Rel ce K ι h H)(rv:RVs K ι H ivs vs)
  (hk:match fnI N.length m ivs h with
   | .ok v h'=>∀x H' ι',Rel ce K ι' h' H'->Nxt ι H ι' H'->RV K ι' H' v x->Qv x H'
   | _=>False) :
  Zcw (ZE P w) (A.mark (Za (.ref a))) (.call (.ref f) args) (λ res s'=>match res with
   | .ok (.ret u)=>CE outer P w H s Qv u s'
   | _=>False) s:=by
 obtain⟨oc,od,kV,doc,pm,an,cdv,ct,osl,rfl,lk,hcd⟩:=F.ex
 have KX:K.In s.heap:=e0.mod.kin.keeps λ b o e=>(e0.bs b o e).1
 have lim:s.heap.NoLimit:=e0.mod.nolimit.keeps λ b o e=>(e0.bs b o e).1
 refine ZdY (A:=A.mark (Za (.ref a))) hr.depth (KX _ _ lk) rfl S.co S.gen rfl (W.codeRec_of KX hcd) (hb _ _ _ _ ?_)
 refine Zdi S.kind (λ ⟨y,v⟩ hy=>?_) λ env he s1 z=>?_
 ·rcases S.par y (ZcN hy).1 with q|q
  ·exact .inl q
  ·exact .inr ⟨q,W.cellsFrom_some _ _ _ (.inl q)⟩
 subst he
 refine⟨lim.keeps z.toInCall.keep,codeAny_func ?_⟩
 have I:Inv (cxOf (CXI P w) P w K mg base N qual (Jx st) f cdv A outer s H (λ _ _ _=>False)) [] (start N vs) H s1:=Jj9 S hr.hd e0 hl r z
 have I2:Inv (Jl (cxOf (CXI P w) P w K mg base N qual (Jx st) f cdv A outer s H (λ _ _ _=>False)).nox a) [] (start N vs) H s1:=YU (I.wish _) a
 have fin:∀{s':Zj}{σ':L2.St}{H':Hp}{v:V}{u:Zg},Inv (Jl (cxOf (CXI P w) P w K mg base N qual (Jx st) f cdv A outer s H (λ _ _ _=>False)).nox a) [] σ' H' s'->RelV v u->Qv v H'->CE outer P w H s Qv u s' :=
  λ {s' σ' H' v u} J rv q=>⟨v,H',J.os,J.bare,J.base,J.hok,rv,q⟩
 refine Zan (hbody cdv A outer s H (λ _ _ _=>False) a hcd (hr.deeper _) hw [] s1 (start N vs) H ι (Xk N.length ivs) h (λ fl s'=>match fl with
  | .ret u=>CE outer P w H s Qv u s'
  | .next=>CE outer P w H s Qv .none s'
  | _=>False) (λ _ _=>False) ⟨I2,R,rv.start⟩ ?_) (λ fl s' q=>?_) λ _ _ q=>q.elim
 ·unfold fnI SRes.fin at hk
  cases e:m (Xk N.length ivs) h with
  | next σ2 h2 =>
   rw[e] at hk
   exact λ s3 σ3 H3 ι3 N3 n3=>fin (v:=V.non) N3.inv rfl (hk .non H3 ι3 N3.rel n3 rfl)
  | ret v h2 =>
   rw[e] at hk
   exact λ u s3 σ3i σ3 H3 ι3 N3 n3 ⟨y,ry,q⟩=>fin N3.inv ry (hk y H3 ι3 N3.rel n3 q)
  | exc j σ2 h2 =>
   rw[e] at hk
   dsimp only at hk
   cases q:h2[j]? with
   | none=>rw[q] at hk;exact hk.elim
   | some o=>cases o<;>(rw[q] at hk;exact hk.elim)
  | _=>rw[e] at hk;exact hk.elim
 ·cases fl with
  | ret u=>exact q
  | next=>exact q
  | brk=>exact q.elim
  | cont=>exact q.elim
end
def XB (j:Nat)(f:List IV->IH->Res IV)(i:Nat):S1:=λ σ h=>match σ[i]? with
 | some (Za (.ref n))=>(match h[n]? with
  | some (.exc c fs)=>(match f [.ref n] (h.set n (.hld c fs)) with
   | .ok v h'=>.next (σ.set j (Za v)) h'
   | _=>.stuck)
  | _=>.stuck)
 | _=>.stuck
section
variable {ce:CeT}{X:Cx}
theorem Jsf {a fa:Zi}{x f e xf qual p1:Str}{px pf pe pc pos:Pos}{st:Zbu}{fd:Zax}{dV:Zg}{N':List Str}{k i j:Nat}{m:S1}(F:FunD X.K xf qual st fa fd dV)(S:FnScope N' [p1] (Jx st))
  (hbody:∀(cdv:Zg)(A:ZO)(outer:List Env)(s:Zj)(H:Hp)(E:XK)(a:Zi),W.codeIn X.K cdv qual=Zh->Room k (A.deeper (Zc9 qual (Jx st) s.heap.objs.size fa cdv))->Warm (A.mark (Za (.ref a))) H->PS2 ce (Jl (cxOf (CXI X.prog X.w) X.prog X.w X.K X.mg X.base N' qual (Jx st) fa cdv A outer s H E).nox a) (Qc st) m)
  (hr:Room (k+1) X.A)(hN:X.N.Nodup)(hjx:X.N[j]?=Za x)(hlx:Loc X.env.scope x)(hf:X.fn x=Zh∨X.env.scope.names.lookup x=Za .local)(hs:Zcs (.Call (.Name f pf) [.Name e pe] [] pc) (Za (.Name x px)) pos.line X.env=pure Zc)
  (hie:X.N[i]?=Za e)(hve:PEi ce (Jl X a) (.Name e pe) (Jb i))(hg:Gl X f)(hm:X.mg f=Za (.ref fa))(hk:W.keepIn X.K (.ref fa)=Zh)(hb:Q2 X.K fd [p1] [])(hdb:(f==("__debug__":Str))=Zc)
  (he:ZN [.Name e pe] X.env=(Zc,ZaV (.Name e pe) X.env)::ZN [] X.env:=by rfl):PSH ce X a (Za i) [.Assign [.Name x px] (.Call (.Name f pf) [.Name e pe] [] pc) pos] (XB j (fnI N'.length m) i):=by
 intro pj s σ H ι σi h Q E n c fs ok Nw hj hi hsl K
 have li:i<σi.length:=by
  rw[Nw.st.len,Nw.inv.len]
  exact(ZB.mp hie).1
 have hs1:=hsl i rfl li
 have ha:PAi ce (Jl X a) [.Name e pe] (Ja (Jb i) Jd):=QZ hve Vk he
 unfold XB at K
 rw[hs1] at K
 dsimp only at K
 rw[hj] at K
 dsimp only at K
 refine ZdB (wpAny_Assign_Name ?_ hs)
 refine Zaz (Xg Nw.inv hg hm ?_ hdb)
 refine W.callWith_K (h₀:=X.base) Nw.inv.ok.mod.kin hk ?_ he rfl
 refine ha pc pj s σ H ι σi h _ E Nw ?_
 have ev:Ja (Jb i) Jd σi h=.ok [.ref n] h:=by simp[Ja,Jd,Jb,hs1,Res.bind]
 rw[ev]
 intro us s1 H1 ι1 N1 n1 r1
 obtain⟨vs,rv,qs⟩:=r1
 obtain⟨w,rfl,a',rfl,ha'⟩:=qs.one_of
 obtain⟨u,rfl,ru⟩:=QG rv
 cases ru
 obtain rfl:a'=a:=Zaw (ha'.symm.trans (n1.at hi))
 refine⟨N1.inv.kIn,?_⟩
 obtain⟨oe,N2,n2,hw⟩:=Jnj N1 hj ha'
 have IX:=Jgi ok N2.inv
 cases er:fnI N'.length m [.ref n] (h.set n (.hld c fs)) with
 | exc _ _=>rw[er] at K;exact Zf K
 | stuck=>rw[er] at K;exact Zf K
 | ok v h' =>
  rw[er] at K
  refine Zey (Zcb (F.runW S hbody (ivs:=[.ref n]) (Qv:=λ y H'=>∃ι',Rel ce X.K ι' h' H'/\Nxt ι1 (upd H1 a' (.frz oe (.own 0))) ι' H'/\RV X.K ι' H' v y) hr IX.env0 (hw X.A) (hb s1 [.ref a'] IX.kIn (by simp)) (r:=(.cons (show RelV (.ref a') (.ref a') from rfl) .nil)) (hl:=rfl) (R:=N2.rel) (rv:=⟨_,_,rfl,⟨a',rfl,ha'⟩,rfl⟩) ?_) λ res s' q=>?_)
  ·rw[er]
   exact λ y H' ι' R' n' q=>⟨ι',R',n',q⟩
  ·match res,q with
   | .ok (.ret u),q =>
    obtain⟨y,H',I',ry,ι',R',n',qy⟩:=IX.after q
    have nn:Nxt ι H ι' H':=(n1.trans n2).trans n'
    exact Nj (X:=Jl X a') (YU I' a') hN hjx hlx ry (λ s2 I2=>Zcm (K s2 _ H' ι' ⟨I2,R',(Nw.st.mono nn).set j qy⟩ nn)) hf
   | .error _,q=>exact q.elim
   | .ok .next,q=>exact q.elim
   | .ok .brk,q=>exact q.elim
   | .ok .cont,q=>exact q.elim
end
section
variable {prog:ZG}{w:ZX}{A:ZO}{E:QvT}{s:Zj}
end
def neIn (K:W.Frag)(C:Zi):Bool:=match K.lookup C with
 | some ⟨.type "type",_,.cls cd,sl⟩=>(match cd.mro,sl.toList with
  | [.ref C',.type "object"],[_,_,_,_,Za (.builtin _),_]=>C'==C&&!cd.hasDel&&W.nsOkIn K cd.ns&&W.nsIn K cd.ns "__eq__"==Za Ze&&W.nsIn K cd.ns "__ne__"==Za Ze
  | _,_=>Zc)
 | _=>Zc
theorem neIn.cmp {K:W.Frag}{C x dx:Zi}{h:Zak}(q:neIn K C=Zh)(I:K.In h)(hx:h.get? x=Za (W.instObj C dx)):h.CmpInst x C [.type "object"]:=by
 unfold neIn at q
 split at q
 case h_2=>cases q
 rename_i dd cd sl ho
 split at q
 case h_2=>cases q
 rename_i D k0 k1 k2 k3 n k5 em es
 simp only[Zl,beq_iff_eq,Zaf] at q
 obtain⟨⟨⟨⟨e1,e3⟩,e5⟩,e6⟩,e7⟩:=q
 subst e1
 obtain⟨nm,bs,mro,N,qn,hd,sn,sub,ab,col,del⟩:=cd
 have em:mro=[.ref D,.type "object"]:=em
 have e3:del=Zc:=e3
 subst em e3
 have es:sl=#[k0,k1,k2,k3,Za (.builtin n),k5]:=by
  rw[<- ZcL (xs:=sl),es]
 subst es
 exact⟨_,nm,qn,N,bs,hd,sn,sub,ab,col,dd,k0,k1,k2,k3,k5,n,_,hx,rfl,I _ _ ho,.of_isNs (W.isNs_of_in I e5),W.nsMap_none_of_in I e5 e6,W.nsMap_none_of_in I e5 e7⟩
section
variable {ce:CeT}{X:Cx}{pj:PnT}{s:Zj}{σ:L2.St}{H:Hp}{ι:List Zi}{σi:ISt}{h:IH}
end
section
variable {ce:CeT}{X:Cx}
end
def XY:IV->List IV->IH->Res IV
 | .ref i,[.bl k],h=>match h[i]? with
  | some (.lst xs)=>(match Vn xs with
   | some ns=>(match ns.findIdx? (· ==k) with
    | some j=>.ok (.int j) h
    | none=>.stuck)
   | none=>.stuck)
  | _=>.stuck
 | _,_,_=>.stuck
def isB (k:Bool):Zg->Bool
 | .bool a=>a==k
 | _=>Zc
section
variable {ce:CeT}{X:Cx}
theorem Jr6 (hu:X.A.units+64<Zeq):MtI ce X "list" "list.index" XY:=by
 intro pj s σ H ι σi h x xs v us Q E N rx rs K
 obtain⟨xv,rx,qx⟩:=rx
 obtain⟨vs,rv,qs⟩:=rs
 cases x with
 | ref i =>
  match xs,K with
  | [y],K =>
   cases y with
   | bl k =>
    obtain⟨a,rfl,ha⟩:=qx
    obtain⟨w,rfl,qw⟩:=qs.one_of
    cases (show w=.bl k from qw)
    obtain⟨u,rfl,ru⟩:=QG rv
    cases ru
    cases rx
    dsimp only[XY] at K
    cases hi:h[i]? with
    | none=>rw[hi] at K;exact Zf K
    | some ob =>
     rw[hi] at K
     cases ob with
     | lst zs =>
      dsimp only at K
      cases hb:Vn zs with
      | none=>rw[hb] at K;exact Zf K
      | some ns =>
       rw[hb] at K
       dsimp only at K
       cases hj:ns.findIdx? (· ==k) with
       | none=>rw[hj] at K;exact Zf K
       | some j =>
        rw[hj] at K
        obtain⟨ws,e1,r1⟩:=N.at hi ha
        obtain⟨z,its,n,r,hl,eo⟩:=N.inv.lstM e1
        have are:=Jiy hb r1 r
        subst are
        obtain⟨hlt,hp,hno⟩:=List.findIdx?_eq_some_iff_getElem.mp hj
        have sb:(2:Nat)^40 ≥ sizeLine:=by decide
        have ln:(ns.map Zco).length=ns.length:=Zo ..
        refine ZbL F.slot_list_index ⟨_,eo,rfl⟩ F.entry_list_index (F.args_list_index_2 _ _)
         (SeqAt.list_indexAt a (ns.map Zco).toArray n Ze #[] (.bool k) (isB k) j (by simp;omega) (by omega) ?_ (λ m hm hmj=>?_)) ⟨eo,λ y hy=>?_,?_⟩
        ·simpa [isB] using hp
        ·have:=hno m hmj
         simpa [isB] using this
        ·obtain⟨m,hm,rfl⟩:=Array.mem_iff_getElem.mp hy
         have q:=SeqAt.eqAt_reads (.bool (ns[m]'(by simpa using hm))) (.bool k) X.A.in1 s (.bool (ns[m]'(by simpa using hm))) (.bool k) [] [] (.bool _) (.bool _) rfl rfl (by show X.A.units+1+_<_;simp[PyData.depth];omega)
         simpa [isB,Zbm] using q
        ·exact fin0 N K rfl _ _ (N.inv.kept (t':=s.toks+1) λ _ _ e=>e) ⟨_,rfl⟩
     | _=>exact Zf K
   | _=>exact Zf K
  | [],K=>exact Zf K
  | y::_::_,K=>cases y<;>exact Zf K
 | _=>cases xs with
  | nil=>exact Zf K
  | cons y r=>cases y<;>cases r<;>exact Zf K
end
theorem Js2 {xs:List V}{its:List Zg}{y:V}{u:Zg}(k:Nat)(r:Vals xs its)(ru:RelV y u):Vals (xs.take k++y::xs.drop k) (its.take k++u::its.drop k):=(r.take k).append (.cons ru (r.drop k))
section
variable {X:Cx}
def Jvy:V->List V->Hp->VK->Prop:=λ x vs H Q=>∃(l:Zi)(xs:List V)(i:Int)(y:V),x=.ref l/\vs=[.int i,y]/\H l=Za (.lst xs)/\0<=i/\i<=xs.length/\i<1000000/\xs.length<sizeLine/\Q .non (upd H l (.lst (xs.take i.toNat++y::xs.drop i.toNat)))
theorem Jp3:MtM X "list.insert" Jvy:=by
 intro pj s σ H x vs v us Q I rx rv h
 obtain⟨l,xs,i,y,rfl,rfl,hH,h0,hk,hk2,hz,q⟩:=h
 cases rx
 obtain⟨a,b,rfl,ra,rb⟩:=rv.two
 obtain⟨t,rfl⟩:=ra
 obtain⟨z,its,n,r,hl,e⟩:=I.lstM hH
 have f1:¬(!Builtin.List.listFitsIndex i)=Zh:=by
  rw[fitsIndex_both (by omega) (by omega)]
  decide
 refine ZbL F.slot_list_insert ⟨_,e,rfl⟩ F.entry_list_insert (F.args_list_insert_3 _ _ _) (AutoSeq1.list_insert_list_int_val_1 l its.toArray n i t b f1 (by rw[Z5];omega)) ⟨e,?_⟩
 refine⟨.non,_,I.lset (its':=its.take i.toNat++b::its.drop i.toNat) hH e ?_ (Js2 i.toNat r rb) ?_,rfl,q⟩
 ·have e1:¬(i<0):=by omega
  have e2:min i.toNat its.length=i.toNat:=by omega
  simp only[Z5,e1,if_false,e2]
  simp
  exact ZaT (by simp)
 ·simp
  omega
end
section
variable {ce:CeT}{X:Cx}
def XZ:IV->List IV->IH->Res IV
 | .ref i,[.int k,y],h=>match h[i]? with
  | some (.lst xs)=>if 0<=k/\k<=xs.length/\xs.length<100000 then .ok .non (h.set i (.lst (xs.take k.toNat++y::xs.drop k.toNat))) else .stuck
  | _=>.stuck
 | _,_,_=>.stuck
theorem Jr7:MtI ce X "list" "list.insert" XZ:=by
 intro pj s σ H ι σi h x xs v us Q E N rx rs K
 obtain⟨xv,rx,qx⟩:=rx
 obtain⟨vs,rv,qs⟩:=rs
 cases x with
 | ref i =>
  match xs,K with
  | [z,y],K =>
   cases z with
   | int k =>
    obtain⟨a,rfl,ha⟩:=qx
    obtain⟨w,w2,rfl,qw,qy⟩:=qs.two_of
    cases (show w=.int k from qw)
    dsimp only[XZ] at K
    cases hi:h[i]? with
    | none=>rw[hi] at K;exact Zf K
    | some ob =>
     rw[hi] at K
     cases ob with
     | lst zs =>
      dsimp only at K
      split at K
      ·rename_i hk
       obtain⟨ws,e1,r1⟩:=N.at hi ha
       have hl:=r1.length
       have sb:100000<=sizeLine:=by decide
       exact Jua (Jp3 (X:=X.wish E)) N.inv rx rv ⟨a,ws,k,w2,rfl,rfl,e1,hk.1,by omega,by omega,by omega,finW (ys:=zs.take k.toNat++y::zs.drop k.toNat) N K ha e1 ((r1.take _).append ⟨_,_,rfl,qy,r1.drop _⟩) rfl⟩
      ·exact Zf K
     | _=>exact Zf K
   | _=>exact Zf K
  | [],K=>exact Zf K
  | [y],K=>cases y<;>exact Zf K
  | y::_::_::_,K=>cases y<;>exact Zf K
 | _=>match xs,K with
  | [],K=>exact Zf K
  | [y],K=>cases y<;>exact Zf K
  | [y,_],K=>cases y<;>exact Zf K
  | y::_::_::_,K=>cases y<;>exact Zf K
end
def JT:Ty->Option Bool
 | .lst=>Za Zh|.ins c=>if c=="Work" then Za Zc else Ze|.exc _=>Ze|_=>Za Zc
theorem Jno {ce:CeT}{K:W.Frag}(h:∀C,ce "Work"=Za C->ClsI K C/\W.kitOne K (.ref C) (.type "list")=Za Zc):IsOk ce K (.type "list") JT:=by
 have O:IsOk ce K (.type "list") JH:=Jka
 refine⟨O.non,O.bl,O.int,O.str,O.lst,O.tup,O.dct,λ k C b e hk=>?_,(λ k C b e=>by cases e)⟩
 unfold JT at e
 dsimp only at e
 split at e
 ·rename_i q
  cases beq_iff_eq.mp q
  cases e
  exact h C hk
 ·cases e
def ExC (h:Zak)(C:Zi):Prop:=∃nm q N bs bm hdct sn sub ab col dd k0 k1 k2 k3 k5 newId,h.get? C=Za (excClassObj nm q C N bs bm hdct sn sub ab col dd k0 k1 k2 k3 k5 newId)/\bm.contains (.type "BaseException")=Zh
section
variable {ce:CeT}{X:Cx}{x:Expr}{m:E1}{pos:Pos}
end
section
variable {prog:ZG}{w:ZX}{A:ZO}{E:QvT}{hp:Zak}{ge:Array Ze2}{dr:Drawn}{tk:Nat}{ox:OsState}
variable {nm qn:Str}{C Na:Zi}{bs bm bmB:List Zg}{hdct:Bool}{sn:List Str}{sub:List Zg}{ab:Bool}{col:Option Bool}{dd:Option Zi}{k0 k1 k2 k3 k5:Option Zg}{B Bn newId nid initId inN:String}{bmN:List Zg}
end
theorem Jyn {K:W.Frag}{h:Zak}{N:Zi}{m:Str->Option Zg}{x:Str}{v:Zg}(I:K.In h)(G:h.Ns N m)(e:W.nsIn K N x=Za (Za v)):m x=Za v:=by
 obtain⟨o,es,ep,go,gd,_,gf⟩:=G
 unfold W.nsIn at e
 split at e
 ·rename_i q
  have z:=I _ _ q
  rw[go] at z
  cases z
  cases gd
  split at e
  ·rename_i en he
   cases e
   rw[<- gf]
   unfold nsFind findBy
   rw[<- Array.find?_toList,he]
   rfl
  ·split at e<;>cases e
 ·cases e
def Y1 (K:W.Frag)(C f:Zi):Bool:=match K.lookup C with
 | some ⟨.type "type",_,.cls cd,sl⟩=>(match cd.mro,sl.toList with
  | .ref C'::bm,[_,_,_,_,Za (.builtin n),_]=>C'==C&&n=="ValueError.__new__"&&!cd.hasDel&&W.tailIn K bmV bm&&W.nsOkIn K cd.ns&&W.nsIn K cd.ns "__init__"==Za (Za (.ref f))&&(match K.lookup f with|some o=>o.cls==.type "function"|none=>Zc)
  | _,_=>Zc)
 | _=>Zc
theorem Y1.obj {K:W.Frag}{C f:Zi}{h:Zak}(x:Y1 K C f=Zh)(I:K.In h):∃bm N nm q bs hdct sn sub ab col dd k0 k1 k2 k3 k5 mN oI,h.get? C=Za (excClassObj nm q C N bs bm hdct sn sub ab col dd k0 k1 k2 k3 k5 "ValueError.__new__")/\h.Ns N mN/\mN "__init__"=Za (.ref f)/\OwnTail h bmV bm/\h.get? f=Za oI/\oI.cls=.type "function":=by
 unfold Y1 at x
 split at x
 case h_2=>cases x
 rename_i dd cd sl ho
 split at x
 case h_2=>cases x
 rename_i D bm k0 k1 k2 k3 n k5 em es
 simp only[Zl,beq_iff_eq,Zaf] at x
 obtain⟨⟨⟨⟨⟨⟨e1,e2⟩,e3⟩,e4⟩,e5⟩,e6⟩,e7⟩:=x
 subst e1 e2
 obtain⟨nm,bs,mro,N,qn,hd,sn,sub,ab,col,del⟩:=cd
 have em:mro=.ref D::bm:=em
 have e3:del=Zc:=e3
 subst em e3
 have es:sl=#[k0,k1,k2,k3,Za (.builtin "ValueError.__new__"),k5]:=by
  rw[<- ZcL (xs:=sl),es]
 subst es
 cases lk:K.lookup f with
 | none=>rw[lk] at e7;cases e7
 | some o =>
  rw[lk] at e7
  exact⟨bm,N,nm,qn,bs,hd,sn,sub,ab,col,dd,k0,k1,k2,k3,k5,_,o,I _ _ ho,.of_isNs (W.isNs_of_in I e5),Jyn I (.of_isNs (W.isNs_of_in I e5)) e6,W.tail_of_in I e4,I _ _ lk,beq_iff_eq.mp e7⟩
section
variable {X:Cx}{pj:PnT}{σ:L2.St}{H:Hp}{s:Zj}{k:Nat}{f C:Zi}{fd:Zax}{ps:List Str}{sp:Sp}{dvs:List V}{ds:List Zg}{E:XK}{Q:VK}{us:List Zg}{vs:List V}{W:QvT}
end
section
variable {ce:CeT}{X:Cx}{k:Nat}{fa C:Zi}{fd:Zax}{ps:List Str}{f:List IV->IH->Res IV}{dvs:List IV}{ds:List Zg}{x c:Str}{p pos:Pos}{e:Expr}{es:List Expr}{ma:A1}
end
section
variable {X:Cx}{pj:PnT}{σ:L2.St}{H:Hp}{s:Zj}{f C e:Zi}{tv:Zg}{d:Option Zi}{us:List Zg}
end
structure BasX (K:W.Frag)(D:Zi):Prop where
 sp:W.specialIn K (.ref D) "__getattribute__"=Za (Za (.builtin "type.__getattribute__"))
 rd:W.readsIn K D (.type "type")=Zh
 fc:W.findCls K (.ref D) (.type "type") "__init__"=Za (.val (.builtin "ValueError.__init__"))
section
variable {ce:CeT}{X:Cx}{D:Zi}{x:Str}{p pos apos:Pos}{e:Expr}{es:List Expr}{ma:A1}{pl:Sem Bool}
end
def Jth:List Zg->Bool
 | .ref _::r=>Jth r
 | l=>l==bmV
section
variable {prog:ZG}{w:ZX}{A:ZO}{K:W.Frag}{C x:Zi}{s:Zj}{R:Zdy->Zj->Prop}{ox:Obj}{name:Str}{v:Zg}
structure StoX (K:W.Frag)(C:Zi)(name:Str):Prop where
 line:(W.clsIn K C).any (λ cd=>Jth cd.mro&&cd.hasDict)=Zh
 free:W.takerIn K C name=Za Ze
 way:W.findIn K (.ref C) "__setattr__"=Za (Za (.builtin "object.__setattr__"))
end
section
variable {prog:ZG}{w:ZX}{A:ZO}{K:W.Frag}{C x:Zi}{s:Zj}{ox:Obj}{name:Str}{v:Zg}
end
section
variable {ce:CeT}{X:Cx}{o value:Expr}{mo mv:E1}{pos pos':Pos}{fl:Str}
end
end L3
namespace L3
open PySem PySem.Spec PySem.Calls PyProof.Rows L2
section
variable {prog:ZG}{w:ZX}{A:ZO}{E:QvT}{s:Zj}{K:W.Frag}{x D:Zi}{ox od:Obj}{f:Str}{v:Zg}
theorem XV.nb {ι:List Zi}{y:IV}{u:Zg}(h:XV ι y u):∀id,u≠.builtin id:=by
 cases y with
 | int i=>obtain⟨t,rfl⟩:=h;exact nofun
 | ref j=>obtain⟨b,rfl,_⟩:=h;exact nofun
 | _=>cases h
end
section
variable {ce:CeT}{X:Cx}{o:Expr}{mo:E1}{pos:Pos}{fl:Str}
end
section
variable {ce:CeT}{X:Cx}
end
end L3
namespace L3
open PySem PySem.Spec PyProof.Rows L2
def PEw (ce:CeT)(X:Cx)(a:Zi)(n:Nat)(e:Expr)(m:E1):Prop :=
 ∀(pj:PnT)(s:Zj)(σ:L2.St)(H:Hp)(ι:List Zi)(σi:ISt)(h:IH)(Q:QvT)(E:QvT),Now ce (Jl X a) pj ι σi h σ H s->ι[n]?=Za a ->
  Kont ce (Jl X a) RU pj ι σi σ H (m σi h) Q E->Zz (ZE X.prog X.w) (Jl X a).A (ZaV e X.env) Q E s
theorem PEi.w {ce:CeT}{X:Cx}{a:Zi}{n:Nat}{e:Expr}{m:E1}(p:PEi ce (Jl X a) e m):PEw ce X a n e m:=λ pj s σ H ι σi h Q E N _ K=>p pj s σ H ι σi h Q E N K
section
variable {ce:CeT}{X:Cx}
end
section
variable {α β γ δ:Type}{ce:CeT}{X:Cx}{R:REL α β}{R':REL γ δ}{a:Zi}{n:Nat}
def PXw (ce:CeT)(X:Cx)(a:Zi)(n:Nat)(R:REL α β)(t:Sem β)(m:ISt->IH->Res α):Prop :=
 ∀(pj:PnT)(s:Zj)(σ:L2.St)(H:Hp)(ι:List Zi)(σi:ISt)(h:IH)(Q:β->Zj->Prop)(E:QvT),Now ce X pj ι σi h σ H s->ι[n]?=Za a->Kont ce X R pj ι σi σ H (m σi h) Q E->Zz (ZE X.prog X.w) X.A t Q E s
def PSw (ce:CeT)(X:Cx)(a:Zi)(n:Nat)(t:Sem Flow)(m:S1):Prop :=
 ∀(pj:PnT)(s:Zj)(σ:L2.St)(H:Hp)(ι:List Zi)(σi:ISt)(h:IH)(Q:Flow->Zj->Prop)(E:QvT),Now ce X pj ι σi h σ H s->ι[n]?=Za a->JV ce X pj ι H (m σi h) Q E->Zz (ZE X.prog X.w) X.A t Q E s
theorem PX.w {t:Sem β}{m:ISt->IH->Res α}(p:PX ce X R t m):PXw ce X a n R t m:=λ pj s σ H ι σi h Q E N _ K=>p pj s σ H ι σi h Q E N K
theorem PS2.w {l:List Zbu}{m:S1}(p:PS2 ce X l m):PSw ce X a n (execs l X.env) m:=λ pj s σ H ι σi h Q E N _ K=>p pj s σ H ι σi h Q E N K
theorem PS1.w {l:Zbu}{m:S1}(p:PS1 ce X l m):PSw ce X a n (exec l X.env) m:=λ pj s σ H ι σi h Q E N _ K=>p pj s σ H ι σi h Q E N K
theorem PXw.run {t:Sem β}{m:ISt->IH->Res α}(p:PXw ce X a n R t m){pj:PnT}{ι:List Zi}{σi:ISt}{σ:L2.St}{H:Hp}{s:Zj}{h:IH}(N:Now ce X pj ι σi h σ H s)(hi:ι[n]?=Za a){g:α->IH->Res γ}{Q:δ->Zj->Prop}{E:QvT}{Q1:β->Zj->Prop}
  (K:Kont ce X R' pj ι σi σ H ((m σi h).bind g) Q E)
  (step:∀x h1 u s1 H1 ι1,Now ce X pj ι1 σi h1 σ H1 s1->ι1[n]?=Za a->R X.K ι1 H1 x u->Kont ce X R' pj ι1 σi σ H1 (g x h1) Q E->Q1 u s1):Zz (ZE X.prog X.w) X.A t Q1 E s:=by
 refine p pj s σ H ι σi h Q1 E N hi ?_
 cases e:m σi h with
 | stuck=>rw[e] at K;exact K
 | exc _ h'=>rw[e] at K;exact K
 | ok v h' =>
  rw[e] at K
  exact λ u s' H' ι' N' n' r=>step v h' u s' H' ι' N' (n'.at hi) r (Kont.mono (r:=g v h') K n')
variable {b c:Expr}{pos:Pos}{rest:List Expr}{ta tb:T1}{mb:E1}
end
section
variable {ce:CeT}{X:Cx}
section
variable {A:ZO}{R:Zdy->Zj->Prop}{Q:QvT}{E:QvT}{pj:PnT}{σi:ISt}{σ:L2.St}{G:Hp->Prop}{fq:Zi}{mk:IV->IH->Res IV}{gt:IV->IV->Option Bool}{i n:Nat}{l I C:Zi}{kw:List (Str×Zg)}
end
end
abbrev ivl (l:List (Int×Tok)):List Zg:=l.map λ p=>.int p.1 p.2
section
open PySem.AutoSeq1 (wpAny_loadPart')
open PySem.MeetsSeq PySem.MeetsSeq2 PySem.MeetsSeq3 PySem.SeqRoads2
end
section
variable {ce:CeT}{X:Cx}
end
def Jog (h:Zak)(wrs:List Zi)(C:Zi)(k:Nat)(v:Zg)(ns:List Int):Prop:=∃a l,v=.ref a/\a∉wrs/\a≠C/\IsTup h a (ivl l).toArray/\l.map (·.1)=ns/\l.length=k
theorem Jog.keeps {h h':Zak}{wrs:List Zi}{C:Zi}{k:Nat}{v:Zg}{ns:List Int}(t:Jog h wrs C k v ns)(q:∀a o,a∉wrs->a≠C->h.get? a=Za o->h'.get? a=Za o):Jog h' wrs C k v ns:=by
 obtain⟨a,l,e,n1,n2,⟨o,ho,r⟩,e2,e3⟩:=t
 exact⟨a,l,e,n1,n2,⟨o,q a o n1 n2 ho,r⟩,e2,e3⟩
section
variable {pr:ZG}{wd:ZX}{B:ZO}{R:Zdy->Zj->Prop}{it:Zi}{fps wrs:List Zi}{n:Nat}{St:Nat->Zak->Prop}
end
section
variable {pr:ZG}{wd:ZX}{B:ZO}{E:QvT}{z:Zj}{l:Zi}{us:List Zg}{k:Nat}{f:Nat->List Int}{Q:QvT}
end
section
variable {ce:CeT}{X:Cx}
end
end L3
namespace L3
open PySem PySem.Spec PyProof.Rows L2 PySem.W
def kRun {α:Type}(lt:Nat->Nat->Bool):KasT α->α
 | .ret a=>a
 | .ask i j k=>kRun lt (k (lt i j))
def Asks {α:Type}(n:Nat)(P:α->Prop):KasT α->Prop
 | .ret a=>P a
 | .ask i j k=>i<n/\j<n/\∀b,Asks n P (k b)
theorem Asks.mono {α:Type}{n:Nat}{P P':α->Prop}(f:∀a,P a->P' a):∀{t:KasT α},Asks n P t->Asks n P' t
 | .ret _,h=>f _ h
 | .ask _ _ _,⟨h1,h2,h3⟩=>⟨h1,h2,λ b=>Asks.mono f (h3 b)⟩
theorem Asks.bind {α β:Type}{n:Nat}{P:α->Prop}{P':β->Prop}{f:α->KasT β}(hf:∀a,P a->Asks n P' (f a)):∀{t:KasT α},Asks n P t->Asks n P' (t.bind f)
 | .ret _,h=>hf _ h
 | .ask _ _ _,⟨h1,h2,h3⟩=>⟨h1,h2,λ b=>Asks.bind hf (h3 b)⟩
theorem Asks.run {α:Type}{n:Nat}{P:α->Prop}{lt:Nat->Nat->Bool}:∀{t:KasT α},Asks n P t->P (kRun lt t)
 | .ret _,h=>h
 | .ask i j k,⟨_,_,h⟩=>Asks.run (t:=k (lt i j)) (h (lt i j))
def Bd (n:Nat)(p:Array Nat):Prop:=0<n/\p.toList.Perm (ZaO n)
theorem Bd.at {n:Nat}{p:Array Nat}(h:Bd n p)(i:Nat):p.getD i 0<n:=by
 by_cases hi:i<p.size
 ·rw[ZcX,Zdq hi]
  have:p[i]∈p.toList:=by simp
  exact ZbT.mp (h.2.mem_iff.mp this)
 ·rw[ZcX,Array.getElem?_eq_none (by omega)]
  exact h.1
section
variable {prog:ZG}{w:ZX}{A:ZO}{E:QvT}{s:Zj}{b:Bool}{Q:Bool->Zj->Prop}
end
section
variable {prog:ZG}{w:ZX}{A:ZO}{E:QvT}{s:Zj}
end
section
variable {ce:CeT}{X:Cx}
end
section
variable {kf:Nat->Int}{p:Array Nat}{n i j:Nat}
def kAt (kf:Nat->Int)(p:Array Nat)(i:Nat):Int:=kf (p.getD i 0)
def Ris (kf:Nat->Int)(p:Array Nat)(n:Nat):Prop:=∀i j,i<=j->j<n->kAt kf p i<=kAt kf p j
def Fal (kf:Nat->Int)(p:Array Nat)(n:Nat):Prop:=∀i j,i<=j->j<n->kAt kf p j<=kAt kf p i
theorem Ris.succ (h:Ris kf p n)(h1:1<=n)(q:kAt kf p (n-1)<=kAt kf p n):Ris kf p (n+1):=λ i j hij hj=>by
 by_cases e:j<n
 ·exact h i j hij e
 ·obtain rfl:j=n:=by omega
  by_cases e2:i=j
  ·subst e2;exact Int.le_refl _
  ·exact Int.le_trans (h i (j-1) (by omega) (by omega)) q
theorem Fal.succ (h:Fal kf p n)(h1:1<=n)(q:kAt kf p n<=kAt kf p (n-1)):Fal kf p (n+1):=λ i j hij hj=>by
 by_cases e:j<n
 ·exact h i j hij e
 ·obtain rfl:j=n:=by omega
  by_cases e2:i=j
  ·subst e2;exact Int.le_refl _
  ·exact Int.le_trans q (h i (j-1) (by omega) (by omega))
end
section
variable {ce:CeT}{X:Cx}
section
variable {A:ZO}{Q:QvT}{E:QvT}{P:PySem.Fin->Zj->Prop}{pj:PnT}{σi:ISt}{σ:L2.St}{G:Hp->Prop}{fq D kS:Zi}{mk:IV->IH->Res IV}{ys:List IV}{ws:List V}{its:List Zg}{ks:List Int}{e e1:Nat}{H:Hp}{ι:List Zi}{h:IH}{s:Zj}
end
end
section
variable {pr:ZG}{wd:ZX}{A:ZO}{E:QvT}{s:Zj}
end
section
variable {ce:CeT}{X:Cx}
end
end L3
namespace L3
open PySem PySem.Spec PyProof.Rows L2
def evn {α:Type}:List α->List α
 | a::_::l=>a::evn l
 | l=>l
theorem RVs.evn {K:W.Frag}{ι:List Zi}{H:Hp}:∀{xs:List IV}{vs:List V},RVs K ι H xs vs->RVs K ι H (L3.evn xs) (L3.evn vs)
 | [],_,h=>by
  cases (show _=[] from h)
  exact rfl
 | [_],_,h=>by
  obtain⟨v,r,rfl,q,e⟩:=h
  cases (show r=[] from e)
  exact⟨v,[],rfl,q,rfl⟩
 | _::_::_,_,h=>by
  obtain⟨v,r,rfl,q,u,r',rfl,_,t⟩:=h
  exact⟨v,_,rfl,q,RVs.evn t⟩
section
variable {ce:CeT}{X:Cx}
def evnI:IV->IH->Res IV
 | .ref i,h=>match h[i]? with
  | some (.lst xs)=>.ok (.ref h.length) (h++[.lst (evn xs)])
  | _=>.stuck
 | _,_=>.stuck
def J0c (x c:IV)(h:IH):Res IV:=match c with
 | .ref i=>(match h[i]? with
  | some (.dct kvs)=>(match keyI x with
   | some k=>.ok (.bl (!(valI kvs k).isSome)) h
   | none=>.stuck)
  | _=>.stuck)
 | _=>.stuck
end
end L3
namespace L4
open PySem PySem.Spec PyProof.Rows L2 L3
noncomputable def stE:E1:=λ _ _=>.stuck
noncomputable def stT:T1:=λ _ _=>.stuck
noncomputable def stO:O1:=λ _ _=>.stuck
noncomputable def stI:I1:=λ _ _=>.stuck
noncomputable def stG:G1:=λ _ _ _=>.stuck
noncomputable def stS:S1:=λ _ _=>.stuck
structure Fn where
 np:Nat
 dvs:List IV
 run:List IV->IH->Res IV
structure Pg where
 fn:Str->Option Fn
 cls:Str->Option Fn
 meth:Str->Str->Option Fn
 con:Str->Option IV
 isa:Str->Option (Str->Bool)
 fld:Str->Bool
 free:Str->Bool
 tabs:Str->Option Nat
 rz:Str->Bool
 bas:Str->Bool
 xi:Str->Option (Str->Option Bool)
 wr:Str->Option (List IV->IH->Res IV)
 ne:Str->Bool
 xo:Str->Option Fn
 xf:Str->Str->Bool
 xb:Str->Bool
 xc:Bool
structure Sc where
 N:List Str
 names:List (Str×ZaX)
 own:Bool
 q:Str
noncomputable def ixOf (x:Str):List Str->Option Nat
 | []=>Ze
 | y::r=>if y==x then Za 0 else(ixOf x r).map (· + 1)
noncomputable def Sc.vis (S:Sc)(x:Str):Option Nat :=
 match S.names.lookup x with
 | some .local=>if x=="__debug__"||x=="__classdict__" then Ze else ixOf x S.N
 | some .cell=>if x=="__debug__"||x=="__classdict__" then Ze else ixOf x S.N
 | some .free=>if x=="__debug__"||x=="__classdict__" then Ze else ixOf x S.N
 | _=>Ze
noncomputable def Sc.gl (S:Sc)(x:Str):Bool:=S.names.lookup x==Za .globalImplicit&&!(x=="__debug__")&&!(x=="__name__")
noncomputable def Sc.sto (S:Sc)(x:Str):Option Nat :=
 match S.names.lookup x with
 | some .local=>ixOf x S.N
 | some .cell=>if S.own then ixOf x S.N else Ze
 | _=>Ze
def evC:Const->E1
 | .int i=>eC (.int i)
 | .bool b=>eC (.bl b)
 | .none=>eC .non
 | .str x=>eC (.str x)
 | _=>stE
def binI:Operator->IV->IV->IH->Res IV
 | .Add=>Jf
 | .Sub=>YY
 | .Mult=>Vt
 | .FloorDiv=>J8
 | .Mod=>Ju
 | .Pow=>Vu
 | _=>λ _ _ _=>.stuck
def cmpI:CmpOp->IV->IV->IH->Res IV
 | .Lt=>cLt
 | .LtE=>cLe
 | .Gt=>cGt
 | .GtE=>cGe
 | .Eq=>cEq
 | .NotEq=>cNe
 | .Is=>cIs
 | .IsNot=>Jos
 | .In=>cIn
 | .NotIn=>Jot
def unI:UnaryOp->IV->IH->Res IV
 | .Not=>X8 tru
 | .USub=>Jsa
 | _=>λ _ _=>.stuck
def Jrh:List E1->E1
 | []=>stE
 | [a]=>a
 | a::b::r=>eAnd a (Jrh (b::r)) tru
def eOrs:List E1->E1
 | []=>stE
 | [a]=>a
 | a::b::r=>eOr a (eOrs (b::r)) tru
def Jsx:List T1->T1
 | []=>stT
 | [a]=>a
 | a::b::r=>Jsw a (Jsx (b::r))
def tOrs:List T1->T1
 | []=>stT
 | [a]=>a
 | a::b::r=>tOrI a (tOrs (b::r))
def aAll:List E1->A1
 | []=>Jd
 | a::r=>Ja a (aAll r)
def Js:Expr->Bool
 | .Starred .. =>Zc
 | _=>Zh
def V8:Expr->Bool
 | .Set .. =>Zc
 | _=>Zh
def Ye:Expr->Bool
 | .Slice .. =>Zc
 | _=>Zh
def Vs:Expr->Bool
 | .ListComp .. =>Zc
 | .SetComp .. =>Zc
 | .DictComp .. =>Zc
 | _=>Zh
def VR:Expr->Bool
 | .Call (.Name ..) [] [] _=>Zc
 | _=>Zh
def isP2:Expr->Bool
 | .Constant (.int 2) _ _=>Zh
 | _=>Zc
def Fn.fill (f:Fn)(n:Nat):Option (List IV):=if n<=f.np/\f.np<=n+f.dvs.length then Za (f.dvs.drop (f.dvs.length-(f.np-n))) else Ze
def Jmm (f:Fn)(n:Nat)(a:A1):E1:=match f.fill n with
 | some d=>Jm f.run d a
 | none=>stE
def Jmn (c:Str)(f:Fn)(n:Nat)(a:A1):E1:=match f.fill (n+1) with
 | some d=>Vb c f.run d a
 | none=>stE
def bltF (x:Str):List IV->IH->Res IV :=
 if x=="len" then on1 lenI else if x=="all" then on1 allI else if x=="sum" then on1 sumI else λ _ _=>.stuck
def bltT (x:Str):List IV->IH->Res IV :=
 if x=="list" then on1 VO else if x=="tuple" then on1 XE else if x=="int" then on1 Q8 else if x=="str" then on1 strI else λ _ _=>.stuck
def Jpk (x:Str):Bool:=x=="len"||x=="all"||x=="sum"
def Jpl (x:Str):Bool:=x=="list"||x=="tuple"||x=="int"||x=="str"
def Jrb (P:Pg)(x:Str):Option (Ty->Option Bool) :=
 match P.isa x with
 | some g=>Za λ t=>match t with|.ins c=>Za (g c)|.exc _=>Ze|_=>Za Zc
 | none=>if P.free x then(if x=="int" then Za JM else if x=="bool" then Za JL else if x=="str" then Za J6 else if x=="list" then Za (if P.ne "Work" then JT else JH) else if x=="tuple" then Za JP else Ze) else Ze
def Jup (o:Option (Ty->Option Bool))(e:E1):E1:=match o with
 | some ans=>eIsi ans e
 | none=>stE
def bmOf (T:String)(m:Str)(n:Nat):Option (IV->List IV->IH->Res IV) :=
 if T=="list"&&m=="append"&&n==1 then Za X1 else if T=="list"&&m=="insert"&&n==2 then Za XZ else if T=="str"&&m=="join"&&n==1 then Za Xf else if T=="str"&&m=="upper"&&n==0 then Za Yp else if T=="str"&&m=="split"&&n==1 then Za Ni else if T=="str"&&m=="partition"&&n==1 then Za Nb else if T=="str"&&m=="startswith"&&n==1 then Za Jmf else Ze
def YJ (P:Pg)(m:Str)(n:Nat):Str->Option ((List IV->IH->Res IV)×List IV):=λ c=>match P.meth c m with
 | some f=>(match f.fill (n+1) with
  | some d=>Za (f.run,d)
  | none=>Ze)
 | none=>Ze
def Ya (v:IV)(h:IH):Bool:=match v with
 | .ref i=>(match h[i]? with
  | some (.ins ..)=>Zh
  | _=>Zc)
 | _=>Zc
def tyS (v:IV)(h:IH):String:=match v with
 | .str _=>"str"
 | .rol _=>"list"
 | .ref i=>(match h[i]? with
  | some (.lst _)=>"list"
  | some (.dct _)=>"dict"
  | _=>"")
 | _=>""
def Jp (P:Pg)(m:Str)(n:Nat)(o:E1)(a:A1):E1:=λ σ h=>match o σ h with
 | .ok v h1=>if Ya v h1 then Jri m (YJ P m n) o a σ h else(match bmOf (tyS v h1) m n with
  | some g=>eBm (tyS v h1) g o a σ h
  | none=>.stuck)
 | _=>.stuck
def Jxp (n:Nat)(a:A1):I1:=match n with
 | 1=>iRg V5 a
 | 2=>stI
 | _=>stI
def gAll:List G1->List IV->ISt->IH->SRes
 | []=>gN
 | g::r=>gC g (gAll r)
def Qe (sc:Zbw):List Str:=sc.names.filterMap λ x=>if x.2==.local&&!(x.1==(".0":Str)) then Za x.1 else Ze
def QD (sc:Zbw):List Str:=sc.names.filterMap λ x=>if x.2==.free then Za x.1 else Ze
def jsOf (S:Sc)(sc:Zbw):List Nat:=(QD sc).map λ x=>(ixOf x S.N).getD 0
def Sc.comp (S:Sc)(sc:Zbw):Sc where
 N:=Qe sc++QD sc
 names:=sc.names.map λ x=>if x.2==.free&&S.names.lookup x.1==Za .cell then(x.1,.cell) else x
 own:=Zc
 q:=""
def Sc.fake (S:Sc):Zbw:={ kind:=.function,names:=S.names,isGenerator:=Zc,isCoroutine:=Zc }
def Jtg:Expr->Bool
 | .Name x _=>x=="last_come"||x=="tops"||x=="last"||x=="_law_last"||x=="_law_lows_here"
 | _=>Zc
def ixD (_:Expr):IV->IV->IH->Res IV:=Jg
def txtB:Expr->Bool
 | .Name x _=>x=="_law_word_here"||x=="_law_name"
 | .Subscript .. =>Zh
 | _=>Zc
def slD (a:Expr):IV->Option Int->Option Int->IH->Res IV:=if txtB a then slT else slI
def J0i:Expr->Bool
 | .Name x _=>x=="FIGURES"
 | _=>Zc
def cmpD (ne:Str->Bool)(o:CmpOp)(b:Expr):IV->IV->IH->Res IV:=match o with
 | .In=>if Jtg b then cInD else if J0i b then cInT else cIn
 | o=>cmpI o
def gSbF (a:Expr)(o i:E1):G1:=if Jtg a then gSbD o i else gSb o i
def Jt4:Expr->Option Expr
 | .Call (.Name y _) [e] [] _=>if y=="set"&&Js e then Za e else Ze
 | _=>Ze
def Jtz:Expr->Option Expr
 | .Call (.Name y _) [e] [] _=>if y=="range"&&Js e then Za e else Ze
 | _=>Ze
def Jiv (P:Pg)(S:Sc)(x:Str)(f:Expr->E1):List Expr->E1
 | [a,b]=>if x=="max" then eCB (on2 maxI) (Ja (f a) (Ja (f b) Jd)) else if x=="min" then stE else(match b with
  | .Name y _=>if x=="isinstance"&&S.gl y then Jup (Jrb P y) (f a) else stE
  | _=>stE)
 | [a]=>(match (if x=="len"&&S.gl "set"&&P.free "set" then Jt4 a else Ze) with
  | some e=>YK (Ja (f e) Jd)
  | none=>match (if x=="list"&&S.gl "range"&&P.free "range" then Jtz a else Ze) with
  | some _=>stE
  | none=>if Jpk x then eCB (bltF x) (Ja (f a) Jd) else if Jpl x then eCB (bltT x) (Ja (f a) Jd) else stE)
 | _=>stE
def Jpv (P:Pg)(S:Sc)(f:Sc->Expr->E1)(x:Str)(args:List Expr)(kws:List ZcV):E1:=match args,kws with
 | [a],[⟨Za k,d,_⟩]=>if x=="max"&&k=="default"&&S.gl x&&P.free x&&Js a then YL (Ja (f S a) Jd) (f S d) else stE
 | _,_=>stE
def YI (ifs:List Expr)(f:Expr->T1)(m:T1->E1):E1:=match ifs with
 | []=>m JB
 | [c]=>m (f c)
 | _=>stE
section
mutual
def ev (P:Pg):Nat->Sc->Expr->E1
 | 0,_,_=>stE
 | n+1,S,e=>match e with
  | .Constant c _ _=>evC c
  | .Name x _=>(match S.vis x with
   | some i=>Jb i
   | none=>if S.gl x then(match P.con x with
    | some v=>eC v
    | none=>stE) else stE)
  | .BinOp a op b _=>Jc (binI op) (ev P n S a) (ev P n S b)
  | .UnaryOp op a _=>eUn (unI op) (ev P n S a)
  | .BoolOp .And vs _=>Jrh (vs.map (ev P n S))
  | .BoolOp .Or vs _=>eOrs (vs.map (ev P n S))
  | .IfExp t a b _=>eIf (evT P n S t) (ev P n S a) (ev P n S b)
  | .Compare a [o] [b] _=>if Zbc o b then stE else Jc (cmpD P.ne o b) (ev P n S a) (ev P n S b)
  | .Compare a [o,o'] [b,c] _=>if ZdA [o,o'] [b,c] then stE else Va (cmpI o) (cmpI o') (ev P n S a) (ev P n S b) (ev P n S c)
  | .Tuple es _ _=>if es.all Js then JE (aAll (es.map (ev P n S))) else stE
  | .List es _=>if es.all Js then Jv (aAll (es.map (ev P n S))) else stE
  | .Subscript a (.Slice lo hi Ze _) _=>eSl (slD a) (ev P n S a) (evO P n S lo) (evO P n S hi)
  | .Subscript a i _=>if Ye i then Jc (ixD a) (ev P n S a) (ev P n S i) else stE
  | .Attribute o f _=>if VR o&&P.fld f then eFld f (ev P n S o) else stE
  | .Call (.Name x _) args [] _=>if S.gl x&&args.all Js then Jo6 P n S x args else stE
  | .Call (.Name x _) args (kw::kws) _=>Jpv P S (λ S e=>ev P n S e) x args (kw::kws)
  | .Call (.Attribute o m ap) args [] p=>if args.all Js&&VR o&&(ap.endLine==p.line)&&decide (args.length<30) then Jp P m args.length (ev P n S o) (aAll (args.map (ev P n S))) else stE
  | .ListComp elt [⟨tg,iter,ifs,as⟩] sc _ =>
   if as=0/\V8 iter=Zh/\Qw S.N (Qe sc) (QD sc) (jsOf S sc) S.fake sc=Zh then
    YI ifs (evT P n (S.comp sc)) λ mt=>J7 (evI P n S tg iter) (Qe sc).length (jsOf S sc) (tgt P n (S.comp sc) tg) mt (ev P n (S.comp sc) elt)
   else stE
  | _=>stE
def evT (P:Pg):Nat->Sc->Expr->T1
 | 0,_,_=>stT
 | n+1,S,e=>match e with
  | .UnaryOp .Not a _=>JA (evT P n S a)
  | .BoolOp .And vs _=>Jsx (vs.map (evT P n S))
  | .BoolOp .Or vs _=>tOrs (vs.map (evT P n S))
  | .IfExp .. =>stT
  | .Compare a [o] [b] _=>if Zbc o b then stT else Jj asB (Jc (cmpD P.ne o b) (ev P n S a) (ev P n S b))
  | .Compare a [o,o'] [b,c] _=>if ZdA [o,o'] [b,c] then stT else Jj asB (Va (cmpI o) (cmpI o') (ev P n S a) (ev P n S b) (ev P n S c))
  | .Compare .. =>stT
  | e=>Jj tru (ev P n S e)
def evO (P:Pg):Nat->Sc->Option Expr->O1
 | 0,_,_=>stO
 | _+1,_,Ze=>Qr
 | n+1,S,Za e=>JX (ev P n S e)
def Jo6 (P:Pg):Nat->Sc->Str->List Expr->E1
 | 0,_,_,_=>stE
 | n+1,S,x,args=>match P.fn x with
  | some f=>Jmm f args.length (aAll (args.map (ev P n S)))
  | none=>match P.cls x with
   | some f=>Jmn x f args.length (aAll (args.map (ev P n S)))
   | none=>if P.free x then Jiv P S x (ev P n S) args else stE
def evI (P:Pg):Nat->Sc->Expr->Expr->I1
 | 0,_,_,_=>stI
 | n+1,S,tg,e=>match e with
  | .Call (.Name x _) args [] _ =>
   if S.gl x&&P.free x&&args.all Js&&(x=="range") then Jxp args.length (aAll (args.map (ev P n S)))
   else if S.gl x&&P.free x&&args.all Js&&(x=="enumerate") then(match tg,args with
    | .Tuple ..,[a]=>iRg V4 (Ja (ev P n S a) Jd)
    | _,_=>stI)
   else iAny (ev P n S e)
  | e=>iAny (ev P n S e)
def tgt (P:Pg):Nat->Sc->Expr->G1
 | 0,_,_=>stG
 | n+1,S,e=>match e with
  | .Name x _=>(match S.sto x with
   | some i=>gNm i
   | none=>stG)
  | .Tuple es _ _=>if es.all Js then gTp es.length (gAll (es.map (tgt P n S))) else stG
  | .Subscript o i _=>if Ye i then gSbF o (ev P n S o) (ev P n S i) else stG
  | _=>stG
end
end
def Juc (t:T1)(b:S1):Nat->S1
 | 0,_,_=>.stuck
 | n+1,σ,h=>match t σ h with
  | .ok c h1=>if c then(match b σ h1 with
   | .next σ2 h2=>Juc t b n σ2 h2
   | .cont σ2 h2=>Juc t b n σ2 h2
   | .brk σ2 h2=>.next σ2 h2
   | .ret v h2=>.ret v h2
   | .exc m σ2 h2=>(match h2[m]? with
    | some (.exc _ _)=>.exc m σ2 h2
    | _=>.stuck)
   | _=>.stuck) else .next σ h1
  | _=>.stuck
def sAll:List S1->S1
 | []=>Jy
 | [a]=>a
 | a::b::r=>Je a (sAll (b::r))
def Jvo:Expr->Bool
 | .Tuple .. =>Zc
 | _=>Zh
def Jr0:Expr->Bool
 | .Tuple .. =>Zh
 | _=>Zc
def isLC:Expr->Bool
 | .ListComp .. =>Zh
 | _=>Zc
def Jrz:Expr->Bool
 | .Subscript .. =>Zh
 | _=>Zc
abbrev Xi:=Str->Option (Str->Option Bool)
def QC (g:Str->Option Bool):Ty->Option Bool
 | .exc c=>g c
 | _=>Ze
section
def Juw (S:Sc)(xi:Xi)(fr:Str->Bool)(f:Expr)(as:List Expr)(ks:List ZcV)(p:Pos)(m:Expr->E1):E1:=match f,as,ks with
 | .Name x _,[a,.Name D _],[]=>if x=="isinstance"&&fr x&&S.gl x&&S.gl D&&Js a then(match xi D with
  | some g=>eIsi (QC g) (m a)
  | none=>stE) else stE
 | .Name x _,[a],[]=>if x=="len"&&fr x&&S.gl x&&Js a then eCB (on1 lenI) (Ja (m a) Jd) else stE
 | .Attribute o y ap,[a],[]=>if y=="index"&&Js a&&VR o&&(ap.endLine==p.line) then eBm "list" XY (m o) (Ja (m a) Jd) else stE
 | _,_,_=>stE
def Jux (w:Bool)(S:Sc)(sc:Zbw)(elt:Expr)(gens:List Comprehension)(m:Bool->Sc->Expr->E1):E1:=match gens with
 | [⟨.Name y _,iter,[.Name c cp],as⟩]=>if w=Zh/\as=0/\V8 iter=Zh/\Qw S.N (Qe sc) (QD sc) (jsOf S sc) S.fake sc=Zh then(match (S.comp sc).sto y with
  | some i=>J7 (XX (m w S iter)) (Qe sc).length (jsOf S sc) (gNm i) (Jj tru (m Zc (S.comp sc) (.Name c cp))) (m Zc (S.comp sc) elt)
  | none=>stE) else stE
 | _=>stE
def hv (xi:Xi)(xf:Str->Str->Bool)(fr:Str->Bool):Nat->Bool->Sc->Expr->E1
 | 0,_,_,_=>stE
 | n+1,w,S,e=>match e with
  | .Constant c _ _=>evC c
  | .Name x _=>(match S.vis x with
   | some i=>Jb i
   | none=>stE)
  | .BinOp a op b _=>Jc (binI op) (hv xi xf fr n w S a) (hv xi xf fr n w S b)
  | .Compare a [o] [b] _=>if Zbc o b then stE else Jc (cmpI o) (hv xi xf fr n w S a) (hv xi xf fr n w S b)
  | .Subscript a i _=>if Ye i then Jc Jg (hv xi xf fr n w S a) (hv xi xf fr n w S i) else stE
  | .UnaryOp op a _=>eUn (unI op) (hv xi xf fr n w S a)
  | .BoolOp .And vs _=>Jrh (vs.map (hv xi xf fr n w S))
  | .BoolOp .Or vs _=>eOrs (vs.map (hv xi xf fr n w S))
  | .Tuple es _ _=>if es.all Js then JE (aAll (es.map (hv xi xf fr n w S))) else stE
  | .List es _=>if es.all Js then Jv (aAll (es.map (hv xi xf fr n w S))) else stE
  | .Call f as ks p=>Juw S xi fr f as ks p (hv xi xf fr n w S)
  | .ListComp elt gens sc _=>Jux w S sc elt gens (hv xi xf fr n)
  | _=>stE
def hT (xi:Xi)(xf:Str->Str->Bool)(fr:Str->Bool)(w:Bool)(S:Sc):Nat->Expr->T1
 | 0,_=>stT
 | n+1,e=>match e with
  | .UnaryOp .Not a _=>JA (hT xi xf fr w S n a)
  | .BoolOp .And vs _=>Jsx (vs.map (hT xi xf fr w S n))
  | .BoolOp .Or vs _=>tOrs (vs.map (hT xi xf fr w S n))
  | .Compare a [o] [b] _=>if Zbc o b then stT else Jj asB (Jc (cmpI o) (hv xi xf fr n w S a) (hv xi xf fr n w S b))
  | .Call f as ks p=>Jj tru (hv xi xf fr n w S (.Call f as ks p))
  | _=>stT
def hx (xi:Xi)(xf:Str->Str->Bool)(fr:Str->Bool)(w:Bool)(S:Sc):Nat->Zbu->S1
 | 0,_=>stS
 | n+1,st=>match st with
  | .Pass _=>Jsi
  | .Return (Za e) _=>Jn (hv xi xf fr n w S e)
  | .If c a b _=>sIf (hT xi xf fr w S n c) (sAll (a.map (hx xi xf fr w S n))) (sAll (b.map (hx xi xf fr w S n)))
  | .Assign [.Name x _] e _=>if Vs e then(match S.sto x with
   | some i=>Jk i (hv xi xf fr n w S e)
   | none=>stS) else stS
  | _=>stS
def hSl (S:Sc):Option Str->Option (Option Nat)
 | none=>Za Ze
 | some x=>if S.names.lookup x==Za .local then(ixOf x S.N).map Za else Ze
def Jpc (P:Pg)(S:Sc)(n:Nat)(sl:Option Nat)(suite:List Zbu):S1:=match suite with
 | [.Assign [.Name x _] (.Call (.Name f _) [.Name e _] [] _) _]=>(match S.sto x,sl,P.wr f with
  | some j,Za i,Za g=>if S.gl f&&decide (S.vis e=Za i) then XB j g i else stS
  | _,_,_=>stS)
 | _=>sAll (suite.map (hx P.xi P.xf P.free Zc S n))
def hHd (P:Pg)(S:Sc)(n:Nat):Zbd->Option HdI
 | .ExceptHandler (Za (.Name D _)) nm (b::suite) _=>if S.gl D then(match P.xi D,hSl S nm with
  | some g,Za sl=>Za (g,sl,Jpc P S n sl (b::suite))
  | _,_=>Ze) else Ze
 | _=>Ze
def hHds (P:Pg)(S:Sc)(n:Nat):List Zbd->Option (List HdI)
 | []=>Za []
 | h::r=>match hHd P S n h,hHds P S n r with
  | some q,Za l=>Za (q::l)
  | _,_=>Ze
end
def XiOk (K:W.Frag)(mg:Str->Option Zg)(xi:Xi)(xf:Str->Str->Bool):Prop:=(∀D g,xi D=Za g->∃v,(mg D=Za v∨(mg D=Ze/\Zbo D=Za v)) /\
 ∀c C b,g c=Za b->W.nsIn K Zp c=Za (Za (.ref C))->ExI K C/\W.kitOne K (.ref C) v=Za b/\W.exmOne K (.ref C) v=Za b) /\
 ∀f c C,xf f c=Zh->W.nsIn K Zp c=Za (Za (.ref C))->StoX K C f/\ExI K C/\W.findIn K (.ref C) f=Za Ze
section
def Jpa (P:Pg)(S:Sc)(m:Expr->E1)(exc cause:Option Expr):S1:=match exc,cause with
 | some (.Call (.Name x _) [e] [] _),Ze=>if S.gl x&&P.rz x&&Js e then JZ x (Ja (m e) Jd) else stS
 | _,_=>stS
def hTry (P:Pg)(S:Sc)(n:Nat)(m:Zbu->S1)(body:List Zbu)(hs:List Zbd)(o f:List Zbu):S1:=match hs,o,f with
 | h::r,[],[]=>if S.own then(match hHds P S n (h::r) with
  | some ms=>sTry (sAll (body.map m)) ms
  | none=>stS) else stS
 | _,_,_=>stS
end
def Jv6 (P:Pg)(f:Str)(o e:E1):S1:=if P.fld f then QO f o e else stS
section
def evX (P:Pg)(b:Bool):Nat->Sc->Expr->E1
 | n+1,S,.ListComp elt [⟨tg,iter,ifs,as⟩] sc p =>
  if (P.xc&&b)=Zh/\as=0/\V8 iter=Zh/\Qw S.N (Qe sc) (QD sc) (jsOf S sc) S.fake sc=Zh then
   YI ifs (evT P n (S.comp sc)) λ mt=>Qx (evI P n S tg iter) (Qe sc).length (jsOf S sc) (tgt P n (S.comp sc) tg) mt (ev P n (S.comp sc) elt)
  else ev P (n+1) S (.ListComp elt [⟨tg,iter,ifs,as⟩] sc p)
 | n,S,e=>ev P n S e
def swpB (S:Sc)(x:Str)(q:Pos):Expr->Bool
 | .ListComp _ _ sc cp=>S.own&&(S.names.lookup x==Za .local&&q.line==cp.line&&!(sc.names.any λ (n,k)=>n==x&&(k==.local||k==.cell)))
 | _=>Zc
def ex (P:Pg):Nat->Sc->Zbu->S1
 | 0,_,_=>stS
 | n+1,S,st=>match st with
  | .Pass _=>Jsi
  | .Break _=>Jt2
  | .Continue _=>Jzc
  | .Expr e _=>if Vs e then JK (ev P n S e) else stS
  | .Return Ze _=>Jv7
  | .Return (Za e) _=>Jn (evX P S.own n S e)
  | .If c a b _=>sIf (evT P n S c) (sAll (a.map (ex P n S))) (sAll (b.map (ex P n S)))
  | .For tg it a [] _=>if V8 it&&S.own then sFor (evI P n S tg it) (tgt P n S tg) (sAll (a.map (ex P n S))) else stS
  | .Assign [.Name x q] e _=>if Vs e||isLC e then(match S.sto x with
   | some i=>Jk i (evX P (swpB S x q e) n S e)
   | none=>stS) else stS
  | .Assign [.Attribute o f _] e _=>if Vs e||isLC e then Jv6 P f (ev P n S o) (ev P n S e) else stS
  | .Assign [tg] e _=>if Vs e&&((Jr0 tg&&Jvo e)||Jrz tg) then sAsg (ev P n S e) (tgt P n S tg) else stS
  | .Raise exc cause _=>Jpa P S (ev P n S) exc cause
  | .Try body hs o f _=>hTry P S n (ex P n S) body hs o f
  | _=>stS
end
structure FnD (ce:CeT)(prog:ZG)(w:ZX)(K:W.Frag)(mg:Str->Option Zg)(base:Zak)(k:Nat)(f:Fn)(fa:Zi)(fd:Zax)(ps:List Str):Prop where
 len:ps.length=f.np
 ok:FnOk prog w K mg base (CXI prog w) k fa fd ps (spI ce K ps f.run)
 dv:∀j,j<=f.dvs.length->∃ds,Q2 K fd ps ds/\ds.length=f.dvs.length-j/\∃vs,Vals vs ds/\∀ι H,RVs K ι H (f.dvs.drop j) vs
structure PgOk (ce:CeT)(k:Nat)(P:Pg)(prog:ZG)(w:ZX)(K:W.Frag)(mg:Str->Option Zg)(base:Zak):Prop where
 fn:∀x f,P.fn x=Za f->∃fa fd ps,mg x=Za (.ref fa)/\W.keepIn K (.ref fa)=Zh/\FnD ce prog w K mg base k f fa fd ps
 cls:∀x f,P.cls x=Za f->∃C fa fd ps,mg x=Za (.ref C)/\ce x=Za C/\Mk K C fa/\FnD ce prog w K mg base k f fa fd ps
 meth:∀c m f,P.meth c m=Za f->∃C fa fd ps,ce c=Za C/\Cls K C/\Meth K C m fa/\FnD ce prog w K mg base k f fa fd ps
 con:∀x v,P.con x=Za v->∃u y,mg x=Za u/\RelV y u/\∀ι H,RV K ι H v y
 isa:∀D g,P.isa D=Za g->∃c,mg D=Za c/\IsOk ce K c λ t=>match t with|.ins c=>Za (g c)|.exc _=>Ze|_=>Za Zc
 fld:∀f,P.fld f=Zh->Jq9 ce K f
 free:∀x,P.free x=Zh->mg x=Ze
 blt:∀q j,P.tabs q=Za j->Jq8 mg base
 rz:∀x,P.rz x=Zh->∃C,mg x=Za (.ref C)/\W.nsIn K Zp x=Za (Za (.ref C))/\XCls K C
 xi:XiOk K mg P.xi P.xf
 bas:∀x,P.bas x=Zh->∃C,mg x=Za (.ref C)/\BasK K C
 wr:∀x r,P.wr x=Za r->∃fa fd qual st dV N' p1 m,mg x=Za (.ref fa)/\W.keepIn K (.ref fa)=Zh/\FunD K x qual st fa fd dV/\FnScope N' [p1] (Jx st)/\Q2 K fd [p1] []/\r=fnI N'.length m /\
  ∀(cdv:Zg)(A:ZO)(outer:List Env)(s:Zj)(H:Hp)(E:XK)(a:Zi),W.codeIn K cdv qual=Zh->Room (k+2) (A.deeper (Zc9 qual (Jx st) s.heap.objs.size fa cdv))->Warm (A.mark (Za (.ref a))) H->PS2 ce (Jl (cxOf (CXI prog w) prog w K mg base N' qual (Jx st) fa cdv A outer s H E).nox a) (Qc st) m
 ne:∀c,P.ne c=Zh->∃C,ce c=Za C/\neIn K C=Zh/\ClsI K C/\W.kitOne K (.ref C) (.type "list")=Za Zc
 xo:∀x f,P.xo x=Za f->∃C fa fd ps,mg x=Za (.ref C)/\W.nsIn K Zp x=Za (Za (.ref C))/\Y1 K C fa=Zh/\W.keepIn K (.ref C)=Zh/\(∀h:Zak,K.In h->ExC h C)/\FnD ce prog w K mg base k f fa fd ps
 xb:∀x,P.xb x=Zh->∃C,mg x=Za (.ref C)/\BasX K C
structure Good (ce:CeT)(k:Nat)(P:Pg)(S:Sc)(X:Cx):Prop where
 n:X.N=S.N
 sc:X.env.scope.names=S.names
 nd:S.N.Nodup
 fk:X.env.scope.kind=.function
 calm:X.calm=Zh
 room:Room (k+1) X.A
 st:S.own=Zh->∀x,X.fn x=Zh
 pg:PgOk ce k P X.prog X.w X.K X.mg X.base
 code:S.own=Zh->W.codeIn X.K X.env.code S.q=Zh/\X.env.qual=S.q++".<locals>."
 room3:S.own=Zh->Room (k+3) X.A
 top:S.own=Zh->X.stack=X.env::X.outer/\X.env.frame=Za X.env.locals
section
variable {ce:CeT}{k:Nat}{P:Pg}{S:Sc}{X:Cx}{α β:Type}{R:REL α β}
theorem Jh {t:Sem β}:PX ce X R t (λ _ _=>.stuck):=λ _ _ _ _ _ _ _ _ _ _ K=>(show False from K).elim
theorem J1b {t:Sem β}{m:ISt->IH->Res α}(hh:∀σi h,∃m',m σi h=m' σi h/\PX ce X R t m'):PX ce X R t m:=by
 intro pj s σ H ι σi h Q E N K
 obtain⟨m',e,p⟩:=hh σi h
 rw[e] at K
 exact p pj s σ H ι σi h Q E N K
theorem Nd {tg e:Expr}:PIi ce X tg e stI:=λ _ _ _ _ _ _ _ _ _ _ K=>(show False from K).elim
theorem Nc {e:Expr}:PGi ce X e stG:=λ _ _ _ _ _ _ _ _ _ _ _ _ _ K=>(show False from K).elim
theorem JJ {t:Sem Flow}:PSi ce X t stS:=λ _ _ _ _ _ _ _ _ _ _ K=>(show False from K).elim
theorem YT {x:Str}:∀{l:List Str}{i:Nat},ixOf x l=Za i->l[i]?=Za x
 | [],_,h=>by cases h
 | y::r,i,h=>by
  unfold ixOf at h
  split at h
  ·rename_i e
   cases h
   simp[beq_iff_eq.mp e]
  ·obtain⟨j,hj,rfl⟩:=Z7.mp h
   simpa using YT hj
theorem Good.kind (G:Good ce k P S X)(x:Str):X.env.kindOf x=S.names.lookup x:=by
 show X.env.scope.names.lookup x=_
 rw[G.sc]
theorem Good.vis (G:Good ce k P S X){x:Str}{i:Nat}(h:S.vis x=Za i):X.N[i]?=Za x/\Vis X.env.scope x/\(x==("__debug__":Str))=Zc/\(x==("__classdict__":Str))=Zc:=by
 unfold Sc.vis at h
 have fin:∀{o:ZaX},(o=.local∨o=.cell∨o=.free)->S.names.lookup x=Za o->(if (x==("__debug__":Str)||x==("__classdict__":Str))=Zh then Ze else ixOf x S.N)=Za i ->
   X.N[i]?=Za x/\Vis X.env.scope x/\(x==("__debug__":Str))=Zc/\(x==("__classdict__":Str))=Zc:=λ ho e h=>by
  split at h
  ·cases h
  ·rename_i hd
   have hd':=Zat.mpr hd
   rw[ZbX] at hd'
   refine⟨by rw[G.n];exact YT h,?_,hd'.1,hd'.2⟩
   unfold Vis
   rw[G.sc,e]
   rcases ho with rfl|rfl|rfl
   ·exact .inl rfl
   ·exact .inr (.inl rfl)
   ·exact .inr (.inr rfl)
 cases e:S.names.lookup x with
 | none=>rw[e] at h;cases h
 | some o =>
  rw[e] at h
  cases o with
  | «local» =>exact fin (.inl rfl) e h
  | cell=>exact fin (.inr (.inl rfl)) e h
  | free=>exact fin (.inr (.inr rfl)) e h
  | _=>cases h
theorem Good.gl (G:Good ce k P S X){x:Str}(h:S.gl x=Zh):Gl X x/\(x==("__debug__":Str))=Zc/\x≠"__name__":=by
 unfold Sc.gl at h
 simp only[Zl,beq_iff_eq,Zaf] at h
 refine⟨?_,h.1.2,λ e=>?_⟩
 ·show X.env.kindOf x=_
  rw[G.kind]
  exact h.1.1
 ·have:=h.2
  rw[e] at this
  exact absurd this (by decide)
theorem Good.sto (G:Good ce k P S X){x:Str}{i:Nat}(h:S.sto x=Za i):X.N[i]?=Za x/\Loc X.env.scope x/\(X.fn x=Zh∨X.env.scope.names.lookup x=Za .local):=by
 unfold Sc.sto at h
 unfold L2.Loc
 rw[G.sc]
 cases e:S.names.lookup x with
 | none=>rw[e] at h;cases h
 | some o =>
  rw[e] at h
  cases o with
  | «local» =>exact⟨by rw[G.n];exact YT h,.inl rfl,.inr rfl⟩
  | cell =>
   dsimp only at h
   split at h
   ·rename_i ho
    exact⟨by rw[G.n];exact YT h,.inr rfl,.inl (G.st ho x)⟩
   ·cases h
  | _=>cases h
theorem Good.nodup (G:Good ce k P S X):X.N.Nodup:=by rw[G.n];exact G.nd
theorem J1 {a:Expr}{es:List Expr}{env:Env}(h:Js a=Zh):ZN (a::es) env=(Zc,ZaV a env)::ZN es env:=by
 cases a<;>first|rfl|cases h
theorem Yl {pos:Pos}{env:Env}:∀{es:List Expr},es.all Js=Zh->(Zba pos (ZN es env)).any (·.1)=Zc
 | [],_=>rfl
 | a::es,h=>by
  simp only[Zas,Zl] at h
  rw[J1 h.1]
  show(Zc||(Zba pos (ZN es env)).any (·.1))=Zc
  rw[Yl h.2]<;>rfl
theorem Jhs {pos:Pos}{env:Env}:∀{es:List Expr},es.all Js=Zh->(Zba pos (ZN es env)).all (λ x=>!x.1)=Zh
 | [],_=>rfl
 | a::es,h=>by
  simp only[Zas,Zl] at h
  rw[J1 h.1]
  show(Zh&&(Zba pos (ZN es env)).all (λ x=>!x.1))=Zh
  rw[Jhs h.2]<;>rfl
theorem Jpg {pos:Pos}{env:Env}{es:List Expr}(ha:es.all Js=Zh)(hn:es.length<30):((Zba pos (ZN es env)).all (λ x=>!x.1)&&(Zee pos (ZcK [] env)).all (λ x=>x.1.isSome)
   && decide (es.length+([]:List ZcV).length+(if ([]:List ZcV).isEmpty then 0 else 1)<30))=Zh:=by
 show((Zba pos (ZN es env)).all (λ x=>!x.1)&&Zh&&decide (es.length+0+0<30))=Zh
 rw[Jhs ha]
 simpa using hn
theorem Jg2:∀(l:List E1),ALen l.length (aAll l)
 | []=>Jra
 | _::r=>Joh (Jg2 r)
theorem V1 {f:Expr->E1}:∀{es:List Expr},es.all Js=Zh->(∀e,PEi ce X e (f e))->PAi ce X es (aAll (es.map f))
 | [],_,_=>Vk
 | a::es,h,hf=>by
  simp only[Zas,Zl] at h
  exact QZ (hf a) (V1 h.2 hf) (J1 h.1)
theorem Jo3 {f:Expr->E1}{pos:Pos}(hf:∀e,PEi ce X e (f e)):∀(vs:List Expr),PEi ce X (.BoolOp .And vs pos) (Jrh (vs.map f))
 | []=>Jh
 | [a]=>Jx2 (hf a)
 | a::b::r=>J0s XD (hf a) (Jo3 hf (b::r))
theorem Juq {f:Expr->E1}{pos:Pos}(hf:∀e,PEi ce X e (f e)):∀(vs:List Expr),PEi ce X (.BoolOp .Or vs pos) (eOrs (vs.map f))
 | []=>Jh
 | [a]=>Jx2 (hf a)
 | a::b::r=>i_or XD (hf a) (Juq hf (b::r))
theorem Jqs {f:Expr->T1}{pos:Pos}(hf:∀e,PTi ce X e (f e)):∀(vs:List Expr),PWi ce X (.BoolOp .And vs pos) (Jsx (vs.map f))
 | []=>λ _=>Jh
 | [a]=>Jwk (hf a)
 | a::b::r=>Jzu (hf a) (Jqs hf (b::r))
theorem Jwj {f:Expr->T1}{pos:Pos}(hf:∀e,PTi ce X e (f e)):∀(vs:List Expr),PWi ce X (.BoolOp .Or vs pos) (tOrs (vs.map f))
 | []=>λ _=>Jh
 | [a]=>Jzv (hf a)
 | a::b::r=>J1l (hf a) (Jwj hf (b::r))
theorem Jti {f:Expr->G1}:∀{es:List Expr},es.all Js=Zh->(∀e,PGi ce X e (f e))->PGsi ce X es (gAll (es.map f))
 | [],_,_=>Jxj
 | a::es,h,hf=>by
  simp only[Zas,Zl] at h
  refine Juv (hf a) (Jti h.2 hf) ?_
  cases a<;>first|rfl|exact absurd h.1 Zy
theorem Jtb {env:Env}:∀{es:List Expr},es.all Js=Zh->(ZaJ es env).length=es.length
 | [],_=>rfl
 | a::es,h=>by
  simp only[Zas,Zl] at h
  have:ZaJ (a::es) env=(Zc,Zd1 a env)::ZaJ es env:=by cases a<;>first|rfl|exact absurd h.1 Zy
  rw[this,Z0,Z0,Jtb h.2]
theorem Jok {env:Env}:∀{es:List Expr},es.all Js=Zh->(ZaJ es env).findIdx? (·.1)=Ze
 | [],_=>rfl
 | a::es,h=>by
  simp only[Zas,Zl] at h
  have:ZaJ (a::es) env=(Zc,Zd1 a env)::ZaJ es env:=by cases a<;>first|rfl|exact absurd h.1 Zy
  rw[this,List.findIdx?_cons,Jok h.2]
  rfl
theorem Jyo (op:Operator):OpI ce X (ZaQ op) (binI op):=by
 cases op with
 | Add=>exact J0w
 | Sub=>exact J02
 | Mult=>exact Jyq
 | FloorDiv=>exact Jyp
 | Mod=>exact J0z
 | Pow=>exact J01
 | _=>exact λ _ _ _ _ _ _ _ _ _ _ _ _ _ _ _ _ K=>(show False from K).elim
theorem X7 (hu:X.A.units+64<Zeq)(op:CmpOp):OpI ce X (Zav op) (cmpI op):=by
 cases op with
 | Lt=>exact o_lt
 | LtE=>exact o_le
 | Gt=>exact o_gt
 | GtE=>exact o_ge
 | Eq=>exact o_eq hu
 | NotEq=>exact o_ne hu
 | Is=>exact o_is
 | IsNot=>exact Jvp
 | In=>exact o_in hu
 | NotIn=>exact Jvq hu
theorem Jtw {ne:Str->Bool}(hu:X.A.units+64<Zeq)(hn:∀c,ne c=Zh->∃C,ce c=Za C/\neIn X.K C=Zh)(op:CmpOp)(b:Expr):OpI ce X (Zav op) (cmpD ne op b):=by
 unfold cmpD
 split
 ·split
  ·exact J0x
  ·split
   ·exact J0y
   ·exact o_in hu
 ·exact X7 hu op
theorem J1t (a:Expr):SlI ce X (slD a):=by
 unfold slD
 split
 ·exact J1u
 ·exact x_sl
theorem J1s (a:Expr):IxI ce X (ixD a):=x_ix
theorem o_un (op:UnaryOp):UnI ce X (unaryOp op) (unI op):=by
 cases op with
 | Not=>exact Jwl XD
 | USub=>exact J1m
 | _=>exact λ _ _ _ _ _ _ _ _ _ _ _ _ _ K=>(show False from K).elim
theorem YF {o:Expr}{m:Str}{env:Env}{w:Sem Zg}(h:VR o=Zh):ZcE o m env w=w:=by
 cases o with
 | Call f as ks p =>
  cases f with
  | Name x q =>
   cases as with
   | nil =>
    cases ks with
    | nil=>cases h
    | cons _ _=>rfl
   | cons _ _=>rfl
  | _=>rfl
 | _=>rfl
theorem Xc {e:Expr}{env:Env}(h:V8 e=Zh)(x:Zg):Zbh e env x=pure x:=by
 cases e<;>first|rfl|cases h
theorem Yn {e:Expr}{t:Option Expr}{l:Nat}{env:Env}(h:Vs e=Zh):Zcs e t l env=pure Zc:=by
 cases e<;>first|rfl|cases h
theorem Jmq {i:Expr}(h:Ye i=Zh):Jof i:=λ _ _=>by
 cases i<;>first|rfl|cases h
theorem Jkd {o:Expr}{m:Str}{ap pos:Pos}{es:List Expr}{env:Env}(hb:VR o=Zh)(hs:es.all Js=Zh)(hl:(ap.endLine==pos.line)=Zh)(hn:es.length<30) :
  ZaV (.Call (.Attribute o m ap) es [] pos) env=(do
   let ov<-ZaV o env
   Ze8 ap.atName
   let (f,first)<-Zcz [ov] (Zem ov m (do return(<- importBound o env).getD Zh))
   callWith pos f first (Zba pos (ZN es env)) (Zee pos (ZcK [] env))):=by
 have hform:methodCallForm (es.length+([]:List ZcV).length) (Zba pos (ZN es env)) (Zee pos (ZcK [] env))=Zh:=by
  show((Zba pos (ZN es env)).all (λ x=>!x.1)&&Zh&&decide (es.length+0+0<30))=Zh
  rw[Jhs hs]
  simpa using hn
 have hpos:methodCallPos Zh o env ap pos=pure pos:=by unfold methodCallPos;simp[hl]
 rw[arm_eval_Call,YF hb]
 unfold methodCall
 rw[hform,hpos]
 rfl
end
section
variable {ce:CeT}{k:Nat}{P:Pg}{S:Sc}{X:Cx}
theorem Jfv (G:Good ce k P S X)(N0 l c:List Str)(js:List Nat)(sc:Zbw):Qw N0 l c js X.env.scope sc=Qw N0 l c js S.fake sc:=by
 unfold Qw
 rw[G.fk,G.sc]
 rfl
theorem Good.comp (G:Good ce k P S X){sc:Zbw}(h:Qw S.N (Qe sc) (QD sc) (jsOf S sc) S.fake sc=Zh)(C:Zi)(s:Zj)(H:Hp)(fp:List Zi):Good ce k P (S.comp sc) (cxC X (Qe sc++QD sc) sc C s H fp):=by
 simp only[Qw,Zl,decide_eq_true_eq] at h
 obtain⟨⟨⟨⟨⟨⟨⟨⟨⟨kF,kF0⟩,kNC⟩,kL⟩,kFr⟩,kFx⟩,kJ⟩,kLen⟩,kNd⟩,kLo⟩:=h
 refine⟨rfl,?_,kNd,kF,G.calm,G.room,λ z=>absurd z Zy,G.pg,λ z=>absurd z Zy,λ z=>absurd z Zy,λ z=>absurd z Zy⟩
 show(relabel sc X.env).names=_
 unfold relabel Sc.comp
 dsimp only
 refine List.map_congr_left λ x _=>?_
 obtain⟨n,kd⟩:=x
 dsimp only
 rw[G.fk,G.kind]
 simp
end
structure Snd (ce:CeT)(k:Nat)(P:Pg)(n:Nat):Prop where
 e:∀S X e,Good ce k P S X->PEi ce X e (ev P n S e)
 t:∀S X e,Good ce k P S X->PTi ce X e (evT P n S e)
 o:∀S X e,Good ce k P S X->PPi ce X e (evO P n S e)
 c:∀S X x args p pos,Good ce k P S X->S.gl x=Zh->args.all Js=Zh->PEi ce X (.Call (.Name x p) args [] pos) (Jo6 P n S x args)
 i:∀S X tg e,Good ce k P S X->PIi ce X tg e (evI P n S tg e)
 g:∀S X e,Good ce k P S X->PGi ce X e (tgt P n S e)
section
variable {ce:CeT}{k:Nat}{P:Pg}{n:Nat}{S:Sc}{X:Cx}
theorem Jsu:Snd ce k P 0:=⟨λ _ _ _ _=>Jh,λ _ _ _ _=>Jh,λ _ _ _ _=>Jh,λ _ _ _ _ _ _ _ _ _=>Jh,λ _ _ _ _ _=>Nd,λ _ _ _ _=>Nc⟩
theorem Jlq {prog:ZG}{w:ZX}{K:W.Frag}{mg:Str->Option Zg}{base:Zak}{f:Fn}{fa:Zi}{fd:Zax}{ps:List Str}{m:Nat}{d:List IV}(D:FnD ce prog w K mg base k f fa fd ps)(h:f.fill m=Za d) :
  ∃ds,Q2 K fd ps ds/\m+ds.length=ps.length/\∃vs,Vals vs ds/\∀ι H,RVs K ι H d vs:=by
 unfold Fn.fill at h
 split at h
 ·rename_i hz
  cases h
  obtain⟨ds,hb,hl,q⟩:=D.dv (f.dvs.length-(f.np-m)) (by omega)
  exact⟨ds,hb,by rw[hl,D.len];omega,q⟩
 ·cases h
theorem Jso (G:Good ce k P S X){x:Str}{f:Fn}(hx:P.fn x=Za f)(hg:S.gl x=Zh){args:List Expr}(ha:args.all Js=Zh){g:Expr->E1}(hf:∀e,PEi ce X e (g e)){p pos:Pos} :
  PEi ce X (.Call (.Name x p) args [] pos) (Jmm f args.length (aAll (args.map g))):=by
 obtain⟨fa,fd,ps,hm,hk,D⟩:=G.pg.fn x f hx
 obtain⟨gl,hdb,_⟩:=G.gl hg
 unfold Jmm
 cases hd:f.fill args.length with
 | none=>exact Jh
 | some d =>
  obtain⟨ds,hb,hl,q⟩:=Jlq D hd
  have hr:Room k X.A:=G.room.mono (ZbJ k)
  cases args with
  | nil=>exact Ju2 D.ok hr gl hm hk hb q (by simpa using hl) hdb
  | cons a es =>
   have ha':=ha
   simp only[Zas,Zl] at ha'
   refine Jxr D.ok hr gl hm hk hb q (V1 ha hf) (λ σ h xs h' e=>?_) hdb (J1 ha'.1) (Yl ha'.2)
   have:=Jg2 _ σ h xs h' e
   rw[Zo] at this
   rw[this]
   exact hl
theorem Jsp (G:Good ce k P S X){x:Str}{f:Fn}(hx:P.cls x=Za f)(hg:S.gl x=Zh){args:List Expr}(ha:args.all Js=Zh){g:Expr->E1}(hf:∀e,PEi ce X e (g e)){p pos:Pos} :
  PEi ce X (.Call (.Name x p) args [] pos) (Jmn x f args.length (aAll (args.map g))):=by
 obtain⟨C,fa,fd,ps,hm,hC,M,D⟩:=G.pg.cls x f hx
 obtain⟨gl,hdb,_⟩:=G.gl hg
 unfold Jmn
 cases hd:f.fill (args.length+1) with
 | none=>exact Jh
 | some d =>
  obtain⟨ds,hb,hl,q⟩:=Jlq D hd
  cases args with
  | nil=>exact Ju8 M D.ok hC G.room gl hm hb q (by simp at hl;omega) hdb
  | cons a es =>
   have ha':=ha
   simp only[Zas,Zl] at ha'
   refine Jxy M D.ok hC G.room gl hm hb q (V1 ha hf) (λ σ h xs h' e=>?_) hdb (J1 ha'.1) (Yl ha'.2)
   have:=Jg2 _ σ h xs h' e
   rw[Zo] at this
   omega
theorem Jo1 (G:Good ce k P S X)(m:Str)(n:Nat):Joe ce X m n (YJ P m n):=by
 intro c f dvs h
 unfold YJ at h
 cases hm:P.meth c m with
 | none=>rw[hm] at h;cases h
 | some fn =>
  rw[hm] at h
  dsimp only at h
  cases hd:fn.fill (n+1) with
  | none=>rw[hd] at h;cases h
  | some d =>
   rw[hd] at h
   cases h
   obtain⟨C,fa,fd,ps,hC,hcl,hM,D⟩:=G.pg.meth c m fn hm
   obtain⟨ds,hb,hl,q⟩:=Jlq D hd
   exact⟨C,fa,fd,k,ps,ds,hC,hcl,hM,D.ok,G.room.mono (ZbJ k),hb,q,by omega⟩
theorem J0a {T:String}{m:Str}{n:Nat}{g:IV->List IV->IH->Res IV}(h:bmOf T m n=Za g):∃id,PlainAttrs T/\Slot T m id/\Zez (.builtin id)=pure (.type "method_descriptor")/\MtI ce X T id g:=by
 unfold bmOf at h
 split at h
 ·rename_i hm
  simp only[Zl,beq_iff_eq] at hm
  obtain⟨⟨rfl,rfl⟩,_⟩:=hm
  cases h
  exact⟨_,Zcu,PySem.F.slot_list_append,PySem.F.type_list_append,Jr5⟩
 ·split at h
  ·rename_i hm
   simp only[Zl,beq_iff_eq] at hm
   obtain⟨⟨rfl,rfl⟩,_⟩:=hm
   cases h
   exact⟨_,Zcu,PySem.F.slot_list_insert,PySem.F.type_list_insert,Jr7⟩
  ·split at h
   ·rename_i hm
    simp only[Zl,beq_iff_eq] at hm
    obtain⟨⟨rfl,rfl⟩,_⟩:=hm
    cases h
    exact⟨_,Zbt,PySem.F.slot_str_join,PySem.F.type_str_join,Jyh⟩
   ·split at h
    ·rename_i hm
     simp only[Zl,beq_iff_eq] at hm
     obtain⟨⟨rfl,rfl⟩,_⟩:=hm
     cases h
     exact⟨_,Zbt,PySem.F.slot_str_upper,PySem.F.type_str_upper,Jvj⟩
    ·split at h
     ·rename_i hm
      simp only[Zl,beq_iff_eq] at hm
      obtain⟨⟨rfl,rfl⟩,_⟩:=hm
      cases h
      exact⟨_,Zbt,PySem.F.slot_str_split,PySem.F.type_str_split,Jvh⟩
     ·split at h
      ·rename_i hm
       simp only[Zl,beq_iff_eq] at hm
       obtain⟨⟨rfl,rfl⟩,_⟩:=hm
       cases h
       exact⟨_,Zbt,PySem.F.slot_str_partition,PySem.F.type_str_partition,Jyi⟩
      ·split at h
       ·rename_i hm
        simp only[Zl,beq_iff_eq] at hm
        obtain⟨⟨rfl,rfl⟩,_⟩:=hm
        cases h
        exact⟨_,Zbt,PySem.F.slot_str_startswith,PySem.F.type_str_startswith,Jvi⟩
       ·cases h
theorem Jzn {o:Expr}{m:Str}{mo:E1}{args:List Expr}{f:Expr->E1}{ap pos:Pos}{T:String}{g:IV->List IV->IH->Res IV}{n:Nat}(hg:bmOf T m n=Za g)(ho:PEi ce X o mo)(hf:∀e,PEi ce X e (f e))(ha:args.all Js=Zh)(hb:VR o=Zh)(hl:(ap.endLine==pos.line)=Zh)(hn:args.length<30) :
  PEi ce X (.Call (.Attribute o m ap) args [] pos) (eBm T g mo (aAll (args.map f))):=by
 obtain⟨id,pa,sl,ty,mt⟩:=J0a (ce:=ce) (X:=X) hg
 cases args with
 | nil=>exact J0t pa sl ty mt ho (YF hb) hl
 | cons a es =>
  have ha':=ha
  simp only[Zas,Zl] at ha'
  exact i_bm pa sl ty mt ho (V1 ha hf) (YF hb) (Jpg ha hn) hl (J1 ha'.1) (Yl ha'.2)
theorem Jwf (G:Good ce k P S X){o:Expr}{m:Str}{mo:E1}{args:List Expr}{f:Expr->E1}{ap pos:Pos}(ho:PEi ce X o mo)(hf:∀e,PEi ce X e (f e))(ha:args.all Js=Zh)(hb:VR o=Zh)(hl:(ap.endLine==pos.line)=Zh)(hn:args.length<30) :
  PEi ce X (.Call (.Attribute o m ap) args [] pos) (Jp P m args.length mo (aAll (args.map f))):=by
 refine J1b λ σi h=>?_
 unfold Jp
 cases e:mo σi h with
 | exc n h1=>exact⟨λ _ _=>.stuck,rfl,Jh⟩
 | stuck=>exact⟨λ _ _=>.stuck,rfl,Jh⟩
 | ok v h1 =>
  dsimp only
  split
  ·refine⟨_,rfl,?_⟩
   cases args with
   | nil=>exact Ju9 ho (Jo1 G m 0) (Jkd hb ha hl hn)
   | cons a es =>
    have ha':=ha
    simp only[Zas,Zl] at ha'
    refine Jx0 ho (Jo1 G m (a::es).length) (V1 ha hf) (λ σ h xs h' e=>?_) (J1 ha'.1) (Yl ha'.2) (Jkd hb ha hl hn)
    have:=Jg2 _ σ h xs h' e
    rwa [Zo] at this
  ·cases hg:bmOf (tyS v h1) m args.length with
   | none=>exact⟨λ _ _=>.stuck,rfl,Jh⟩
   | some g=>exact⟨_,rfl,Jzn hg ho hf ha hb hl hn⟩
theorem Jwg (G:Good ce k P S X){a:Expr}{ma:E1}{y:Str}{p p2 pos:Pos}(ha:PEi ce X a ma)(hs:Js a=Zh)(hg:S.gl "isinstance"=Zh)(hfr:P.free "isinstance"=Zh)(hy:S.gl y=Zh) :
  PEi ce X (.Call (.Name "isinstance" p) [a,.Name y p2] [] pos) (Jup (Jrb P y) ma):=by
 unfold Jup
 cases e:Jrb P y with
 | none=>exact Jh
 | some ans =>
  obtain⟨gy,ydb,yn⟩:=G.gl hy
  have fin:∀{c:Zg},ClsE X (.Name y p2) c->IsOk ce X.K c ans->PEi ce X (.Call (.Name "isinstance" p) [a,.Name y p2] [] pos) (eIsi ans ma):=λ hc O =>
   Jxw hc O ha (G.gl hg).1 (G.pg.free _ hfr) rfl (J1 hs) rfl rfl
  unfold Jrb at e
  cases hi:P.isa y with
  | some g =>
   rw[hi] at e
   cases e
   obtain⟨c,hm,O⟩:=G.pg.isa y g hi
   exact fin (Jll gy hm ydb) O
  | none =>
   rw[hi] at e
   dsimp only at e
   split at e
   ·rename_i hf
    have hm:=G.pg.free y hf
    split at e
    ·rename_i q;cases (beq_iff_eq.mp q);cases e;exact fin (X4 gy hm rfl yn ydb) Jrw
    ·split at e
     ·rename_i q;cases (beq_iff_eq.mp q);cases e;exact fin (X4 gy hm rfl yn ydb) Jpm
     ·split at e
      ·rename_i q;cases (beq_iff_eq.mp q);cases e;exact fin (X4 gy hm rfl yn ydb) Jrx
      ·split at e
       ·rename_i q
        cases (beq_iff_eq.mp q)
        cases e
        refine fin (X4 gy hm rfl yn ydb) ?_
        split
        ·rename_i q
         refine Jno λ C hC=>?_
         obtain⟨C',h1,_,h2⟩:=G.pg.ne _ q
         cases hC.symm.trans h1
         exact h2
        ·exact Jka
       ·split at e
        ·rename_i q;cases (beq_iff_eq.mp q);cases e;exact fin (X4 gy hm rfl yn ydb) Jry
        ·cases e
   ·cases e
theorem Jsm (G:Good ce k P S X){a:Expr}{ma:E1}{x:Str}{p pos:Pos}(ha:PEi ce X a ma)(hs:Js a=Zh)(hg:S.gl x=Zh)(hfr:P.free x=Zh)(hx:Jpk x=Zh) :
  PEi ce X (.Call (.Name x p) [a] [] pos) (eCB (bltF x) (Ja ma Jd)):=by
 obtain⟨gx,xdb,xn⟩:=G.gl hg
 have hm:=G.pg.free x hfr
 have hh:=G.room.hd
 have pa:PAi ce X [a] (Ja ma Jd):=QZ ha Vk (J1 hs)
 unfold Jpk at hx
 simp only[Za7,beq_iff_eq] at hx
 rcases hx with(rfl|rfl)|rfl
 ·exact YR Jw4 gx hm rfl pa xn xdb (J1 hs) rfl
 ·exact YR (J0d hh) gx hm rfl pa xn xdb (J1 hs) rfl
 ·exact YR (J0g hh) gx hm rfl pa xn xdb (J1 hs) rfl
theorem Jsn (G:Good ce k P S X){a:Expr}{ma:E1}{x:Str}{p pos:Pos}(ha:PEi ce X a ma)(hs:Js a=Zh)(hg:S.gl x=Zh)(hfr:P.free x=Zh)(hx:Jpl x=Zh) :
  PEi ce X (.Call (.Name x p) [a] [] pos) (eCB (bltT x) (Ja ma Jd)):=by
 obtain⟨gx,xdb,xn⟩:=G.gl hg
 have hm:=G.pg.free x hfr
 have pa:PAi ce X [a] (Ja ma Jd):=QZ ha Vk (J1 hs)
 unfold Jpl at hx
 simp only[Za7,beq_iff_eq] at hx
 rcases hx with((rfl|rfl)|rfl)|rfl
 ·exact Ji4 Jw5 gx hm rfl pa xn xdb (J1 hs) rfl
 ·exact Ji4 Juk gx hm rfl pa xn xdb (J1 hs) rfl
 ·exact Ji4 Jw3 gx hm rfl pa xn xdb (J1 hs) rfl
 ·exact Ji4 J0f gx hm rfl pa xn xdb (J1 hs) rfl
theorem Jqq (G:Good ce k P S X){f:Expr->E1}(hf:∀e,PEi ce X e (f e)){x:Str}{args:List Expr}{p pos:Pos}(hg:S.gl x=Zh)(ha:args.all Js=Zh)(hfr:P.free x=Zh) :
  PEi ce X (.Call (.Name x p) args [] pos) (Jiv P S x f args):=by
 unfold Jiv
 split
 ·rename_i a b
  simp only[Zas,Zl] at ha
  obtain⟨gx,xdb,xn⟩:=G.gl hg
  have hm:=G.pg.free x hfr
  have pa:PAi ce X [a,b] (Ja (f a) (Ja (f b) Jd)):=QZ (hf a) (QZ (hf b) Vk (J1 ha.2.1)) (J1 ha.1)
  have h1:∀pos,(Zba pos (ZN [b] X.env)).any (·.1)=Zc:=λ pos=>Yl (by simp[ha.2.1])
  split
  ·rename_i hs
   cases (beq_iff_eq.mp hs)
   exact YR (J0e G.calm) gx hm rfl pa xn xdb (J1 ha.1) (h1 _)
  ·split
   ·rename_i hs
    cases (beq_iff_eq.mp hs)
    exact Jh
   ·split
    ·rename_i y p2 _
     split
     ·rename_i hs
      simp only[Zl,beq_iff_eq] at hs
      obtain⟨rfl,hy⟩:=hs
      exact Jwg G (hf a) ha.1 hg hfr hy
     ·exact Jh
    ·exact Jh
 ·rename_i a
  simp only[Zas,Zl] at ha
  split
  ·rename_i e he
   split at he
   ·rename_i hc
    simp only[Zl,beq_iff_eq] at hc
    obtain⟨⟨rfl,g2⟩,f2⟩:=hc
    unfold Jt4 at he
    split at he
    ·split at he
     ·rename_i hq
      simp only[Zl,beq_iff_eq] at hq
      obtain⟨rfl,ns⟩:=hq
      cases he
      exact Jru G.room.hd (G.gl hg).1 (G.pg.free _ hfr) (G.gl g2).1 (G.pg.free _ f2) (QZ (hf e) Vk (J1 ns)) (J1 ns)
     ·cases he
    ·cases he
   ·cases he
  ·split
   ·rename_i e he
    split at he
    ·rename_i hc
     simp only[Zl,beq_iff_eq] at hc
     obtain⟨⟨rfl,g2⟩,f2⟩:=hc
     unfold Jtz at he
     split at he
     ·split at he
      ·rename_i hq
       simp only[Zl,beq_iff_eq] at hq
       obtain⟨rfl,ns⟩:=hq
       cases he
       exact Jh
      ·cases he
     ·cases he
    ·cases he
   ·split
    ·rename_i hb
     exact Jsm G (hf a) ha.1 hg hfr hb
    ·split
     ·rename_i hb
      exact Jsn G (hf a) ha.1 hg hfr hb
     ·exact Jh
 ·exact Jh
theorem Jzo (G:Good ce k P S X){f:Sc->Expr->E1}(hf:∀S X e,Good ce k P S X->PEi ce X e (f S e)){x:Str}{args:List Expr}{kws:List ZcV}{p pos:Pos}:PEi ce X (.Call (.Name x p) args kws pos) (Jpv P S f x args kws):=by
 unfold Jpv
 split
 ·split
  ·rename_i hq
   simp only[Zl,beq_iff_eq] at hq
   obtain⟨⟨⟨⟨rfl,rfl⟩,g1⟩,f1⟩,ns⟩:=hq
   exact Jxz G.room.hd (G.gl g1).1 (G.pg.free _ f1) (QZ (hf _ _ _ G) Vk (J1 ns)) (hf _ _ _ G) (J1 ns)
  ·exact Jh
 ·exact Jh
theorem Jst (ih:Snd ce k P n):Snd ce k P (n+1):=by
 refine⟨λ S X e G=>?_,λ S X e G=>?_,λ S X e G=>?_,λ S X x args p pos G hg ha=>?_,λ S X tg e G=>?_,λ S X e G=>?_⟩
 ·have ihe:=λ e=>ih.e S X e G
  have hu:=G.room.units
  cases e with
  | Constant c j p =>
   cases c with
   | int i=>exact Jxv
   | bool b=>exact i_bl
   | none=>exact Jx1
   | str x=>exact Jx3
   | _=>exact Jh
  | Name x p =>
   show PEi ce X (.Name x p) (match S.vis x with|some i=>Jb i|none=>if S.gl x then(match P.con x with|some v=>eC v|none=>stE) else stE)
   cases hv:S.vis x with
   | some i =>
    obtain⟨h1,h2,h3,h4⟩:=G.vis hv
    exact Jvb i h1 h2 h3 h4
   | none =>
    dsimp only
    split
    ·rename_i hg
     obtain⟨gx,xdb,_⟩:=G.gl hg
     cases hc:P.con x with
     | none=>exact Jh
     | some v =>
      obtain⟨u,y,hm,r,q⟩:=G.pg.con x v hc
      exact Jxu gx hm r q xdb
    ·exact Jh
  | BinOp a op b p=>exact Jxq (Jyo op) (ihe a) (ihe b)
  | UnaryOp op a p=>exact i_un (o_un op) (ihe a)
  | BoolOp op vs p =>
   cases op with
   | And=>exact Jo3 ihe vs
   | Or=>exact Juq ihe vs
  | IfExp t a b p=>exact Ju6 (ih.t S X t G) (ihe a) (ihe b)
  | Compare a ops cs p =>
   match ops,cs with
   | [o],[b] =>
    show PEi ce X _ (if Zbc o b then stE else Jc (cmpD P.ne o b) (ev P n S a) (ev P n S b))
    split
    ·exact Jh
    ·rename_i hb
     exact Jxs (Jtw hu (λ c z=>let ⟨C,p,q,_⟩:=G.pg.ne c z;⟨C,p,q⟩) o b) (ihe a) (ihe b) (Zat.mpr hb)
   | [o,o'],[b,c] =>
    show PEi ce X _ (if ZdA [o,o'] [b,c] then stE else Va (cmpI o) (cmpI o') (ev P n S a) (ev P n S b) (ev P n S c))
    split
    ·exact Jh
    ·rename_i hb
     exact Ju3 (X7 hu o) (X7 hu o') (ihe a) (ihe b) (ihe c) (Zat.mpr hb)
   | [],_=>exact Jh
   | [_],[]=>exact Jh
   | [_],_::_::_=>exact Jh
   | [_,_],[]=>exact Jh
   | [_,_],[_]=>exact Jh
   | [_,_],_::_::_::_=>exact Jh
   | _::_::_::_,_=>exact Jh
  | Tuple es j p =>
   show PEi ce X _ (if es.all Js then JE (aAll (es.map (ev P n S))) else stE)
   split
   ·rename_i hs
    exact Jx4 (V1 hs ihe)
   ·exact Jh
  | List es p =>
   show PEi ce X _ (if es.all Js then Jv (aAll (es.map (ev P n S))) else stE)
   split
   ·rename_i hs
    exact Jxx (V1 hs ihe)
   ·exact Jh
  | Subscript a i p =>
   cases i with
   | Slice lo hi st q =>
    cases st with
    | none=>exact Jva (J1t a) (ihe a) (ih.o S X lo G) (ih.o S X hi G)
    | some st=>exact Jh
   | _=>exact i_ix (J1s a) (ihe a) (ihe _) (Jmq rfl)
  | Attribute o f p =>
   show PEi ce X _ (if VR o&&P.fld f then eFld f (ev P n S o) else stE)
   split
   ·rename_i hs
    simp only[Zl] at hs
    exact J0u (ihe o) (G.pg.fld f hs.2) (YF hs.1)
   ·exact Jh
  | Call f args kws p =>
   cases kws with
   | cons kw kws =>
    cases f with
    | Name x q=>exact Jzo G λ S X e G=>ih.e S X e G
    | _=>exact Jh
   | nil =>
    cases f with
    | Name x q =>
     show PEi ce X _ (if S.gl x&&args.all Js then Jo6 P n S x args else stE)
     split
     ·rename_i hs
      simp only[Zl] at hs
      exact ih.c S X x args q p G hs.1 hs.2
     ·exact Jh
    | Attribute o m ap =>
     show PEi ce X _ (if args.all Js&&VR o&&(ap.endLine==p.line)&&decide (args.length<30) then Jp P m args.length (ev P n S o) (aAll (args.map (ev P n S))) else stE)
     split
     ·rename_i hs
      simp only[Zl,decide_eq_true_eq] at hs
      exact Jwf G (ihe o) ihe hs.1.1.1 hs.1.1.2 hs.1.2 hs.2
     ·exact Jh
    | _=>exact Jh
  | ListComp elt gens sc p =>
   match gens with
   | [⟨tg,iter,ifs,as⟩] =>
    show PEi ce X _ (if as=0/\V8 iter=Zh/\Qw S.N (Qe sc) (QD sc) (jsOf S sc) S.fake sc=Zh then
     YI ifs (evT P n (S.comp sc)) (λ mt=>J7 (evI P n S tg iter) (Qe sc).length (jsOf S sc) (tgt P n (S.comp sc) tg) mt (ev P n (S.comp sc) elt)) else stE)
    split
    ·rename_i hs
     obtain⟨rfl,hi,ok⟩:=hs
     have Gc:=G.comp ok
     have ok':=ok
     rw[<- Jfv G] at ok'
     match ifs with
     | []=>exact Jtk G.calm (ih.i S X tg iter G) (λ C s H fp=>ih.g _ _ tg (Gc C s H fp)) (λ C s H fp=>Jqv) (λ C s H fp=>ih.e _ _ elt (Gc C s H fp)) ok' G.n rfl (Xc hi)
     | [c]=>exact Jtk G.calm (ih.i S X tg iter G) (λ C s H fp=>ih.g _ _ tg (Gc C s H fp)) (λ C s H fp=>Jm5 (ih.t _ _ c (Gc C s H fp))) (λ C s H fp=>ih.e _ _ elt (Gc C s H fp)) ok' G.n rfl (Xc hi)
     | _::_::_=>exact Jh
    ·exact Jh
   | []=>exact Jh
   | ⟨_,_,_,_⟩::_::_=>exact Jh
  | _=>exact Jh
 ·have ihe:=λ e=>ih.e S X e G
  have hu:=G.room.units
  cases e with
  | UnaryOp op a p =>
   cases op with
   | Not=>exact Jzr (ih.t S X a G)
   | _=>exact Jsz XD (ihe _)
  | BoolOp op vs p =>
   cases op with
   | And=>exact(Jqs (λ e=>ih.t S X e G) vs).t
   | Or=>exact(Jwj (λ e=>ih.t S X e G) vs).t
  | IfExp t a b p=>exact Jh
  | Compare a ops cs p =>
   match ops,cs with
   | [o],[b] =>
    show PTi ce X _ (if Zbc o b then stT else Jj asB (Jc (cmpD P.ne o b) (ev P n S a) (ev P n S b)))
    split
    ·exact Jh
    ·rename_i hb
     exact Jzq (Jtw hu (λ c z=>let ⟨C,p,q,_⟩:=G.pg.ne c z;⟨C,p,q⟩) o b) (ihe a) (ihe b) (Zat.mpr hb)
   | [o,o'],[b,c] =>
    show PTi ce X _ (if ZdA [o,o'] [b,c] then stT else Jj asB (Va (cmpI o) (cmpI o') (ev P n S a) (ev P n S b) (ev P n S c)))
    split
    ·exact Jh
    ·rename_i hb
     exact Jwi (X7 hu o) (X7 hu o') (ihe a) (ihe b) (ihe c) (Zat.mpr hb)
   | [],_=>exact Jh
   | [_],[]=>exact Jh
   | [_],_::_::_=>exact Jh
   | [_,_],[]=>exact Jh
   | [_,_],[_]=>exact Jh
   | [_,_],_::_::_::_=>exact Jh
   | _::_::_::_,_=>exact Jh
  | _=>exact Jsz XD (ihe _)
 ·cases e with
  | none=>exact Jyy
  | some e=>exact Jyz (ih.e S X e G)
 ·have ihe:=λ e=>ih.e S X e G
  show PEi ce X _ (match P.fn x with
  | some f=>Jmm f args.length (aAll (args.map (ev P n S)))
  | none=>match P.cls x with
   | some f=>Jmn x f args.length (aAll (args.map (ev P n S)))
   | none=>if P.free x then Jiv P S x (ev P n S) args else stE)
  cases hx:P.fn x with
  | some f=>exact Jso G hx hg ha ihe
  | none =>
   dsimp only
   cases hc:P.cls x with
   | some f=>exact Jsp G hc hg ha ihe
   | none =>
    dsimp only
    split
    ·rename_i hfr
     exact Jqq G ihe hg ha hfr
    ·exact Jh
 ·have ihe:=λ e=>ih.e S X e G
  cases e with
  | Call f args kws p =>
   cases kws with
   | cons _ _=>cases f<;>exact Jrt (ihe _)
   | nil =>
    cases f with
    | Name x q =>
     show PIi ce X tg _ (if S.gl x&&P.free x&&args.all Js&&(x=="range") then Jxp args.length (aAll (args.map (ev P n S)))
      else if S.gl x&&P.free x&&args.all Js&&(x=="enumerate") then(match tg,args with
       | .Tuple ..,[a]=>iRg V4 (Ja (ev P n S a) Jd)
       | _,_=>stI)
      else iAny (ev P n S (.Call (.Name x q) args [] p)))
     split
     ·rename_i hs
      simp only[Zl,beq_iff_eq] at hs
      obtain⟨⟨⟨hg,hf⟩,ha⟩,rfl⟩:=hs
      obtain⟨gx,_,_⟩:=G.gl hg
      have hm:=G.pg.free _ hf
      have pa:=V1 ha ihe
      match args,ha,pa with
      | [],_,_=>exact Nd
      | [a],ha,pa =>
       simp only[Zas,Zl] at ha
       exact Jrv gx hm pa (J1 ha.1)
      | [a,b],ha,pa =>
       simp only[Zas,Zl] at ha
       exact Nd
      | _::_::_::_,_,_=>exact Nd
     ·split
      ·rename_i hs
       simp only[Zl,beq_iff_eq] at hs
       obtain⟨⟨⟨hg,hf⟩,ha⟩,rfl⟩:=hs
       obtain⟨gx,_,_⟩:=G.gl hg
       have hm:=G.pg.free _ hf
       split
       ·simp only[Zas,Zl] at ha
        exact Ju5 gx hm (QZ (ihe _) Vk (J1 ha.1)) (J1 ha.1)
       ·exact Nd
      ·exact Jrt (ihe _)
    | _=>exact Jrt (ihe _)
  | _=>exact Jrt (ihe _)
 ·cases e with
  | Name x p =>
   show PGi ce X _ (match S.sto x with|some i=>gNm i|none=>stG)
   cases hv:S.sto x with
   | none=>exact Nc
   | some i =>
    obtain⟨h1,h2,h3⟩:=G.sto hv
    exact g_nm G.nodup h1 h2 h3
  | Tuple es j p =>
   show PGi ce X _ (if es.all Js then gTp es.length (gAll (es.map (tgt P n S))) else stG)
   split
   ·rename_i hs
    exact J0k G.calm (Jti hs λ e=>ih.g S X e G) (Jtb hs) (Jok hs)
   ·exact Nc
  | Subscript o i p =>
   show PGi ce X _ (if Ye i then gSbF o (ev P n S o) (ev P n S i) else stG)
   split
   ·rename_i hs
    unfold gSbF
    split
    ·refine Jxh (ih.e S X o G) (ih.e S X i G) λ v=>?_
     cases i<;>first|rfl|cases hs
    ·refine J0j (ih.e S X o G) (ih.e S X i G) λ v=>?_
     cases i<;>first|rfl|cases hs
   ·exact Nc
  | _=>exact Nc
theorem Xj (ce:CeT)(k:Nat)(P:Pg):∀n,Snd ce k P n
 | 0=>Jsu
 | n+1=>Jst (Xj ce k P n)
end
section
variable {ce:CeT}{X:Cx}{pos:Pos}
end
section
variable {ce:CeT}{k:Nat}{P:Pg}{n:Nat}{S:Sc}{X:Cx}
theorem VC {f:Zbu->S1}(hf:∀s,PS1 ce X s (f s)):∀(l:List Zbu),PS2 ce X l (sAll (l.map f))
 | []=>Jza
 | [a]=>Jzb (hf a)
 | a::b::r=>Jv5 (hf a) (VC hf (b::r))
end
section
variable {ce:CeT}{k:Nat}{P:Pg}{S:Sc}{X:Cx}{xi:Xi}{xf:Str->Str->Bool}{fr:Str->Bool}
theorem Jro (G:Good ce k P S X)(O:XiOk X.K X.mg xi xf)(hi:∀x,fr x=Zh->X.mg x=Ze)(a:Zi){f:Expr}{as:List Expr}{ks:List ZcV}{p:Pos}{m:Expr->E1}(hm:∀e,PEi ce (Jl X a) e (m e)):PEi ce (Jl X a) (.Call f as ks p) (Juw S xi fr f as ks p m):=by
 unfold Juw
 split
 ·rename_i x q b D q2
  split
  ·rename_i h
   simp only[Zl,beq_iff_eq] at h
   obtain⟨⟨⟨⟨rfl,h0⟩,h1⟩,h2⟩,h3⟩:=h
   cases hx:xi D with
   | none=>exact Jh
   | some g =>
    obtain⟨v,hv,hg⟩:=O.1 D g hx
    obtain⟨gD,db,nn⟩:=G.gl h2
    have hc:ClsE (Jl X a) (.Name D q2) v:=by
     rcases hv with z|⟨z,w⟩
     ·exact Jll (X:=Jl X a) gD z db
     ·exact X4 (X:=Jl X a) gD z w nn db
    refine Jxw (X:=Jl X a) (c:=v) hc ⟨nofun,nofun,nofun,nofun,nofun,nofun,nofun,nofun,λ c C b e hC=>?_⟩ (hm b) (G.gl h1).1 (hi _ h0) rfl (J1 h3) rfl rfl
    obtain⟨e1,e2,_⟩:=hg c C b e hC
    exact⟨e1,e2⟩
  ·exact Jh
 ·rename_i x q b
  split
  ·rename_i h
   simp only[Zl,beq_iff_eq] at h
   obtain⟨⟨⟨rfl,h0⟩,h1⟩,h3⟩:=h
   obtain⟨gx,xdb,xn⟩:=G.gl h1
   exact YR (X:=Jl X a) Jw4 gx (hi _ h0) rfl (QZ (hm b) Vk (J1 h3)) xn xdb (J1 h3) rfl
  ·exact Jh
 ·rename_i o y ap b
  split
  ·rename_i h
   simp only[Zl,beq_iff_eq] at h
   obtain⟨⟨⟨rfl,h1⟩,h2⟩,h3⟩:=h
   exact i_bm (X:=Jl X a) Zcu PySem.F.slot_list_index PySem.F.type_list_index (Jr6 (X:=Jl X a) G.room.units) (hm o) (QZ (hm b) Vk (J1 h1)) (YF h2) (Jpg (es:=[b]) (by simp[h1]) (by simp)) (by simpa using h3) (J1 h1) rfl
  ·exact Jh
 ·exact Jh
theorem Jrp (G:Good ce k P S X)(a:Zi){w:Bool}(hw:w=Zh->Warm (Jl X a).A X.H₀){sc:Zbw}{elt:Expr}{gens:List Comprehension}{p:Pos}{m:Bool->Sc->Expr->E1}(hm:∀e,PEi ce (Jl X a) e (m w S e))
  (hc:Qw S.N (Qe sc) (QD sc) (jsOf S sc) S.fake sc=Zh->∀C s H fp e,PEi ce (Jl (cxC X (Qe sc++QD sc) sc C s H fp) a) e (m Zc (S.comp sc) e)):PEi ce (Jl X a) (.ListComp elt gens sc p) (Jux w S sc elt gens m):=by
 unfold Jux
 split
 ·rename_i y yp iter c cp as
  split
  ·rename_i hs
   obtain⟨rfl,rfl,hi,ok⟩:=hs
   have Gc:=G.comp ok
   have ok':=ok
   rw[<- Jfv G] at ok'
   cases hv:(S.comp sc).sto y with
   | none=>exact Jh
   | some i =>
    refine Ju4 (X:=Jl X a) (hw rfl) (Ju7 (hm iter)) (λ C s H fp=>?_) (λ C s H fp=>Jm5 (Jsz XD (hc ok C s H fp _))) (λ C s H fp=>hc ok C s H fp elt) ok' G.n rfl (Xc hi)
    obtain⟨h1,h2,h3⟩:=(Gc C s H fp).sto hv
    exact g_nm (X:=Jl (cxC X (Qe sc++QD sc) sc C s H fp) a) (Gc C s H fp).nodup h1 h2 h3
  ·exact Jh
 ·exact Jh
theorem Jrr (a:Zi):∀(n:Nat)(w:Bool)(S:Sc)(X:Cx),Good ce k P S X->XiOk X.K X.mg xi xf->(∀x,fr x=Zh->X.mg x=Ze)->(w=Zh->Warm (Jl X a).A X.H₀)->∀e,PEi ce (Jl X a) e (hv xi xf fr n w S e)
 | 0,_,_,_,_,_,_,_,_=>Jh
 | n+1,w,S,X,G,O,hi,hw,e=>by
  have ihe:=Jrr a n w S X G O hi hw
  have hu:(Jl X a).A.units+64<Zeq:=G.room.units
  cases e with
  | Constant c j p =>
   cases c with
   | int i=>exact Jxv
   | bool b=>exact i_bl
   | none=>exact Jx1
   | str x=>exact Jx3
   | _=>exact Jh
  | Name x p =>
   show PEi ce (Jl X a) (.Name x p) (match S.vis x with|some i=>Jb i|none=>stE)
   cases hv:S.vis x with
   | some i =>
    obtain⟨h1,h2,h3,h4⟩:=G.vis hv
    exact Jvb (X:=Jl X a) i h1 h2 h3 h4
   | none=>exact Jh
  | BinOp b op c p=>exact Jxq (Jyo op) (ihe b) (ihe c)
  | Compare b ops cs p =>
   match ops,cs with
   | [o],[c] =>
    show PEi ce (Jl X a) _ (if Zbc o c then stE else Jc (cmpI o) (hv xi xf fr n w S b) (hv xi xf fr n w S c))
    split
    ·exact Jh
    ·rename_i hb
     exact Jxs (X7 hu o) (ihe b) (ihe c) (Zat.mpr hb)
   | [],_=>exact Jh
   | [_],[]=>exact Jh
   | [_],_::_::_=>exact Jh
   | _::_::_,_=>exact Jh
  | Subscript b i p =>
   show PEi ce (Jl X a) _ (if Ye i then Jc Jg (hv xi xf fr n w S b) (hv xi xf fr n w S i) else stE)
   split
   ·rename_i h
    exact i_ix x_ix (ihe b) (ihe i) (Jmq h)
   ·exact Jh
  | UnaryOp op b p=>exact i_un (o_un op) (ihe b)
  | BoolOp op vs p =>
   cases op with
   | And=>exact Jo3 ihe vs
   | Or=>exact Juq ihe vs
  | Tuple es j p =>
   show PEi ce (Jl X a) _ (if es.all Js then JE (aAll (es.map (hv xi xf fr n w S))) else stE)
   split
   ·rename_i hs
    exact Jx4 (V1 hs ihe)
   ·exact Jh
  | List es p =>
   show PEi ce (Jl X a) _ (if es.all Js then Jv (aAll (es.map (hv xi xf fr n w S))) else stE)
   split
   ·rename_i hs
    exact Jxx (V1 hs ihe)
   ·exact Jh
  | Call f as ks p =>
   exact Jro G O hi a ihe
  | ListComp elt gens sc p =>
   exact Jrp G a hw ihe λ ok C s H fp e=>Jrr a n Zc _ _ (G.comp ok C s H fp) O hi (λ z=>by cases z) e
  | _=>exact Jh
theorem Jxl (G:Good ce k P S X)(O:XiOk X.K X.mg xi xf)(hi:∀x,fr x=Zh->X.mg x=Ze)(a:Zi){w:Bool}(hw:w=Zh->Warm (Jl X a).A X.H₀):∀n e,PTi ce (Jl X a) e (hT xi xf fr w S n e)
 | 0,_=>Jh
 | n+1,e=>by
  have ih:=Jxl G O hi a hw n
  have ihe:=Jrr a n w S X G O hi hw
  have hu:(Jl X a).A.units+64<Zeq:=G.room.units
  cases e with
  | UnaryOp op b p =>
   cases op with
   | Not=>exact Jzr (ih b)
   | _=>exact Jh
  | BoolOp op vs p =>
   cases op with
   | And=>exact(Jqs ih vs).t
   | Or=>exact(Jwj ih vs).t
  | Compare b ops cs p =>
   match ops,cs with
   | [o],[c] =>
    show PTi ce (Jl X a) _ (if Zbc o c then stT else Jj asB (Jc (cmpI o) (hv xi xf fr n w S b) (hv xi xf fr n w S c)))
    split
    ·exact Jh
    ·rename_i hb
     exact Jzq (X7 hu o) (ihe b) (ihe c) (Zat.mpr hb)
   | [],_=>exact Jh
   | [_],[]=>exact Jh
   | [_],_::_::_=>exact Jh
   | _::_::_,_=>exact Jh
  | Call f as ks p=>exact Jsz XD (ihe _)
  | _=>exact Jh
theorem Ju0 (G:Good ce k P S X)(O:XiOk X.K X.mg xi xf)(hi:∀x,fr x=Zh->X.mg x=Ze)(a:Zi){w:Bool}(hw:w=Zh->Warm (Jl X a).A X.H₀):∀n st,PS1 ce (Jl X a) st (hx xi xf fr w S n st)
 | 0,_=>JJ
 | n+1,st=>by
  have ih:=Ju0 G O hi a hw n
  have ihe:=Jrr a n w S X G O hi hw
  cases st with
  | Pass p=>exact Jt3
  | Return v p =>
   cases v with
   | none=>exact JJ
   | some e=>exact Jzf (ihe e)
  | If c x y p=>exact s_if (Jxl G O hi a hw n c) (VC ih x) (VC ih y)
  | Assign tgs e p =>
   match tgs with
   | []=>exact JJ
   | b::_::_=>cases b<;>exact JJ
   | [tg] =>
    cases tg with
    | Name x q =>
     show PS1 ce (Jl X a) _ (if Vs e then(match S.sto x with|some i=>Jk i (hv xi xf fr n w S e)|none=>stS) else stS)
     split
     ·rename_i h
      cases hv:S.sto x with
      | none=>exact JJ
      | some i =>
       obtain⟨h1,h2,h3⟩:=G.sto hv
       exact Jwa (X:=Jl X a) G.nodup (ihe e) h1 h2 (Yn h) h3
     ·exact JJ
    | _=>exact JJ
  | _=>exact JJ
theorem Jkk {a:Zi}{sl:Option Nat}{suite:List Zbu}:PSH ce X a sl suite stS:=λ _ _ _ _ _ _ _ _ _ _ _ _ _ _ _ _ _ K=>(show False from K).elim
theorem Jpd (G:Good ce k P S X)(ho:S.own=Zh)(n:Nat)(a:Zi)(sl:Option Nat)(suite:List Zbu):PSH ce X a sl suite (Jpc P S n sl suite):=by
 unfold Jpc
 split
 ·rename_i x px f pf e pe pc pos
  split
  ·rename_i j i g e1 e3
   split
   ·rename_i h
    simp only[Zl,decide_eq_true_eq] at h
    obtain⟨h1,h2⟩:=h
    obtain⟨fa,fd,qual,st,dV,N',p1,m,c1,c2,F,Sc',B,rfl,hb⟩:=G.pg.wr _ _ e3
    obtain⟨s1,s2,s3⟩:=G.sto e1
    obtain⟨v1,v2,v3,v4⟩:=G.vis h2
    obtain⟨g1,g2,g3⟩:=G.gl h1
    exact Jsf F Sc' hb (G.room3 ho) G.nodup s1 s2 s3 (Yn rfl) v1 (Jvb (X:=Jl X a) i v1 v2 v3 v4) g1 c1 c2 B g2
   ·exact Jkk
  ·exact Jkk
 ·exact(VC (Ju0 G G.pg.xi G.pg.free a (λ z=>by cases z) n) _).h
theorem J0l (G:Good ce k P S X)(O:XiOk X.K X.mg xi xf){D:Str}{g:Str->Option Bool}{q:Pos}(hx:xi D=Za g)(h2:S.gl D=Zh)(a:Zi)(c:Str)(C:Zi)(b:Bool)(pj:PnT)(σ:L2.St)(H:Hp)(s:Zj)(Q:Bool->Zj->Prop)(E:QvT)(hb:g c=Za b)
  (hC:W.nsIn X.K Zp c=Za (Za (.ref C)))(I:Inv (Jl X a) pj σ H s)(ho:∃oe,s.heap.get? a=Za oe/\oe.cls=.ref C)(hq:Q b s):Zz (ZE X.prog X.w) (Jl X a).A (ZaV (.Name D q) X.env) (λ v s₁=>Zz (ZE X.prog X.w) (Jl X a).A (excMatches (.ref a) v) Q E s₁) E s:=by
 obtain⟨v,hv,hg⟩:=O.1 D g hx
 obtain⟨gD,db,nn⟩:=G.gl h2
 have hc:ClsE (Jl X a) (.Name D q) v:=by
  rcases hv with z|⟨z,w⟩
  ·exact Jll (X:=Jl X a) gD z db
  ·exact X4 (X:=Jl X a) gD z w nn db
 refine hc pj σ H s _ E I ?_
 obtain⟨_,_,e3⟩:=hg c C b hb hC
 obtain⟨oe,h1,h2⟩:=ho
 obtain⟨hh,gg,d,tk,os⟩:=s
 have LT:W.Looks (ZE X.prog X.w) hh (Zez (.ref a)) (.ref C):=h2▸(W.Looks.ld h1).andThen .now
 exact(W.exm_one (I.kIn:X.K.In hh) LT e3).at hq
theorem Jo8 (G:Good ce k P S X)(ho:S.own=Zh){n:Nat}:∀{l:List Zbd}{ms:List HdI},hHds P S n l=Za ms->HdsOk ce X l ms
 | [],ms,e=>by cases e;exact .nil
 | h::r,ms,e=>by
  unfold hHds at e
  cases e1:hHd P S n h with
  | none=>rw[e1] at e;cases e
  | some q =>
   cases e2:hHds P S n r with
   | none=>rw[e1,e2] at e;cases e
   | some l =>
    rw[e1,e2] at e
    cases e
    unfold hHd at e1
    split at e1
    ·rename_i D q2 nm b suite pos
     split at e1
     ·rename_i hD
      cases e3:P.xi D with
      | none=>rw[e3] at e1;cases e1
      | some g =>
       cases e4:hSl S nm with
       | none=>rw[e3,e4] at e1;cases e1
       | some sl =>
        rw[e3,e4] at e1
        cases e1
        refine .cons ⟨λ a c C b pj σ H s Q E hb hC I ho hq=>J0l G G.pg.xi e3 hD a c C b pj σ H s Q E hb hC I ho hq,?_,λ a=>Jpd G ho n a sl _⟩ (Jo8 G ho e2)
        unfold hSl at e4
        cases nm with
        | none=>cases e4;exact .inl ⟨rfl,rfl⟩
        | some x =>
         dsimp only at e4
         split at e4
         ·rename_i hl
          obtain⟨i,hi',rfl⟩:=Z7.mp e4
          refine .inr ⟨x,i,rfl,rfl,by rw[G.n];exact YT hi',?_⟩
          rw[G.kind]
          exact beq_iff_eq.mp hl
         ·cases e4
     ·cases e1
    ·cases e1
end
section
variable {ce:CeT}{k:Nat}{P:Pg}{n:Nat}{S:Sc}{X:Cx}
theorem Jpb (G:Good ce k P S X){m:Expr->E1}(hm:∀e,PEi ce X e (m e)){exc cause:Option Expr}{p:Pos}:PS1 ce X (.Raise exc cause p) (Jpa P S m exc cause):=by
 unfold Jpa
 split
 ·rename_i x q e q2
  split
  ·rename_i h
   simp only[Zl] at h
   obtain⟨⟨h1,h2⟩,h3⟩:=h
   obtain⟨C,c1,c2,c3⟩:=G.pg.rz x h2
   obtain⟨gx,db,_⟩:=G.gl h1
   exact Jv9 G.calm gx c1 c2 c3 (QZ (hm e) Vk (J1 h3)) db (J1 h3) rfl
  ·exact JJ
 ·exact JJ
theorem Juz (G:Good ce k P S X){m:Zbu->S1}(hm:∀s,PS1 ce X s (m s)){body:List Zbu}{hs:List Zbd}{o f:List Zbu}{p:Pos}:PS1 ce X (.Try body hs o f p) (hTry P S n m body hs o f):=by
 unfold hTry
 split
 ·split
  ·rename_i h
   obtain⟨hk,hf⟩:=G.top h
   split
   ·rename_i ms e
    exact J1k G.nodup hk hf (VC hm body) (Jo8 G h e)
   ·exact JJ
  ·exact JJ
 ·exact JJ
theorem Jug {tg:Expr}{env:Env}(h:Js tg=Zh):(ZaJ [tg] env).map (·.2)=[Zd1 tg env]:=by
 cases tg<;>first|rfl|cases h
theorem Jss (G:Good ce k P S X)(i:Nat){e:Expr}{x:Str}{p q:Pos}(h:isLC e=Zh)(h1:X.N[i]?=Za x)(h2:L2.Loc X.env.scope x)(h3:X.fn x=Zh∨X.env.scope.names.lookup x=Za .local) :
  PS1 ce X (.Assign [.Name x q] e p) (Jk i (ev P n S e)):=by
 cases e with
 | ListComp elt gens sc cp =>
  cases hb:(X.env.blockKind==.function&&X.env.kindOf x==Za .local&&q.line==cp.line&&!(sc.names.any λ (n,k)=>n==x&&(k==.local||k==.cell))) with
  | false =>
   refine Jwa G.nodup ((Xj ce k P n).e S X _ G) h1 h2 ?_ h3
   show(pure (X.env.blockKind==.function&&X.env.kindOf x==Za .local&&q.line==cp.line&&!(sc.names.any λ (n,k)=>n==x&&(k==.local||k==.cell))):Sem Bool)=pure Zc
   rw[hb]
  | true =>
   have hsw:Zcs (.ListComp elt gens sc cp) (Za (.Name x q)) p.line X.env=pure Zh:=by
    show(pure (X.env.blockKind==.function&&X.env.kindOf x==Za .local&&q.line==cp.line&&!(sc.names.any λ (n,k)=>n==x&&(k==.local||k==.cell))):Sem Bool)=pure Zh
    rw[hb]
   have dead:∀m:E1,(∀σ h,m σ h=.stuck)->PS1 ce X (.Assign [.Name x q] (.ListComp elt gens sc cp) p) (Jk i m):=λ m hm=>by
    intro pj s σ H ι σi h Q E N K
    unfold Jk at K
    rw[hm] at K
    exact Zf K
   cases n with
   | zero=>exact dead _ λ _ _=>rfl
   | succ n =>
    have ih:=Xj ce k P n
    match gens,hsw with
    | [⟨tg,iter,ifs,as⟩],hsw =>
     show PS1 ce X _ (Jk i (if as=0/\V8 iter=Zh/\Qw S.N (Qe sc) (QD sc) (jsOf S sc) S.fake sc=Zh then
      YI ifs (evT P n (S.comp sc)) (λ mt=>J7 (evI P n S tg iter) (Qe sc).length (jsOf S sc) (tgt P n (S.comp sc) tg) mt (ev P n (S.comp sc) elt)) else stE))
     split
     ·rename_i hs
      obtain⟨rfl,hi,ok⟩:=hs
      have Gc:=G.comp ok
      have ok':=ok
      rw[<- Jfv G] at ok'
      match ifs,hsw with
      | [],hsw=>exact Jl6 G.calm (ih.i S X tg iter G) (λ C s H fp=>ih.g _ _ tg (Gc C s H fp)) (λ C s H fp=>Jqv) (λ C s H fp=>ih.e _ _ elt (Gc C s H fp)) ok' G.n rfl (Xc hi) G.nodup h1 h2 h3 hsw Jln (.inr rfl)
      | [c],hsw=>exact Jl6 G.calm (ih.i S X tg iter G) (λ C s H fp=>ih.g _ _ tg (Gc C s H fp)) (λ C s H fp=>Jm5 (ih.t _ _ c (Gc C s H fp))) (λ C s H fp=>ih.e _ _ elt (Gc C s H fp)) ok' G.n rfl (Xc hi) G.nodup h1 h2 h3 hsw Jln (.inr rfl)
      | _::_::_,_=>exact dead _ λ _ _=>rfl
     ·exact dead _ λ _ _=>rfl
    | [],_=>exact dead _ λ _ _=>rfl
    | ⟨_,_,_,_⟩::_::_,_=>exact dead _ λ _ _=>rfl
 | _=>cases h
theorem Jo7 {P:Pg}{b:Bool}{e:Expr}(h:isLC e=Zc):∀n S,evX P b n S e=ev P n S e:=λ n S=>by
 cases e<;>first|(cases n<;>rfl)|cases h
theorem Jzm (G:Good ce k P S X){b:Bool}{n:Nat}{e:Expr}{st:Zbu}{F:E1->S1}(hp:PS1 ce X st (F (ev P n S e)))(hd:PS1 ce X st (F stE))
  (hx:∀{elt tg iter:Expr}{ifs:List Expr}{sc:Zbw}{p:Pos}{mt:T1}{m:Nat},e=.ListComp elt [⟨tg,iter,ifs,0⟩] sc p->b=Zh->Qw S.N (Qe sc) (QD sc) (jsOf S sc) X.env.scope sc=Zh->V8 iter=Zh->(∀C s H fp,PTsi ce (cxC X (Qe sc++QD sc) sc C s H fp) ifs mt) ->
   (∀C s H fp,Good ce k P (S.comp sc) (cxC X (Qe sc++QD sc) sc C s H fp))->PS1 ce X st (F (Qx (evI P m S tg iter) (Qe sc).length (jsOf S sc) (tgt P m (S.comp sc) tg) mt (ev P m (S.comp sc) elt)))):PS1 ce X st (F (evX P b n S e)):=by
 cases hl:isLC e with
 | false=>rw[Jo7 hl];exact hp
 | true =>
  cases e with
  | ListComp elt gens sc cp =>
   match n,gens,hp with
   | 0,_,hp=>exact hp
   | m+1,[⟨tg,iter,ifs,as⟩],hp =>
    show PS1 ce X st (F (if (P.xc&&b)=Zh/\as=0/\V8 iter=Zh/\Qw S.N (Qe sc) (QD sc) (jsOf S sc) S.fake sc=Zh then
     YI ifs (evT P m (S.comp sc)) λ mt=>Qx (evI P m S tg iter) (Qe sc).length (jsOf S sc) (tgt P m (S.comp sc) tg) mt (ev P m (S.comp sc) elt) else ev P (m+1) S (.ListComp elt [⟨tg,iter,ifs,as⟩] sc cp)))
    split
    ·rename_i hs
     obtain⟨hb,rfl,hi,ok⟩:=hs
     have Gc:=G.comp ok
     have ok':=ok
     rw[<- Jfv G] at ok'
     have hb':b=Zh:=by simp only[Zl] at hb;exact hb.2
     match ifs with
     | []=>exact hx rfl hb' ok' hi (λ C s H fp=>Jqv) Gc
     | [c]=>exact hx rfl hb' ok' hi (λ C s H fp=>Jm5 ((Xj ce k P m).t _ _ c (Gc C s H fp))) Gc
     | _::_::_=>exact hd
    ·exact hp
   | _+1,[],hp=>exact hp
   | _+1,⟨_,_,_,_⟩::_::_,hp=>exact hp
  | _=>cases hl
theorem Jsq (G:Good ce k P S X){n:Nat}{e:Expr}{p:Pos}:PS1 ce X (.Return (Za e) p) (Jn (evX P S.own n S e)) :=
 Jzm (F:=Jn) G (Jzf ((Xj ce k P n).e S X e G)) JJ λ {elt tg iter ifs sc p mt m} he hb ok hi ht Gc=>by
  subst he
  have ih:=Xj ce k P m
  exact Jv0 G.calm (ih.i S X tg iter G) (λ C s H fp=>ih.g _ _ tg (Gc C s H fp)) ht (λ C s H fp=>ih.e _ _ elt (Gc C s H fp)) ok G.n rfl (Xc hi) (G.top hb).1 (G.top hb).2
theorem Jsr (G:Good ce k P S X)(i:Nat){n:Nat}{e:Expr}{x:Str}{p q:Pos}(h1:X.N[i]?=Za x)(h2:L2.Loc X.env.scope x)(h3:X.fn x=Zh∨X.env.scope.names.lookup x=Za .local)(hp:PS1 ce X (.Assign [.Name x q] e p) (Jk i (ev P n S e))) :
  PS1 ce X (.Assign [.Name x q] e p) (Jk i (evX P (swpB S x q e) n S e)) :=
 Jzm (F:=Jk i) G hp JJ λ {elt tg iter ifs sc cp mt m} he hb ok hi ht Gc=>by
  subst he
  have ih:=Xj ce k P m
  have hb2:(S.own&&(S.names.lookup x==Za .local&&q.line==cp.line&&!(sc.names.any λ (n,k)=>n==x&&(k==.local||k==.cell))))=Zh:=hb
  obtain⟨ho,hb3⟩:=Bool.and_eq_true_iff.mp hb2
  have hsw:Zcs (.ListComp elt [⟨tg,iter,ifs,0⟩] sc cp) (Za (.Name x q)) p.line X.env=pure Zh:=by
   show(pure (X.env.blockKind==.function&&X.env.kindOf x==Za .local&&q.line==cp.line&&!(sc.names.any λ (n,k)=>n==x&&(k==.local||k==.cell))):Sem Bool)=pure Zh
   have e1:X.env.blockKind=.function:=by unfold Env.blockKind;rw[G.fk];rfl
   have e2:X.env.kindOf x=S.names.lookup x:=by rw[<- G.sc];rfl
   rw[e1,e2]
   exact congrArg pure hb3
  exact Jl6 G.calm (ih.i S X tg iter G) (λ C s H fp=>ih.g _ _ tg (Gc C s H fp)) ht (λ C s H fp=>ih.e _ _ elt (Gc C s H fp)) ok G.n rfl (Xc hi) G.nodup h1 h2 h3 hsw (λ _ _=>.inr rfl) (.inl (G.top ho))
theorem Jm0 (ce:CeT)(k:Nat)(P:Pg):∀(n:Nat)(S:Sc)(X:Cx)(st:Zbu),Good ce k P S X->PS1 ce X st (ex P n S st)
 | 0,_,_,_,_=>JJ
 | n+1,S,X,st,G=>by
  have ih:=λ st=>Jm0 ce k P n S X st G
  have E:=Xj ce k P n
  have ihe:=λ e=>E.e S X e G
  cases st with
  | Pass p=>exact Jt3
  | Break p=>exact Jv8
  | Continue p=>exact Jzd
  | Expr e p =>
   show PS1 ce X _ (if Vs e then JK (ev P n S e) else stS)
   split
   ·rename_i h
    exact Jze (ihe e) (Yn h)
   ·exact JJ
  | Return v p =>
   cases v with
   | none=>exact Jzg
   | some e=>exact Jsq G
  | If c a b p=>exact s_if (E.t S X c G) (VC ih a) (VC ih b)
  | Raise exc cause p=>exact Jpb G ihe
  | Try body hs o f p=>exact Juz G ih
  | While c a o p=>exact JJ
  | For tg it a o p =>
   cases o with
   | nil =>
    show PS1 ce X _ (if V8 it&&S.own then sFor (evI P n S tg it) (tgt P n S tg) (sAll (a.map (ex P n S))) else stS)
    split
    ·rename_i h
     rw[Zl] at h
     obtain⟨hk,hf⟩:=G.top h.2
     exact J1j G.calm hk hf (E.i S X tg it G) (E.g S X tg G) (VC ih a) (Xc h.1)
    ·exact JJ
   | cons _ _=>exact JJ
  | Assign tgs e p =>
   match tgs with
   | []=>exact JJ
   | a::_::_=>cases a<;>exact JJ
   | [tg] =>
    have gen:PS1 ce X (.Assign [tg] e p) (if Vs e&&((Jr0 tg&&Jvo e)||Jrz tg) then sAsg (ev P n S e) (tgt P n S tg) else stS):=by
     split
     ·rename_i h
      simp only[Zl,Za7] at h
      have hst:Js tg=Zh:=by
       rcases h.2 with q|q
       ·cases tg<;>first|rfl|(simp[Jr0] at q)
       ·cases tg<;>first|rfl|(simp[Jrz] at q)
      refine J1h (ihe e) (E.g S X tg G) (Yn h.1) ?_ (Jug hst)
      rcases h.2 with q|q
      ·cases tg with
       | Tuple es j pp =>
        have q2:=q.2
        cases e<;>first|rfl|(simp[Jvo] at q2)
       | _=>simp[Jr0] at q
      ·cases tg with
       | Subscript=>cases e<;>rfl
       | _=>simp[Jrz] at q
     ·exact JJ
    cases tg with
    | Name x q =>
     show PS1 ce X _ (if Vs e||isLC e then(match S.sto x with|some i=>Jk i (evX P (swpB S x q e) n S e)|none=>stS) else stS)
     split
     ·rename_i h
      cases hv:S.sto x with
      | none=>exact JJ
      | some i =>
       obtain⟨h1,h2,h3⟩:=G.sto hv
       refine Jsr G i h1 h2 h3 ?_
       rcases Za7 _ _▸h with h|h
       ·exact Jwa G.nodup (ihe e) h1 h2 (Yn h) h3
       ·exact Jss G i h h1 h2 h3
     ·exact JJ
    | Attribute o f q =>
     show PS1 ce X _ (if Vs e||isLC e then Jv6 P f (ev P n S o) (ev P n S e) else stS)
     split
     ·rename_i h
      have hw:Zcs e (Za (.Attribute o f q)) p.line X.env=pure Zc:=by
       rcases Za7 _ _▸h with h|h
       ·exact Yn h
       ·cases e<;>first|rfl|cases h
      unfold Jv6
      split
      ·rename_i hf
       exact J1i (ihe o) (ihe e) (G.pg.fld f hf) hw
      ·exact JJ
     ·exact JJ
    | _=>exact gen
  | _=>exact JJ
end
structure D4 where
 st:Zbu
 qual:Str
 ps:List Str
 N:List Str
 dvs:List IV
def D4.sc (d:D4):Sc:=⟨d.N,(Jx d.st).names,Zh,d.qual⟩
structure Tab where
 fns:List (Str×D4)
 clss:List (Str×D4)
 meths:List (Str×List (Str×D4))
 cons:List (Str×IV)
 isas:List (Str×List Str)
 flds:List Str
 frees:List Str
 tabs:List Str:=[]
 razs:List Str:=[]
 xis:List (Str×List (Str×Bool)):=[]
 bass:List Str:=[]
 wrs:List (Str×D4):=[]
 nes:List Str:=[]
 xms:List (Str×D4):=[]
 xfs:List (Str×List Str):=[]
 xbs:List Str:=[]
 xcs:Bool:=Zc
def memS (x:Str):List Str->Bool
 | []=>Zc
 | y::r=>y==x||memS x r
def J0 {α:Type}(x:Str):List (Str×α)->Option α
 | []=>Ze
 | (y,a)::r=>if y==x then Za a else J0 x r
def xfOf (T:Tab)(f c:Str):Bool:=match J0 f T.xfs with|some l=>memS c l|none=>Zc
def runW (T:Tab)(d:D4):List IV->IH->Res IV:=fnI d.N.length (sAll ((Qc d.st).map (hx (λ D=>(J0 D T.xis).map λ l c=>J0 c l) (xfOf T) (λ x=>memS x T.frees) Zh { d.sc with own:=Zc } 40)))
def mkPg (T:Tab)(r:D4->List IV->IH->Res IV):Pg where
 fn:=λ x=>(J0 x T.fns).map λ d=>⟨d.ps.length,d.dvs,r d⟩
 cls:=λ x=>(J0 x T.clss).map λ d=>⟨d.ps.length,d.dvs,r d⟩
 meth:=λ c m=>((J0 c T.meths).bind (J0 m)).map λ d=>⟨d.ps.length,d.dvs,r d⟩
 con:=λ x=>J0 x T.cons
 isa:=λ x=>(J0 x T.isas).map λ l c=>memS c l
 fld:=λ x=>memS x T.flds
 free:=λ x=>memS x T.frees
 tabs:=λ q=>ixOf q T.tabs
 rz:=λ x=>memS x T.razs
 xi:=λ D=>(J0 D T.xis).map λ l c=>J0 c l
 bas:=λ x=>memS x T.bass
 wr:=λ x=>(J0 x T.wrs).map (runW T)
 ne:=λ x=>memS x T.nes
 xo:=λ x=>(J0 x T.xms).map λ d=>⟨d.ps.length,d.dvs,r d⟩
 xf:=xfOf T
 xb:=λ x=>memS x T.xbs
 xc:=T.xcs
def run (T:Tab):Nat->D4->List IV->IH->Res IV
 | 0,_=>λ _ _=>.stuck
 | k+1,d=>fnI d.N.length (sAll ((Qc d.st).map (ex (mkPg T (run T k)) 40 d.sc)))
theorem Q7 {α:Type}{x:Str}{a:α}:∀{l:List (Str×α)},J0 x l=Za a->(x,a)∈l
 | [],h=>by cases h
 | (y,b)::r,h=>by
  unfold J0 at h
  split at h
  ·rename_i e
   cases h
   rw[beq_iff_eq.mp e]
   exact Zv
  ·exact Zs _ (Q7 h)
theorem VP {x:Str}:∀{l:List Str},memS x l=Zh->x∈l
 | [],h=>by cases h
 | y::r,h=>by
  unfold memS at h
  rcases Za7 _ _▸h with e|e
  ·rw[beq_iff_eq.mp e]
   exact Zv
  ·exact Zs _ (VP e)
structure DefOk (K:W.Frag)(x:Str)(d:D4)(fa:Zi)(fd:Zax):Prop where
 fun_:∃dV,FunD K x d.qual d.st fa fd dV
 sc:FnScope d.N d.ps (Jx d.st)
 dv:∀j,j<=d.dvs.length->∃ds,Q2 K fd d.ps ds/\ds.length=d.dvs.length-j/\∃vs,Vals vs ds/\∀ι H,RVs K ι H (d.dvs.drop j) vs
structure TabOk (ce:CeT)(T:Tab)(K:W.Frag)(mg:Str->Option Zg):Prop where
 fn:∀x d,(x,d)∈T.fns->∃fa fd,mg x=Za (.ref fa)/\DefOk K x d fa fd
 cls:∀x d,(x,d)∈T.clss->∃C fa fd,mg x=Za (.ref C)/\ce x=Za C/\Mk K C fa/\DefOk K "__init__" d fa fd
 meth:∀c l m d,(c,l)∈T.meths->(m,d)∈l->∃C fa fd,ce c=Za C/\Cls K C/\Meth K C m fa/\DefOk K m d fa fd
 con:∀x v,(x,v)∈T.cons->∃u y,mg x=Za u/\RelV y u/\∀ι H,RV K ι H v y
 isa:∀D l,(D,l)∈T.isas->∃c,mg D=Za c/\IsOk ce K c λ t=>match t with|.ins c=>Za (memS c l)|.exc _=>Ze|_=>Za Zc
 fld:∀f,f∈T.flds->Jq9 ce K f
 free:∀x,x∈T.frees->mg x=Ze
 rz:∀x,x∈T.razs->∃C,mg x=Za (.ref C)/\W.nsIn K Zp x=Za (Za (.ref C))/\XCls K C
 xi:∀D l,(D,l)∈T.xis->∃v,(mg D=Za v∨(mg D=Ze/\Zbo D=Za v))/\∀c b,(c,b)∈l->∃C,W.nsIn K Zp c=Za (Za (.ref C))/\ExI K C/\W.kitOne K (.ref C) v=Za b/\W.exmOne K (.ref C) v=Za b
 bas:∀x,x∈T.bass->∃C,mg x=Za (.ref C)/\BasK K C
 wr:∀x d,(x,d)∈T.wrs->∃fa fd p,mg x=Za (.ref fa)/\DefOk K x d fa fd/\d.ps=[p]/\d.dvs=[]
 ne:∀c,c∈T.nes->∃C,ce c=Za C/\neIn K C=Zh/\ClsI K C/\W.kitOne K (.ref C) (.type "list")=Za Zc
 xo:∀x d,(x,d)∈T.xms->∃C fa fd,mg x=Za (.ref C)/\W.nsIn K Zp x=Za (Za (.ref C))/\Y1 K C fa=Zh/\W.keepIn K (.ref C)=Zh/\(∀h:Zak,K.In h->ExC h C)/\DefOk K "__init__" d fa fd
 xf:∀f l c,(f,l)∈T.xfs->c∈l->∃C,W.nsIn K Zp c=Za (Za (.ref C))/\StoX K C f/\ExI K C/\W.findIn K (.ref C) f=Za Ze
 xb:∀x,x∈T.xbs->∃C,mg x=Za (.ref C)/\BasX K C
section
variable {ce:CeT}{T:Tab}{prog:ZG}{w:ZX}{K:W.Frag}{mg:Str->Option Zg}{base:Zak}
theorem Jni {k:Nat}{fa:Zi}{fd:Zax}{ps:List Str}:FnOk prog w K mg base (CXI prog w) k fa fd ps (spI ce K ps λ _ _=>.stuck) :=
 ⟨λ _ _ _ _ h=>h.1,λ _ _ _ _ _ _ _ _ _ _ _ _ _ h=>by obtain⟨_,_,_,_,_,_,z⟩:=h;exact z.elim⟩
def P0:Pg:=⟨λ _=>Ze,λ _=>Ze,λ _ _=>Ze,λ _=>Ze,λ _=>Ze,λ _=>Zc,λ _=>Zc,λ _=>Ze,λ _=>Zc,λ _=>Zc,λ _=>Ze,λ _=>Ze,λ _=>Zc,λ _=>Ze,λ _ _=>Zc,λ _=>Zc,Zc⟩
theorem pg0 {k:Nat}:PgOk ce k P0 prog w K mg base:=⟨nofun,nofun,nofun,nofun,nofun,nofun,nofun,nofun,nofun,⟨nofun,nofun⟩,nofun,nofun,nofun,nofun,nofun⟩
theorem Jz4 (O:TabOk ce T K mg):XiOk K mg (λ D=>(J0 D T.xis).map λ l c=>J0 c l) (xfOf T):=by
 refine⟨λ D g h=>?_,λ f c C h hC=>?_⟩
 rotate_left
 ·have h':(match J0 f T.xfs with|some l=>memS c l|none=>Zc)=Zh:=h
  cases hl:J0 f T.xfs with
  | none=>rw[hl] at h';cases h'
  | some l =>
   rw[hl] at h'
   obtain⟨C',q,r⟩:=O.xf f l c (Q7 hl) (VP h')
   rw[hC] at q
   cases q
   exact r
 obtain⟨l,hl,rfl⟩:=Z7.mp h
 obtain⟨v,hv,hc⟩:=O.xi D l (Q7 hl)
 refine⟨v,hv,λ c C b e hC=>?_⟩
 obtain⟨C',h1,h2⟩:=hc c b (Q7 e)
 rw[hC] at h1
 cases h1
 exact h2
theorem J1r (O:TabOk ce T K mg){k:Nat}{x:Str}{r:List IV->IH->Res IV}(h:(J0 x T.wrs).map (runW T)=Za r):∃fa fd qual st dV N' p1 m,mg x=Za (.ref fa)/\W.keepIn K (.ref fa)=Zh/\FunD K x qual st fa fd dV/\FnScope N' [p1] (Jx st)/\Q2 K fd [p1] []/\r=fnI N'.length m /\
  ∀(cdv:Zg)(A:ZO)(outer:List Env)(s:Zj)(H:Hp)(E:XK)(a:Zi),W.codeIn K cdv qual=Zh->Room (k+2) (A.deeper (Zc9 qual (Jx st) s.heap.objs.size fa cdv))->Warm (A.mark (Za (.ref a))) H->PS2 ce (Jl (cxOf (CXI prog w) prog w K mg base N' qual (Jx st) fa cdv A outer s H E).nox a) (Qc st) m:=by
 obtain⟨d,hd,rfl⟩:=Z7.mp h
 obtain⟨fa,fd,p,hm,ok,hp,hdv⟩:=O.wr x d (Q7 hd)
 obtain⟨dV,F⟩:=ok.fun_
 refine⟨fa,fd,d.qual,d.st,dV,d.N,p,_,hm,F.kp,F,hp▸ok.sc,?_,rfl,λ cdv A outer s H E a hcd hr hw=>?_⟩
 ·obtain⟨ds,b,l,_⟩:=ok.dv 0 (Zar _)
  rw[hdv] at l
  cases ZaK l
  rw[<- hp]
  exact b
 ·refine VC (Ju0 (k:=0) (P:=P0) ?_ (Jz4 O) (λ x h=>O.free x (VP h)) a (λ _=>?_) 40) _
  ·exact⟨rfl,rfl,ok.sc.nd,ok.sc.kind,rfl,hr.mono (by omega),λ z=>absurd z Zy,pg0,λ z=>absurd z Zy,λ z=>absurd z Zy,λ z=>absurd z Zy⟩
  ·obtain⟨b,oe,u,vs,e1,e2,e3,e4⟩:=hw
   exact⟨b,oe,u,vs,e1,e2,e3,e4⟩
theorem J1a (O:TabOk ce T K mg)(B:T.tabs≠[]->Jq8 mg base)(k:Nat)(hD:∀x d fa fd,DefOk K x d fa fd->FnD ce prog w K mg base (4*k) ⟨d.ps.length,d.dvs,run T k d⟩ fa fd d.ps):PgOk ce (4*k) (mkPg T (run T k)) prog w K mg base:=by
 refine⟨λ x f h=>?_,λ x f h=>?_,λ c m f h=>?_,λ x v h=>?_,λ D g h=>?_,λ f h=>?_,λ x h=>?_,λ q j h=>B λ e=>?_,λ x h=>O.rz x (VP h),Jz4 O,λ x h=>O.bas x (VP h),λ x r h=>J1r O h,λ c h=>O.ne c (VP h),λ x f h=>?_,λ x h=>O.xb x (VP h)⟩
 ·obtain⟨d,hd,rfl⟩:=Z7.mp h
  obtain⟨fa,fd,hm,ok⟩:=O.fn x d (Q7 hd)
  obtain⟨dV,F⟩:=ok.fun_
  exact⟨fa,fd,d.ps,hm,F.kp,hD x d fa fd ok⟩
 ·obtain⟨d,hd,rfl⟩:=Z7.mp h
  obtain⟨C,fa,fd,hm,hC,M,ok⟩:=O.cls x d (Q7 hd)
  exact⟨C,fa,fd,d.ps,hm,hC,M,hD _ d fa fd ok⟩
 ·obtain⟨d,hd,rfl⟩:=Z7.mp h
  obtain⟨l,hl,hd⟩:=Option.bind_eq_some_iff.mp hd
  obtain⟨C,fa,fd,hC,cl,me,ok⟩:=O.meth c l m d (Q7 hl) (Q7 hd)
  exact⟨C,fa,fd,d.ps,hC,cl,me,hD m d fa fd ok⟩
 ·exact O.con x v (Q7 h)
 ·obtain⟨l,hl,rfl⟩:=Z7.mp h
  exact O.isa D l (Q7 hl)
 ·exact O.fld f (VP h)
 ·exact O.free x (VP h)
 ·have h':ixOf q T.tabs=Za j:=h
  rw[e] at h'
  cases h'
 ·obtain⟨d,hd,rfl⟩:=Z7.mp h
  obtain⟨C,fa,fd,h1,h2,h3,h4,h5,ok⟩:=O.xo x d (Q7 hd)
  exact⟨C,fa,fd,d.ps,h1,h2,h3,h4,h5,hD _ d fa fd ok⟩
theorem Jtf (O:TabOk ce T K mg)(B:T.tabs≠[]->Jq8 mg base):∀k x d fa fd,DefOk K x d fa fd->FnD ce prog w K mg base (4*k) ⟨d.ps.length,d.dvs,run T k d⟩ fa fd d.ps
 | 0,x,d,fa,fd,ok=>⟨rfl,Jni,ok.dv⟩
 | k+1,x,d,fa,fd,ok=>by
  refine⟨rfl,?_,ok.dv⟩
  obtain⟨dV,F⟩:=ok.fun_
  show FnOk prog w K mg base (CXI prog w) (4*k+3+1) fa fd d.ps (spI ce K d.ps (run T (k+1) d))
  refine F.fn (m:=sAll ((Qc d.st).map (ex (mkPg T (run T k)) 40 d.sc))) ok.sc λ cdv A outer s H E hcd hr=>?_
  refine VC (λ st=>Jm0 ce (4*k) (mkPg T (run T k)) 40 d.sc _ st ?_) _
  exact⟨rfl,rfl,ok.sc.nd,ok.sc.kind,rfl,hr.mono (by omega),λ _ _=>rfl,J1a O B k (Jtf O B k),λ _=>⟨hcd,rfl⟩,λ _=>hr,λ _=>⟨rfl,rfl⟩⟩
end
inductive All {α:Type}(p:α->Prop):List α->Prop
 | nil:All p []
 | cons {a:α}{l:List α}:p a->All p l->All p (a::l)
theorem All.mem {α:Type}{p:α->Prop}:∀{l:List α}{a:α},All p l->a∈l->p a
 | _,_,.nil,h=>by cases h
 | _,_,.cons h r,m=>by
  rcases Zt.mp m with rfl|m
  ·exact h
  ·exact r.mem m
def Jta (l:List Str):Ty->Option Bool:=λ t=>match t with|.ins c=>Za (memS c l)|.exc _=>Ze|_=>Za Zc
section
variable {T:Tab}{K:W.Frag}{mg:Str->Option Zg}
def ceOf (ces:List (Str×Zi)):CeT:=λ c=>J0 c ces
def kits (K:W.Frag)(v:Zg)(l:List (Zi×Bool)):Bool:=l.all λ p=>W.kitOne K (.ref p.1) v==Za p.2&&W.exmOne K (.ref p.1) v==Za p.2
theorem QX {v:Zg}:∀{cs:List (Str×Zi)}{bs:List Bool},All (λ p:Str×Zi=>W.nsIn K Zp p.1=Za (Za (.ref p.2))/\ExI K p.2) cs->cs.length=bs.length->kits K v ((cs.map (·.2)).zip bs)=Zh ->
  All (λ p:Str×Bool=>∃C,W.nsIn K Zp p.1=Za (Za (.ref C))/\ExI K C/\W.kitOne K (.ref C) v=Za p.2/\W.exmOne K (.ref C) v=Za p.2) ((cs.map (·.1)).zip bs)
 | [],[],_,_,_=>.nil
 | (_,C)::_,_::_,.cons h r,e,q=>by
  simp only[kits,ZA,List.zip_cons_cons,Zas,Zl,beq_iff_eq] at q
  exact .cons ⟨C,h.1,h.2,q.1.1,q.1.2⟩ (QX r (by simpa using e) (by simpa only[kits] using q.2))
 | [],_::_,_,e,_=>by cases e
 | _::_,[],_,e,_=>by cases e
theorem Jzs (ces:List (Str×Zi))(fn:All (λ p:Str×D4=>∃fa fd,mg p.1=Za (.ref fa)/\DefOk K p.1 p.2 fa fd) T.fns)
  (cls:All (λ p:Str×D4=>∃C fa fd,mg p.1=Za (.ref C)/\ceOf ces p.1=Za C/\Mk K C fa/\DefOk K "__init__" p.2 fa fd) T.clss)
  (meth:All (λ q:Str×List (Str×D4)=>∃C,ceOf ces q.1=Za C/\All (λ p:Str×D4=>∃fa fd,Meth K C p.1 fa/\DefOk K p.1 p.2 fa fd) q.2) T.meths)
  (con:All (λ p:Str×IV=>∃u y,mg p.1=Za u/\RelV y u/\∀ι H,RV K ι H p.2 y) T.cons)
  (cl:All (λ p:Str×Zi=>ClsI K p.2/\All (λ f=>VG K p.2 f) T.flds) ces)
  (isa:All (λ q:Str×List Str=>∃D,mg q.1=Za (.ref D)/\W.kitOne K (.type "NoneType") (.ref D)=Za Zc/\W.kitOne K (.type "bool") (.ref D)=Za Zc/\W.kitOne K (.type "int") (.ref D)=Za Zc/\W.kitOne K (.type "str") (.ref D)=Za Zc /\
   W.kitOne K (.type "list") (.ref D)=Za Zc/\W.kitOne K (.type "tuple") (.ref D)=Za Zc/\W.kitOne K (.type "dict") (.ref D)=Za Zc/\All (λ p:Str×Zi=>W.kitOne K (.ref p.2) (.ref D)=Za (memS p.1 q.2)) ces) T.isas)
  (free:All (λ x=>mg x=Ze) T.frees)
  (raz:All (λ x=>∃C,mg x=Za (.ref C)/\W.nsIn K Zp x=Za (Za (.ref C))/\XCls K C) T.razs:=by exact .nil)
  (xis:All (λ q:Str×List (Str×Bool)=>∃v,(mg q.1=Za v∨(mg q.1=Ze/\Zbo q.1=Za v))/\All (λ p:Str×Bool=>∃C,W.nsIn K Zp p.1=Za (Za (.ref C))/\ExI K C/\W.kitOne K (.ref C) v=Za p.2/\W.exmOne K (.ref C) v=Za p.2) q.2) T.xis:=by exact .nil)
  (bas:All (λ x=>∃C,mg x=Za (.ref C)/\BasK K C) T.bass:=by exact .nil)
  (wr:All (λ q:Str×D4=>(∃fa fd,mg q.1=Za (.ref fa)/\DefOk K q.1 q.2 fa fd)/\∃p,q.2.ps=[p]/\q.2.dvs=[]) T.wrs:=by exact .nil)
  (nes:All (λ c=>∃C,ceOf ces c=Za C/\neIn K C=Zh/\W.kitOne K (.ref C) (.type "list")=Za Zc) T.nes:=by exact .nil)
  (xms:All (λ p:Str×D4=>∃C fa fd,mg p.1=Za (.ref C)/\W.nsIn K Zp p.1=Za (Za (.ref C))/\Y1 K C fa=Zh/\W.keepIn K (.ref C)=Zh/\(∀h:Zak,K.In h->ExC h C)/\DefOk K "__init__" p.2 fa fd) T.xms:=by exact .nil)
  (xfs:All (λ q:Str×List Str=>All (λ c=>∃C,W.nsIn K Zp c=Za (Za (.ref C))/\StoX K C q.1/\ExI K C/\W.findIn K (.ref C) q.1=Za Ze) q.2) T.xfs:=by exact .nil)
  (xbs:All (λ x=>∃C,mg x=Za (.ref C)/\BasX K C) T.xbs:=by exact .nil):TabOk (ceOf ces) T K mg:=by
 refine⟨λ x d h=>fn.mem h,λ x d h=>cls.mem h,λ c l m d hc hm=>?_,λ x v h=>con.mem h,λ D l h=>?_,λ f hf=>?_,λ x h=>free.mem h,λ x h=>raz.mem h,λ D l h=>?_,λ x h=>bas.mem h,λ x d h=>let ⟨⟨fa,fd,a,b⟩,p,c,e⟩:=wr.mem h;⟨fa,fd,p,a,b,c,e⟩,λ c h=>let ⟨C,p,q,r⟩:=nes.mem h;⟨C,p,q,(cl.mem (Q7 p)).1,r⟩,λ x d h=>xms.mem h,λ f l c h hc=>(xfs.mem h).mem hc,λ x h=>xbs.mem h⟩
 ·obtain⟨C,hC,hl⟩:=meth.mem hc
  obtain⟨fa,fd,me,ok⟩:=hl.mem hm
  exact⟨C,fa,fd,hC,(cl.mem (Q7 hC)).1.cl,me,ok⟩
 ·obtain⟨C,hC,h1,h2,h3,h4,h5,h6,h7,h8⟩:=isa.mem h
  refine⟨_,hC,⟨λ b e=>?_,λ b e=>?_,λ b e=>?_,λ b e=>?_,λ b e=>?_,λ b e=>?_,λ b e=>?_,λ k C' b e hk=>?_,(λ k C' b e=>by cases e)⟩⟩
  ·cases e;exact h1
  ·cases e;exact h2
  ·cases e;exact h3
  ·cases e;exact h4
  ·cases e;exact h5
  ·cases e;exact h6
  ·cases e;exact h7
  ·cases e
   exact⟨(cl.mem (Q7 hk)).1,h8.mem (Q7 hk)⟩
 ·intro c C e
  obtain⟨h1,h2⟩:=cl.mem (Q7 e)
  exact⟨h1.cl,h2.mem hf⟩
 ·obtain⟨v,hv,hl⟩:=xis.mem h
  exact⟨v,hv,λ c b hc=>hl.mem hc⟩
theorem len1 {α:Type}{P:List α->Prop}(F0:∀a,P [a]):∀us:List α,us.length=1->P us
 | [a],_=>F0 a
theorem len2 {α:Type}{P:List α->Prop}(F0:∀a b,P [a,b]):∀us:List α,us.length=2->P us
 | [a,b],_=>F0 a b
theorem len3 {α:Type}{P:List α->Prop}(F0:∀a b c,P [a,b,c]):∀us:List α,us.length=3->P us
 | [a,b,c],_=>F0 a b c
theorem len4 {α:Type}{P:List α->Prop}(F0:∀a b c d,P [a,b,c,d]):∀us:List α,us.length=4->P us
 | [a,b,c,d],_=>F0 a b c d
theorem len5 {α:Type}{P:List α->Prop}(F0:∀a b c d e,P [a,b,c,d,e]):∀us:List α,us.length=5->P us
 | [a,b,c,d,e],_=>F0 a b c d e
theorem len6 {α:Type}{P:List α->Prop}(F0:∀a b c d e f,P [a,b,c,d,e,f]):∀us:List α,us.length=6->P us
 | [a,b,c,d,e,f],_=>F0 a b c d e f
theorem len7 {α:Type}{P:List α->Prop}(F0:∀a b c d e f g,P [a,b,c,d,e,f,g]):∀us:List α,us.length=7->P us
 | [a,b,c,d,e,f,g],_=>F0 a b c d e f g
theorem J1o:∀j:Nat,j<=3->j=0∨j=1∨j=2∨j=3:=by omega
theorem Jte {x:Str}{d:D4}{fa:Zi}{oc kV doc pm cdv ct:Zg}{od an:Option Zi}{osl:Array (Option Zg)}(lk:K.lookup fa=Za ⟨oc,od,.func (W.fnOf x d.qual (QR d.st) (Qc d.st) (Jx d.st) .none kV doc pm an cdv ct),osl⟩)
  (hc:W.codeIn K cdv d.qual=Zh)(hk:W.keepIn K (.ref fa)=Zh)(sc:FnScope d.N d.ps (Jx d.st))(hd:d.dvs=[])
  (hb:∀us:List Zg,us.length=d.ps.length->bindArgs (W.fnOf x d.qual (QR d.st) (Qc d.st) (Jx d.st) .none kV doc pm an cdv ct) ⟨us,[]⟩=pure (d.ps.zip us)) :
  DefOk K x d fa (W.fnOf x d.qual (QR d.st) (Qc d.st) (Jx d.st) .none kV doc pm an cdv ct) :=
 ⟨⟨_,⟨oc,od,kV,doc,pm,an,cdv,ct,osl,rfl,lk,hc⟩,hk⟩,sc,λ j hj=>⟨[],.all hb,by rw[hd];simp,[],.nil,by rw[hd];intro _ _;cases j<;>exact rfl⟩⟩
def scOk (N P:List Str)(sc:Zbw):Bool :=
 sc.kind==.function&&!sc.isCoroutine&&!sc.isGenerator&&decide N.Nodup&&decide (N.take P.length=P)&&P.all (λ x=>sc.names.lookup x==Za .local||sc.names.lookup x==Za .cell)&&sc.names.all (λ y=>!(y.2==.free))
theorem scOk.of {N P:List Str}{sc:Zbw}(h:scOk N P sc=Zh):FnScope N P sc:=by
 simp only[scOk,Zl,beq_iff_eq,Zaf,decide_eq_true_eq,Zab,Za7,beq_eq_false_iff_ne] at h
 obtain⟨⟨⟨⟨⟨⟨h1,h2⟩,h3⟩,h4⟩,h5⟩,h6⟩,h7⟩:=h
 exact⟨h1,h2,h3,h4,h5,h6,h7⟩
def FnB (x q:Str)(d:D4):Prop:=FnScope d.N d.ps (Jx d.st)/\d.dvs=[]/\d.qual=q/\∀(kV doc pm:Zg)(an:Option Zi)(cdv ct:Zg)(us:List Zg),us.length=d.ps.length->bindArgs (W.fnOf x d.qual (QR d.st) (Qc d.st) (Jx d.st) .none kV doc pm an cdv ct) ⟨us,[]⟩=pure (d.ps.zip us)
section
variable {x q:Str}{d:D4}{h:Zak}{a C:Zi}{oc kV dc pm cd ct:Zg}{od an:Option Zi}{sl:Array (Option Zg)}
theorem Jp1 (B:FnB x q d)(hl:K.lookup a=Za ⟨oc,od,.func (W.fnOf x q (QR d.st) (Qc d.st) (Jx d.st) .none kV dc pm an cd ct),sl⟩)(hc:W.codeIn K cd q=Zh)(hk:W.keepIn K (.ref a)=Zh):∃fd,DefOk K x d a fd:=by
 obtain⟨s,v,rfl,b⟩:=B
 exact⟨_,Jte hl hc hk s v (b _ _ _ _ _ _)⟩
theorem JD (X:K.In h)(G:h.Ns Zp mg)(B:FnB x q d)(ha:W.nsIn K Zp x=Za (Za (.ref a)):=by k_is)(hl:K.lookup a=Za ⟨oc,od,.func (W.fnOf x q (QR d.st) (Qc d.st) (Jx d.st) .none kV dc pm an cd ct),sl⟩:=by k_is)(hc:W.codeIn K cd q=Zh:=by k_is)(hk:W.keepIn K (.ref a)=Zh:=by k_is):∃fa fd,mg x=Za (.ref fa)/\DefOk K x d fa fd :=
 let ⟨fd,D⟩:=Jp1 B hl hc hk
 ⟨a,fd,W.mg_of X G ha,D⟩
theorem Jvk (B:FnB x q d)(ha:W.findIn K (.ref C) x=Za (Za (.ref a)):=by k_is)(hi:W.isFn K (.ref a)=Zh:=by k_is)(hl:K.lookup a=Za ⟨oc,od,.func (W.fnOf x q (QR d.st) (Qc d.st) (Jx d.st) .none kV dc pm an cd ct),sl⟩:=by k_is)(hc:W.codeIn K cd q=Zh:=by k_is)(hk:W.keepIn K (.ref a)=Zh:=by k_is):∃fa fd,Meth K C x fa/\DefOk K x d fa fd :=
 let ⟨fd,D⟩:=Jp1 B hl hc hk
 ⟨a,fd,⟨ha,hi,hk⟩,D⟩
theorem J0v (B:FnB "__init__" q d)(ha:W.findIn K (.ref C) "__init__"=Za (Za (.ref a)):=by k_is)(hi:W.isFn K (.ref a)=Zh:=by k_is)(hl:K.lookup a=Za ⟨oc,od,.func (W.fnOf "__init__" q (QR d.st) (Qc d.st) (Jx d.st) .none kV dc pm an cd ct),sl⟩:=by k_is)(hc:W.codeIn K cd q=Zh:=by k_is)(hk:W.keepIn K (.ref a)=Zh:=by k_is)(hm:W.makesIn K C=Zh:=by k_is)(hq:W.keepIn K (.ref C)=Zh:=by k_is):∃fa fd,Mk K C fa/\DefOk K "__init__" d fa fd :=
 let ⟨fd,D⟩:=Jp1 B hl hc hk
 ⟨a,fd,⟨hm,ha,hi,hq⟩,D⟩
end
theorem Jvf {ce:CeT}{prog:ZG}{w:ZX}{base:Zak}(O:TabOk ce T K mg)(B:T.tabs≠[]->Jq8 mg base)(k:Nat){d:D4}{fa:Zi}{fd:Zax}{x:Str}(hp:d.ps=[x])(ok:DefOk K "law" d fa fd) :
  FnOk prog w K mg base (CXI prog w) (4*k) fa fd [x] (Yk K x (run T k d)):=by
 have:=(Jtf (prog:=prog) (w:=w) (base:=base) O B k "law" d fa fd ok).ok
 rw[hp] at this
 exact Jrl this
end
def WR {α:Type}(r:Res α)(Q:α->IH->Prop):Prop:=match r with
 | .ok a h=>Q a h
 | _=>False
def WS (r:SRes)(N:ISt->IH->Prop)(R:IV->IH->Prop):Prop:=match r with
 | .next σ h=>N σ h
 | .ret v h=>R v h
 | _=>False
section
variable {α β:Type}{σ:ISt}{h:IH}{Q:α->IH->Prop}{N:ISt->IH->Prop}{R:IV->IH->Prop}
theorem WR.mono {r:Res α}{P Q:α->IH->Prop}(x:WR r P)(f:∀a h,P a h->Q a h):WR r Q:=by
 cases r with
 | ok a h=>exact f a h x
 | exc n h=>exact x
 | stuck=>exact x
theorem Qm {r:Res α}{a:α}{h:IH}(e:r=.ok a h)(q:Q a h):WR r Q:=by rw[e];exact q
theorem WR.eq {r:Res α}(x:WR r Q):∃a h,r=.ok a h/\Q a h:=by
 cases r with
 | ok a h=>exact⟨a,h,rfl,x⟩
 | exc n h=>exact x.elim
 | stuck=>exact x.elim
theorem WS.mono {r:SRes}{N N':ISt->IH->Prop}{R R':IV->IH->Prop}(x:WS r N R)(f:∀σ h,N σ h->N' σ h)(g:∀v h,R v h->R' v h):WS r N' R':=by
 cases r with
 | next σ h=>exact f σ h x
 | ret v h=>exact g v h x
 | _=>exact x
theorem Q0 (a:α):WR (.ok a h) Q=Q a h:=rfl
theorem Js6:WR (.stuck:Res α) Q=False:=rfl
theorem Jr (r:Res α)(f:α->IH->Res β)(Q:β->IH->Prop):WR (r.bind f) Q=WR r λ a h=>WR (f a h) Q:=by cases r<;>rfl
theorem NO (r:Res α):WR r.nx Q=WR r Q:=by cases r<;>rfl
theorem Vj (c:Prop)[Decidable c](x y:Res α):WR (if c then x else y) Q=((c->WR x Q)/\(¬c->WR y Q)):=by
 by_cases hc:c<;>simp[hc]
theorem QK (r:Res α)(k:α->IH->SRes):WS (rS σ r k) N R=WR r λ a h=>WS (k a h) N R:=by cases r<;>rfl
theorem Yu (r:SRes)(Q:IV->IH->Prop):WR r.fin Q=WS r (λ _ h=>Q .non h) Q:=by
 cases r with
 | exc n σ h=>show WR (match h[n]? with|some (.exc _ _)=>Res.exc n h|_=>Res.stuck) Q=False;split<;>rfl
 | _=>rfl
theorem Jhv (σ:ISt):WS (.next σ h) N R=N σ h:=rfl
theorem Jlc (v:IV):WS (.ret v h) N R=R v h:=rfl
theorem QW (a b:S1):WS (Je a b σ h) N R=WS (a σ h) (λ σ1 h1=>WS (b σ1 h1) N R) R:=by
 unfold Je;cases a σ h<;>rfl
theorem Jlb:WS (Jy σ h) N R=N σ h:=rfl
theorem Jhw:WS (Jsi σ h) N R=N σ h:=rfl
theorem Jld (i:Nat)(e:E1):WS (Jk i e σ h) N R=WR (e σ h) λ v h1=>N (σ.set i (Za v)) h1:=by unfold Jk;rw[QK];rfl
theorem Y0 (t:T1)(a b:S1):WS (sIf t a b σ h) N R=WR (t σ h) λ c h1=>(c=Zh->WS (a σ h1) N R)/\(c=Zc->WS (b σ h1) N R):=by
 unfold sIf;rw[QK];congr 1;funext c h1;cases c<;>simp
theorem Jhy (e:E1):WS (Jn e σ h) N R=WR (e σ h) R:=by unfold Jn;rw[QK];rfl
theorem Jhx:WS (Jv7 σ h) N R=R .non h:=rfl
theorem Yz (e:E1):WS (JK e σ h) N R=WR (e σ h) λ _ h1=>N σ h1:=by unfold JK;rw[QK];rfl
theorem Jk7 (e:E1)(g:G1):WS (sAsg e g σ h) N R=WR (e σ h) λ v h1=>WS (g v σ h1) N R:=by unfold sAsg;rw[QK]
theorem Jk9 (i:Nat)(v:IV):WS (gNm i v σ h) N R=N (σ.set i (Za v)) h:=rfl
theorem Jla (n:Nat)(g:List IV->ISt->IH->SRes)(xs:List IV):WS (gTp n g (.tup xs) σ h) N R=(xs.length=n/\WS (g xs σ h) N R):=by
 unfold gTp
 by_cases hn:xs.length=n
 ·simp[hn]
 ·simp[hn,WS]
theorem Jq6:WS (gN [] σ h) N R=N σ h:=rfl
theorem Jq5 (i:Nat)(r:List IV->ISt->IH->SRes)(v:IV)(vs:List IV):WS (gC (gNm i) r (v::vs) σ h) N R=WS (r vs (σ.set i (Za v)) h) N R:=rfl
theorem Xt (f:Str)(o e:E1):WS (QO f o e σ h) N R=WR (e σ h) λ v h1=>WR (o σ h1) λ ov h2=>∃i c fs,ov=.ref i/\h2[i]?=Za (.ins c fs)/\fs.length<1000/\N σ (h2.set i (.ins c (putI f v fs))):=by
 unfold QO;rw[QK];congr 1;funext v h1;rw[QK];congr 1;funext ov h2
 cases ov with
 | ref i =>
  cases e:h2[i]? with
  | none=>simp[WS,e]
  | some o =>
   cases o with
   | ins c fs =>
    by_cases hl:fs.length<1000
    ·simp only[e,hl,if_true,WS]
     refine propext ⟨λ q=>⟨i,c,fs,rfl,e,hl,q⟩,λ ⟨i',c',fs',e1,e2,_,q⟩=>?_⟩
     cases e1
     rw[e] at e2
     cases e2
     exact q
    ·simp only[e,hl,if_false,WS]
     refine propext ⟨λ q=>q.elim,λ ⟨i',c',fs',e1,e2,hl',_⟩=>?_⟩
     cases e1
     rw[e] at e2
     cases e2
     exact hl hl'
   | _=>simp[WS,e]
 | _=>simp[WS]
theorem Jk8 (it:I1)(g:G1)(b:S1):WS (sFor it g b σ h) N R=WR (it σ h) λ J h1=>WS (Qf J.chk g b J.xs σ h1) N R:=by unfold sFor;rw[QK]
theorem Xr (v:IV)(Q:IV->IH->Prop):WR (eC v σ h) Q=Q v h:=rfl
theorem Jk6 (i:Nat)(Q:IV->IH->Prop):WR (Jb i σ h) Q=∃v,σ[i]?=Za (Za v)/\Q v h:=by
 unfold Jb
 cases e:σ[i]? with
 | none=>simp[WR]
 | some o=>cases o<;>simp[WR]
theorem Yt (f:IV->IV->IH->Res IV)(a b:E1)(Q:IV->IH->Prop):WR (Jc f a b σ h) Q=WR (a σ h) λ x h1=>WR (b σ h1) λ y h2=>WR (f x y h2) Q:=by
 unfold Jc;rw[Jr];congr 1;funext x h1;rw[Jr]
theorem Jq4 (f:IV->IH->Res IV)(a:E1)(Q:IV->IH->Prop):WR (eUn f a σ h) Q=WR (a σ h) λ x h1=>WR (f x h1) Q:=by unfold eUn;rw[Jr]
theorem Nn (a b:E1)(tr:IV->IH->Res Bool)(Q:IV->IH->Prop):WR (eAnd a b tr σ h) Q=WR (a σ h) λ x h1=>WR (tr x h1) λ c h2=>(c=Zh->WR (b σ h2) Q)/\(c=Zc->Q x h2):=by
 unfold eAnd;rw[Jr];congr 1;funext x h1;rw[Jr];congr 1;funext c h2;cases c<;>simp[WR]
theorem NR (a b:E1)(tr:IV->IH->Res Bool)(Q:IV->IH->Prop):WR (eOr a b tr σ h) Q=WR (a σ h) λ x h1=>WR (tr x h1) λ c h2=>(c=Zh->Q x h2)/\(c=Zc->WR (b σ h2) Q):=by
 unfold eOr;rw[Jr];congr 1;funext x h1;rw[Jr];congr 1;funext c h2;cases c<;>simp[WR]
theorem Nz (t:T1)(a b:E1)(Q:IV->IH->Prop):WR (eIf t a b σ h) Q=WR (t σ h) λ c h1=>(c=Zh->WR (a σ h1) Q)/\(c=Zc->WR (b σ h1) Q):=by
 unfold eIf;rw[Jr];congr 1;funext c h1;cases c<;>simp
theorem NY (a b:T1)(Q:Bool->IH->Prop):WR (Jsw a b σ h) Q=WR (a σ h) λ c h1=>(c=Zh->WR (b σ h1) Q)/\(c=Zc->Q Zc h1):=by
 unfold Jsw;rw[Jr];congr 1;funext c h1;cases c<;>simp[WR]
theorem Jk5 (a b:T1)(Q:Bool->IH->Prop):WR (tOrI a b σ h) Q=WR (a σ h) λ c h1=>(c=Zh->Q Zh h1)/\(c=Zc->WR (b σ h1) Q):=by
 unfold tOrI;rw[Jr];congr 1;funext c h1;cases c<;>simp[WR]
theorem NZ (a:T1)(Q:Bool->IH->Prop):WR (JA a σ h) Q=WR (a σ h) λ c h1=>Q (!c) h1:=by unfold JA;rw[Jr];rfl
theorem Jht (tr:IV->IH->Res Bool)(a:E1)(Q:Bool->IH->Prop):WR (Jj tr a σ h) Q=WR (a σ h) λ x h1=>WR (tr x h1) Q:=by unfold Jj;rw[Jr]
theorem XF (f g:IV->IV->IH->Res IV)(a b c:E1)(Q:IV->IH->Prop):WR (Va f g a b c σ h) Q=WR (a σ h) λ x h1=>WR (b σ h1) λ y h2=>WR (f x y h2) λ k h3=>∃t,k=.bl t/\(t=Zh->WR (c σ h3) λ z h4=>WR (g y z h4) Q)/\(t=Zc->Q (.bl Zc) h3):=by
 unfold Va;rw[Jr];congr 1;funext x h1;rw[Jr];congr 1;funext y h2;rw[Jr];congr 1;funext k h3
 cases k with
 | bl t =>
  cases t with
  | true =>
   show WR ((c σ h3).bind λ z h4=>g y z h4) Q=_
   rw[Jr]
   simp
  | false=>simp[WR]
 | _=>simp[WR]
theorem VD (Q:List IV->IH->Prop):WR (Jd σ h) Q=Q [] h:=rfl
theorem Vg (a:E1)(r:A1)(Q:List IV->IH->Prop):WR (Ja a r σ h) Q=WR (a σ h) λ x h1=>WR (r σ h1) λ xs h2=>Q (x::xs) h2:=by
 unfold Ja;rw[Jr];congr 1;funext x h1;rw[Jr];rfl
theorem Yy (a:A1)(Q:IV->IH->Prop):WR (JE a σ h) Q=WR (a σ h) λ xs h1=>xs.length<=sizeLine/\Q (.tup xs) h1:=by
 unfold JE;rw[Jr];congr 1;funext xs h1;rw[Vj]
 by_cases hz:xs.length<=sizeLine<;>simp[hz,WR]
theorem XG (a:A1)(Q:IV->IH->Prop):WR (Jv a σ h) Q=WR (a σ h) λ xs h1=>xs.length<=sizeLine/\Q (.ref h1.length) (h1++[.lst xs]):=by
 unfold Jv;rw[Jr];congr 1;funext xs h1;rw[Vj]
 by_cases hz:xs.length<=sizeLine<;>simp[hz,WR]
theorem Np (f:List IV->IH->Res IV)(d:List IV)(a:A1)(Q:IV->IH->Prop):WR (Jm f d a σ h) Q=WR (a σ h) λ vs h1=>WR (f (vs++d) h1) Q:=by
 unfold Jm;rw[Jr]
theorem NI (c:Str)(f:List IV->IH->Res IV)(d:List IV)(a:A1)(Q:IV->IH->Prop):WR (Vb c f d a σ h) Q=WR (a σ h) λ vs h1=>WR (f (.ref h1.length::(vs++d)) (h1++[.ins c []])) λ r h2=>r=.non/\Q (.ref h1.length) h2:=by
 unfold Vb;rw[Jr];congr 1;funext vs h1;rw[Jr];congr 1;funext r h2;cases r<;>simp[WR]
theorem Nq (f:List IV->IH->Res IV)(a:A1)(Q:IV->IH->Prop):WR (eCB f a σ h) Q=WR (a σ h) λ vs h1=>WR (f vs h1) Q:=by unfold eCB;rw[Jr]
theorem NP (f:IV->IH->Res IV)(x:IV)(Q:IV->IH->Prop):WR (on1 f [x] h) Q=WR (f x h) Q:=rfl
theorem NB (ans:Ty->Option Bool)(e:E1)(Q:IV->IH->Prop):WR (eIsi ans e σ h) Q=WR (e σ h) λ v h1=>∃b,(tyI v h1).bind ans=Za b/\Q (.bl b) h1:=by
 unfold eIsi;rw[Jr];congr 1;funext v h1
 cases (tyI v h1).bind ans<;>simp[WR]
theorem NQ (Q:Option Int->IH->Prop):WR (Qr σ h) Q=Q Ze h:=rfl
theorem NS (e:E1)(Q:Option Int->IH->Prop):WR (JX e σ h) Q=WR (e σ h) λ v h1=>∃i,v=.int i/\Q (Za i) h1:=by
 unfold JX;rw[Jr];congr 1;funext v h1;cases v<;>simp[WR]
theorem Yx (f:IV->Option Int->Option Int->IH->Res IV)(e:E1)(lo hi:O1)(Q:IV->IH->Prop):WR (eSl f e lo hi σ h) Q=WR (e σ h) λ x h1=>WR (lo σ h1) λ l h2=>WR (hi σ h2) λ u h3=>WR (f x l u h3) Q:=by
 unfold eSl;rw[Jr];congr 1;funext x h1;rw[Jr];congr 1;funext l h2;rw[Jr]
def Xb (f:Str)(v:IV)(h:IH):Option IV:=match v with
 | .ref i=>(match h[i]? with
  | some (.ins _ fs)=>fs.lookup f
  | _=>Ze)
 | _=>Ze
theorem Nv (f:Str)(o:E1)(Q:IV->IH->Prop):WR (eFld f o σ h) Q=WR (o σ h) λ v h1=>∃x,Xb f v h1=Za x/\Q x h1:=by
 unfold eFld;rw[Jr];congr 1;funext v h1
 cases v with
 | ref i =>
  unfold Xb
  cases e:h1[i]? with
  | none=>simp[WR,e]
  | some ob =>
   cases ob with
   | ins c fs=>cases e2:fs.lookup f<;>simp[WR,e,e2]
   | _=>simp[WR,e]
 | _=>simp[WR,Xb]
variable {i j:Int}{x y:Str}{P:IV->IH->Prop}
theorem Nl (i j:Int):WR (Jf (.int i) (.int j) h) P=P (.int (i+j)) h:=rfl
theorem NX (i j:Int):WR (YY (.int i) (.int j) h) P=P (.int (i-j)) h:=rfl
theorem NM (i:Int):WR (Jsa (.int i) h) P=P (.int (-i)) h:=rfl
theorem NK (i j:Int):WR (Vt (.int i) (.int j) h) P=(V0 i j/\P (.int (i*j)) h):=by
 show WR (Yh (.int i) (.int j) h) P=_
 unfold Yh;rw[Vj];by_cases hm:V0 i j<;>simp[hm,WR]
theorem Nu (i j:Int):WR (J8 (.int i) (.int j) h) P=((0<j/\j.natAbs.log2<9000)/\P (.int (i/j)) h):=by
 unfold J8;rw[Vj];by_cases hm:0<j/\j.natAbs.log2<9000<;>simp[hm,WR]
theorem NJ (i j:Int):WR (Ju (.int i) (.int j) h) P=(0<j/\P (.int (i%j)) h):=by
 unfold Ju;rw[Vj];by_cases hm:0<j<;>simp[hm,WR]
theorem NU (i j:Int):WR (Vu (.int i) (.int j) h) P=((0<=j/\j<=1000000/\i.natAbs<2^64)/\P (.int (i^j.toNat)) h):=by
 unfold Vu;rw[Vj];by_cases hm:0<=j/\j<=1000000/\i.natAbs<2^64<;>simp[hm,WR]
theorem Qy (x y:Str):WR (Jf (.str x) (.str y) h) P=(x.length+y.length<=sizeLine/\P (.str (x++y)) h):=by
 unfold Jf;rw[Vj];by_cases hm:x.length+y.length<=sizeLine<;>simp[hm,WR]
theorem NH (i j:Int):WR (cLt (.int i) (.int j) h) P=P (.bl (decide (i<j))) h:=rfl
theorem NF (i j:Int):WR (cLe (.int i) (.int j) h) P=P (.bl (decide (i<=j))) h:=rfl
theorem Jue (x y:Str):WR (cLe (.str x) (.str y) h) P=P (.bl (!decide (y.cps.toList<x.cps.toList))) h:=rfl
theorem Nx (i j:Int):WR (cGt (.int i) (.int j) h) P=P (.bl (decide (j<i))) h:=rfl
theorem Yv (i j:Int):WR (cGe (.int i) (.int j) h) P=P (.bl (decide (j<=i))) h:=rfl
theorem Nr (i j:Int):WR (cEq (.int i) (.int j) h) P=P (.bl (decide (i=j))) h:=rfl
theorem NL (i j:Int):WR (cNe (.int i) (.int j) h) P=P (.bl (!decide (i=j))) h:=rfl
theorem Nt (x y:Str):WR (cEq (.str x) (.str y) h) P=P (.bl (decide (x=y))) h:=rfl
theorem XH (x y:Str):WR (cNe (.str x) (.str y) h) P=P (.bl (!decide (x=y))) h:=rfl
theorem No (b:Bool)(P:Bool->IH->Prop):WR (asB (.bl b) h) P=P b h:=rfl
theorem Jhu (b:Bool)(P:Bool->IH->Prop):WR (tru (.bl b) h) P=P b h:=rfl
theorem NN (tr:IV->IH->Res Bool)(v:IV):WR (X8 tr v h) P=WR (tr v h) λ c h1=>P (.bl (!c)) h1:=by unfold X8;rw[Jr];rfl
theorem Xs (v w:IV):WR (cIs v w h) P=∃b,isI v w=Za b/\P (.bl b) h:=by unfold cIs;cases isI v w<;>simp[WR]
theorem Xu {chk:IH->Prop}{g:G1}{b:S1}(I:Nat->ISt->IH->Prop){xs:List IV}(hc:∀i σ h,I i σ h->chk h)
  (turn:∀i (hi:i<xs.length) σ h,I i σ h->WS (g xs[i] σ h) (λ σ1 h1=>WS (b σ1 h1) (I (i+1)) R) λ _ _=>False)(done:∀σ h,I xs.length σ h->N σ h)(start:I 0 σ h):WS (Qf chk g b xs σ h) N R:=by
 have key:∀(n i:Nat)(σ:ISt)(h:IH),xs.length-i=n->i<=xs.length->I i σ h->WS (Qf chk g b (xs.drop i) σ h) N R:=by
  intro n
  induction n with
  | zero =>
   intro i σ h hn hi hI
   have:i=xs.length:=by omega
   subst this
   rw[ZdF]
   unfold Qf
   rw[if_pos (hc _ _ _ hI)]
   exact done _ _ hI
  | succ n ih =>
   intro i σ h hn hi hI
   have hlt:i<xs.length:=by omega
   rw[ZaW hlt]
   unfold Qf
   rw[if_pos (hc _ _ _ hI)]
   have t:=turn i hlt σ h hI
   cases eg:g xs[i] σ h with
   | next σ1 h1 =>
    rw[eg] at t
    have t':WS (b σ1 h1) (I (i+1)) R:=t
    dsimp only
    cases eb:b σ1 h1 with
    | next σ2 h2=>rw[eb] at t';exact ih (i+1) σ2 h2 (by omega) hlt t'
    | ret v h2=>rw[eb] at t';exact t'
    | brk σ2 h2=>rw[eb] at t';exact t'.elim
    | cont σ2 h2=>rw[eb] at t';exact t'.elim
    | exc m σ2 h2=>rw[eb] at t';exact t'.elim
    | stuck=>rw[eb] at t';exact t'.elim
   | ret v h1=>rw[eg] at t;exact t.elim
   | brk σ2 h2=>rw[eg] at t;exact t.elim
   | cont σ2 h2=>rw[eg] at t;exact t.elim
   | exc m σ2 h2=>rw[eg] at t;exact t.elim
   | stuck=>rw[eg] at t;exact t.elim
 have:=key xs.length 0 σ h (by omega) (Zar _) start
 simpa using this
end
section
variable {α:Type}{h h1:IH}{a:α}{r:Res α}{P:IV->IH->Prop}
theorem Qt (x:WR r λ v h'=>v=a/\h'=h1):r=.ok a h1:=by
 obtain⟨_,_,e,rfl,rfl⟩:=x.eq
 exact e
theorem JY (xs:List IV)(n:Int):WR (Jg (.tup xs) (.int n) h) P=∃x,atI xs n=Za x/\P x h:=by
 unfold Jg;cases e:atI xs n<;>simp[WR,e]
theorem Qn (xs:List IV)(n:Int):WR (Jg (.rol xs) (.int n) h) P=∃x,atI xs n=Za x/\P x h:=by
 unfold Jg;cases e:atI xs n<;>simp[WR,e]
theorem J4 (i:Nat)(n:Int):WR (Jg (.ref i) (.int n) h) P=∃xs,h[i]?=Za (.lst xs)/\∃x,atI xs n=Za x/\P x h:=by
 unfold Jg
 cases e:h[i]? with
 | none=>simp[WR,e]
 | some o =>
  cases o with
  | lst xs=>cases e2:atI xs n<;>simp[WR,e,e2]
  | _=>simp[WR,e]
theorem Qq (xs:List IV):WR (lenI (.tup xs) h) P=P (.int xs.length) h:=rfl
theorem Qo (xs:List IV):WR (lenI (.rol xs) h) P=P (.int xs.length) h:=rfl
theorem VE (i:Nat):WR (lenI (.ref i) h) P=∃xs,h[i]?=Za (.lst xs)/\P (.int xs.length) h:=by
 unfold lenI
 cases e:h[i]? with
 | none=>simp[WR,e]
 | some o=>cases o<;>simp[WR,e]
theorem Qp (x:Str):WR (lenI (.str x) h) P=(x.length<=sizeLine/\P (.int x.length) h):=by
 unfold lenI;rw[Vj];by_cases hm:x.length<=sizeLine<;>simp[hm,WR]
theorem VI {xs:List α}{n:Nat}{x:α}(e:xs[n]?=Za x):atI xs (n:Int)=Za x:=by
 have hn:n<xs.length:=(ZB.mp e).1
 have:(n:Int)<xs.length:=by omega
 simp[atI,ixN,this,e]
theorem JQ {x:α}{xs:List α}:atI (x::xs) 0=Za x:=by simp[atI,ixN]
theorem JN {x y:α}{xs:List α}:atI (x::y::xs) 1=Za y:=VI (n:=1) rfl
theorem JO {x y z:α}{xs:List α}:atI (x::y::z::xs) 2=Za z:=VI (n:=2) rfl
theorem JR {x y z u:α}{xs:List α}:atI (x::y::z::u::xs) 3=Za u:=VI (n:=3) rfl
theorem JW {x y z u v:α}{xs:List α}:atI (x::y::z::u::v::xs) 4=Za v:=VI (n:=4) rfl
theorem Vl {xs:List α}{n:Int}{x:α}(h0:0<=n)(e:xs[n.toNat]?=Za x):atI xs n=Za x:=by
 have:=VI e
 rwa [ZcT h0] at this
theorem Qg (i:Int):tyI (.int i) h=Za .int:=rfl
theorem Qk (x:Str):tyI (.str x) h=Za .str:=rfl
theorem Ql (xs:List IV):tyI (.tup xs) h=Za .tup:=rfl
theorem Qh (b:Bool):tyI (.bl b) h=Za .bl:=rfl
theorem Qi:tyI .non h=Za .non:=rfl
theorem Qj (xs:List IV):tyI (.rol xs) h=Za .lst:=rfl
theorem Yo {i:Nat}{xs:List IV}(e:h[i]?=Za (.lst xs)):tyI (.ref i) h=Za .lst:=by simp[tyI,e]
theorem grow {i:Nat}{o:IX}{g:IH}(e:h[i]?=Za o):(h++g)[i]?=Za o:=by
 rw[ZF (ZB.mp e).1];exact e
theorem Ji {o:IX}:(h++[o])[h.length]?=Za o:=by simp
theorem JF {i:Nat}{o:IX}(e:h[i]?=Za o):i<h.length:=(ZB.mp e).1
theorem Jju (f:IV->Bool):∀xs:List IV,Vn (xs.map λ x=>.bl (f x))=Za (xs.map f)
 | []=>rfl
 | x::xs=>by simp[Vn,Jju f xs]
theorem all_map {f:IV->Bool}{i:Nat}{xs:List IV}(e:h[i]?=Za (.lst (xs.map λ x=>.bl (f x)))):allI (.ref i) h=.ok (.bl (xs.all f)) h:=by
 simp[allI,e,Jju,ZdN,Zdv]
end
def Ex (h h':IH):Prop:=∃g,h'=h++g
theorem Ex.refl (h:IH):Ex h h:=⟨[],by simp⟩
theorem Ex.trans {h h1 h2:IH}(a:Ex h h1)(b:Ex h1 h2):Ex h h2:=by
 obtain⟨g,rfl⟩:=a
 obtain⟨g',rfl⟩:=b
 exact⟨g++g',by simp⟩
theorem Ex.get {h h':IH}(a:Ex h h'){i:Nat}{o:IX}(e:h[i]?=Za o):h'[i]?=Za o:=by
 obtain⟨g,rfl⟩:=a
 exact grow e
theorem Ex.one (h:IH)(o:IX):Ex h (h++[o]):=⟨[o],rfl⟩
theorem Ex.len {h h':IH}(a:Ex h h'):h.length<=h'.length:=by
 obtain⟨g,rfl⟩:=a
 simp
section
variable {α:Type}{h:IH}
theorem Jul {chk:IH->Prop}{t:T1}{e:E1}{caps:ISt}{p:IV->Bool}{f:IV->IV}(i0:Nat):∀{xs acc:List IV}{o:Option IV}{h1:IH},h1[i0]?=Za (.lst acc)->(∀h2,(∀j ob,j≠i0->h1[j]?=Za ob->h2[j]?=Za ob)->chk h2)->acc.length+xs.length<sizeLine ->
  (∀x∈xs,∀h2,(∀j ob,j≠i0->h1[j]?=Za ob->h2[j]?=Za ob)->WR (t (Za x::caps) h2) λ b h3=>b=p x/\Ex h2 h3) ->
  (∀x∈xs,p x=Zh->∀h2,(∀j ob,j≠i0->h1[j]?=Za ob->h2[j]?=Za ob)->WR (e (Za x::caps) h2) λ v h3=>v=f x/\Ex h2 h3) ->
  WR (QM chk (gNm 0) t e i0 xs (o::caps) h1) λ v h3=>v=.ref i0/\∃g,h3=h1.set i0 (.lst (acc++(xs.filter p).map f))++g
 | [],acc,o,h1,hi,hc,_,_,_=>by
  unfold QM
  rw[if_pos (hc h1 λ _ _ _ q=>q)]
  refine⟨rfl,[],?_⟩
  simp only[List.filter_nil,Zbr,Za2]
  refine(Zb5 λ j=>?_)
  by_cases hj:j=i0
  ·subst hj
   rw[hi,Z1 (JF hi)]
  ·rw[ZP (Zao hj)]
 | x::xs,acc,o,h1,hi,hc,hl,ht,he=>by
  unfold QM
  rw[if_pos (hc h1 λ _ _ _ q=>q)]
  dsimp only[gNm,Za6]
  have hl':acc.length+xs.length+1<sizeLine:=by simpa [Zd4] using hl
  obtain⟨b,h2,e1,rfl,x2⟩:=(ht x Zv h1 λ _ _ _ q=>q).eq
  rw[e1]
  have k12:∀j ob,j≠i0->h1[j]?=Za ob->h2[j]?=Za ob:=λ j ob _ q=>x2.get q
  cases hp:p x with
  | false =>
   dsimp only
   refine WR.mono (Jul i0 (x2.get hi) (λ h3 q=>hc h3 λ j ob n r=>q j ob n (k12 j ob n r)) (by omega) (λ y hy h3 q=>ht y (Zs _ hy) h3 λ j ob n r=>q j ob n (k12 j ob n r))
    λ y hy hpy h3 q=>he y (Zs _ hy) hpy h3 λ j ob n r=>q j ob n (k12 j ob n r)) λ v h3 ⟨ev,g,eg⟩=>⟨ev,?_⟩
   obtain⟨g2,rfl⟩:=x2
   refine⟨g2++g,?_⟩
   rw[eg,ZaE (h:=JF hi)]
   simp[hp]
  | true =>
   dsimp only
   obtain⟨v,h3,e3,rfl,x3⟩:=(he x Zv hp h2 k12).eq
   rw[e3]
   dsimp only
   rw[x3.get (x2.get hi)]
   dsimp only
   rw[if_pos (by omega)]
   have k13:∀j ob,j≠i0->h1[j]?=Za ob->(h3.set i0 (.lst (acc++[f x])))[j]?=Za ob:=λ j ob n q=>by
    rw[ZP (Zao n)]
    exact x3.get (x2.get q)
   refine WR.mono (Jul i0 (acc:=acc++[f x]) (by rw[Z1 (JF (x3.get (x2.get hi)))]) (λ h4 q=>hc h4 λ j ob n r=>q j ob n (k13 j ob n r)) (by simp;omega) (λ y hy h4 q=>ht y (Zs _ hy) h4 λ j ob n r=>q j ob n (k13 j ob n r))
    λ y hy hpy h4 q=>he y (Zs _ hy) hpy h4 λ j ob n r=>q j ob n (k13 j ob n r)) λ v h4 ⟨ev,g,eg⟩=>⟨ev,?_⟩
   obtain⟨g3,q3⟩:=x2.trans x3
   refine⟨g3++g,?_⟩
   rw[eg,q3,ZaE (h:=JF hi),ZaE (h:=by rw[Zbj];exact JF hi),Ze9]
   simp[hp]
theorem Jqz {it:I1}{t:T1}{e:E1}{js:List Nat}{σ:ISt}{xs:List IV}{chk:IH->Prop}{p:IV->Bool}{f:IV->IV}{h0:IH}(hit:WR (it σ h0) λ J h1=>J.xs=xs/\J.chk=chk/\h1=h)(hl:xs.length<sizeLine)
  (hc:∀h2:IH,(∀(j:Nat)(ob:IX),h[j]?=Za ob->h2[j]?=Za ob)->chk h2)
  (ht:∀x∈xs,∀h2:IH,(∀(j:Nat)(ob:IX),h[j]?=Za ob->h2[j]?=Za ob)->WR (t (Za x::js.map λ j=>(σ[j]?).join) h2) λ b h3=>b=p x/\Ex h2 h3)
  (he:∀x∈xs,p x=Zh->∀h2:IH,(∀(j:Nat)(ob:IX),h[j]?=Za ob->h2[j]?=Za ob)->WR (e (Za x::js.map λ j=>(σ[j]?).join) h2) λ v h3=>v=f x/\Ex h2 h3) :
  WR (J7 it 1 js (gNm 0) t e σ h0) λ v h3=>v=.ref h.length/\∃g,h3=h++.lst ((xs.filter p).map f)::g:=by
 obtain⟨J,h1,e1,q1,q2,rfl⟩:=hit.eq
 unfold J7
 rw[e1]
 show WR (QM J.chk (gNm 0) t e h1.length J.xs (Ze::js.map λ j=>(σ[j]?).join) (h1++[.lst []])) _
 rw[q1,q2]
 have lift:∀{h2:IH},(∀j ob,j≠h1.length->(h1++[IX.lst []])[j]?=Za ob->h2[j]?=Za ob)->∀j ob,h1[j]?=Za ob->h2[j]?=Za ob:=λ q j ob r=>q j ob (ZK (JF r)) (grow r)
 refine WR.mono (Jul (p:=p) (f:=f) h1.length (acc:=[]) Ji (λ h2 q=>hc h2 (lift q)) (by simpa using hl) (λ x hx h2 q=>ht x hx h2 (lift q)) λ x hx hp h2 q=>he x hx hp h2 (lift q)) λ v h3 ⟨ev,g,eg⟩=>⟨ev,g,?_⟩
 rw[eg]
 simp
theorem filt {α:Type}(xs:List α):xs.filter (λ _=>Zh)=xs:=List.filter_eq_self.mpr (by simp)
theorem QP {it:I1}{e:E1}{js:List Nat}{σ:ISt}{xs:List IV}{chk:IH->Prop}{f:IV->IV}{h0:IH}(hit:WR (it σ h0) λ J h1=>J.xs=xs/\J.chk=chk/\h1=h)(hl:xs.length<sizeLine)
  (hc:∀h2:IH,(∀(j:Nat)(ob:IX),h[j]?=Za ob->h2[j]?=Za ob)->chk h2)
  (he:∀x∈xs,∀h2:IH,(∀(j:Nat)(ob:IX),h[j]?=Za ob->h2[j]?=Za ob)->WR (e (Za x::js.map λ j=>(σ[j]?).join) h2) λ v h3=>v=f x/\Ex h2 h3) :
  WR (J7 it 1 js (gNm 0) JB e σ h0) λ v h3=>v=.ref h.length/\∃g,h3=h++.lst (xs.map f)::g:=by
 have:=Jqz (p:=λ _=>Zh) (f:=f) (t:=JB) (e:=e) (js:=js) (σ:=σ) (h:=h) hit hl hc (λ _ _ h2 _=>⟨rfl,.refl _⟩) λ x hx _ h2 q=>he x hx h2 q
 rwa [filt] at this
theorem JI {o:IX}{g:IH}:(h++o::g)[h.length]?=Za o:=by simp
theorem Ex.cons (h:IH)(o:IX)(g:IH):Ex h (h++o::g):=⟨_,rfl⟩
end
section
variable {σ:ISt}{h h1:IH}{Q:IV->IH->Prop}{J:ItI->IH->Prop}
theorem Ny (e:E1):WR (iAny e σ h) J=WR (e σ h) λ v h1=>WR (Yb v h1) J:=by unfold iAny;rw[Jr]
theorem NA (f:List IV->IH->Res ItI)(a:A1):WR (iRg f a σ h) J=WR (a σ h) λ vs h1=>WR (f vs h1) J:=by unfold iRg;rw[Jr]
theorem QB (i:Nat):WR (Yb (.ref i) h) J=∃xs,h[i]?=Za (.lst xs)/\J ⟨xs,λ h'=>h'[i]?=Za (.lst xs)⟩ h:=by
 show WR (itOf (.ref i) h) J=_
 unfold itOf
 cases e:h[i]? with
 | none=>simp[WR,e]
 | some o=>cases o<;>simp[WR,e]
theorem NC (xs:List IV):WR (Yb (.rol xs) h) J=J ⟨xs,λ _=>True⟩ h:=rfl
theorem NE (xs:List IV):WR (Yb (.tup xs) h) J=J ⟨xs,λ _=>True⟩ h:=rfl
theorem ND (x:Str):WR (Yb (.str x) h) J=J ⟨Qs x,λ _=>True⟩ h:=rfl
theorem Jq0 (i:Nat):WR (V4 [.ref i] h) J=∃xs,h[i]?=Za (.lst xs)/\J ⟨Q6 0 xs,λ h'=>h'[i]?=Za (.lst xs)⟩ h:=by
 show WR (VM [.ref i] h) J=_
 unfold VM
 cases e:h[i]? with
 | none=>simp[WR,e]
 | some o=>cases o<;>simp[WR,e]
theorem Js4 (xs:List IV):WR (V4 [.tup xs] h) J=J ⟨Q6 0 xs,λ _=>True⟩ h:=rfl
theorem Yw (j:Int):WR (V5 [.int j] h) J=((-(2^62)<=j/\j<2^62)/\J ⟨rngI 0 j,λ _=>True⟩ h):=by
 unfold V5;rw[Vj];exact propext ⟨λ ⟨a,b⟩=>(ZcY _).elim (λ q=>⟨q,a q⟩) λ q=>(b q).elim,λ ⟨a,b⟩=>⟨λ _=>b,λ q=>absurd a q⟩⟩
theorem NV (i j:Int):WR (Jto [.int i,.int j] h) J=((-(2^62)<=i/\i<2^62/\ -(2^62)<=j/\j<2^62)/\J ⟨rngI i j,λ _=>True⟩ h):=by
 unfold Jto;rw[Vj];exact propext ⟨λ ⟨a,b⟩=>(ZcY _).elim (λ q=>⟨q,a q⟩) λ q=>(b q).elim,λ ⟨a,b⟩=>⟨λ _=>b,λ q=>absurd a q⟩⟩
theorem Jjd (i j:Int):(rngI i j).length=(j-i).toNat:=by simp[rngI]
theorem Jt0 (i j:Int)(n:Nat)(hn:n<(rngI i j).length):(rngI i j)[n]=.int (i+n):=by simp[rngI]
theorem Jlr (xs:List IV)(n:Nat)(hn:n<(Q6 0 xs).length):(Q6 0 xs)[n]=.tup [.int n,xs[n]'(by rwa [V3] at hn)]:=by
 have:=Jf0 xs 0 n
 rw[Zn hn,Zn (by rwa [V3] at hn)] at this
 simpa using this
theorem Vw (i:Nat)(lo hi:Option Int):WR (slI (.ref i) lo hi h) Q=∃xs,h[i]?=Za (.lst xs)/\Q (.ref h.length) (h++[.lst (cutI xs lo hi)]):=by
 unfold slI
 cases e:h[i]? with
 | none=>simp[WR,e]
 | some o=>cases o<;>simp[WR,e]
theorem NW (xs:List IV)(lo hi:Option Int):WR (slI (.rol xs) lo hi h) Q=Q (.ref h.length) (h++[.lst (cutI xs lo hi)]):=rfl
theorem Jmz (n d:Nat):HT.sIx n d Ze=d:=HT.sIx_none n d
theorem VL {α:Type}(xs:List α)(n:Nat):cutI xs Ze (Za (n:Int))=xs.take n:=by
 unfold cutI
 rw[Jmz,HT.sIx_nat]
 simp
theorem XU {α:Type}(xs:List α)(n:Nat):cutI xs (Za (n:Int)) Ze=xs.drop n:=by
 unfold cutI
 rw[Jmz,HT.sIx_nat]
 by_cases hn:n<=xs.length
 ·rw[Nat.min_eq_left hn]
  exact ZaT (by simp)
 ·rw[Nat.min_eq_right (by omega),ZdF,Zc0 (by omega)]
  simp
theorem Jum {α:Type}(xs:List α)(n m:Nat):cutI xs (Za (n:Int)) (Za (m:Int))=(xs.take m).drop n:=by
 unfold cutI
 rw[HT.sIx_nat,HT.sIx_nat]
 refine Zb5 λ i=>?_
 simp only[List.getElem?_take,ZaF]
 by_cases h1:n+i<xs.length
 ·rw[Nat.min_eq_left (show n<=xs.length by omega)]
  by_cases h3:n+i<m
  ·rw[if_pos h3,if_pos (by omega)]
  ·rw[if_neg h3,if_neg (by omega)]
 ·rw[show xs[n+i]?=Ze from ZaL (by omega),show xs[min n xs.length+i]?=Ze from ZaL (by omega)]
  simp
variable {P:Pg}{m:Str}{n i:Nat}{o:E1}{a:A1}{xs:List IV}{c:Str}{fs:List (Str×IV)}
theorem Vi {g:IV->List IV->IH->Res IV}(e:o σ h=.ok (.ref i) h1)(hl:h1[i]?=Za (.lst xs))(hg:bmOf "list" m n=Za g):WR (Jp P m n o a σ h) Q=WR (a σ h1) λ vs h2=>WR (g (.ref i) vs h2) Q:=by
 unfold Jp
 rw[e]
 have hi:Ya (.ref i) h1=Zc:=by simp[Ya,hl]
 have ht:tyS (.ref i) h1="list":=by simp[tyS,hl]
 dsimp only
 rw[hi,ht,hg]
 dsimp only
 rw[if_neg Zy]
 unfold eBm
 rw[e,Jr,Q0]
 have:tyOk "list" (.ref i) h1=Zh:=by simp[tyOk,hl]
 rw[if_pos this,Jr]
theorem VW (y:IV):WR (X1 (.ref i) [y] h) Q=∃xs,h[i]?=Za (.lst xs)/\xs.length<sizeLine/\Q .non (h.set i (.lst (xs++[y]))):=by
 unfold X1
 cases e:h[i]? with
 | none=>simp[WR,e]
 | some ob =>
  cases ob with
  | lst xs=>by_cases hz:xs.length<sizeLine<;>simp[WR,e,hz]
  | _=>simp[WR,e]
theorem V2:bmOf "list" "append" 1=Za X1:=by kernel_rfl
theorem QI {f:Str}(e:h[i]?=Za (.ins c fs)):Xb f (.ref i) h=fs.lookup f:=by simp[Xb,e]
theorem Jjm:WR (VO (.ref i) h) Q=∃xs,h[i]?=Za (.lst xs)/\Q (.ref h.length) (h++[.lst xs]):=by
 unfold VO
 cases e:h[i]? with
 | none=>simp[WR,e]
 | some ob=>cases ob<;>simp[WR,e]
theorem NG (xs:List IV):WR (VO (.tup xs) h) Q=Q (.ref h.length) (h++[.lst xs]):=rfl
theorem Jq3:WR (XE (.ref i) h) Q=∃xs,h[i]?=Za (.lst xs)/\Q (.tup xs) h:=by
 unfold XE
 cases e:h[i]? with
 | none=>simp[WR,e]
 | some ob=>cases ob<;>simp[WR,e]
end
section
variable {σ:ISt}{h:IH}{Q:IV->IH->Prop}
theorem Vh (i j:Nat):WR (Jf (.ref i) (.ref j) h) Q=∃xs,h[i]?=Za (.lst xs)/\∃ys,h[j]?=Za (.lst ys)/\xs.length+ys.length<=sizeLine/\Q (.ref h.length) (h++[.lst (xs++ys)]):=by
 unfold Jf
 dsimp only
 split
 ·rename_i xs ys e e'
  rw[Vj]
  refine propext ⟨λ ⟨a,b⟩=>?_,λ ⟨xs',f,ys',f',l,q⟩=>?_⟩
  ·by_cases l:xs.length+ys.length<=sizeLine
   ·exact⟨xs,e,ys,e',l,a l⟩
   ·exact(b l).elim
  ·rw[e] at f
   rw[e'] at f'
   cases f
   cases f'
   exact⟨λ _=>q,λ n=>absurd l n⟩
 ·rename_i no
  exact propext ⟨ZaP,λ ⟨xs,f,ys,f',_⟩=>(no xs ys f f').elim⟩
theorem VX (i:Int):WR (strI (.int i) h) Q=(i.natAbs.log2<1920/\Q (.str (toString i)) h):=by
 unfold strI
 rw[Vj]
 simp only[Q0,Js6,imp_false,Decidable.not_not,eq_iff_iff]
 exact⟨λ ⟨a,b⟩=>⟨b,a b⟩,λ ⟨a,b⟩=>⟨λ _=>b,a⟩⟩
theorem XI {N:ISt->IH->Prop}{R:IV->IH->Prop}(o i:E1)(v:IV):WS (gSb o i v σ h) N R=WR (o σ h) λ ov h1=>WR (i σ h1) λ iv h2=>WS (setI ov iv v σ h2) N R:=by
 unfold gSb
 rw[QK]
 congr 1;funext ov h1
 rw[QK]
theorem XJ {N:ISt->IH->Prop}{R:IV->IH->Prop}(i:Nat)(k:Int)(v:IV):WS (setI (.ref i) (.int k) v σ h) N R=∃xs,h[i]?=Za (.lst xs)/\∃j,ixN xs.length k=Za j/\N σ (h.set i (.lst (xs.set j v))):=by
 unfold setI
 cases e:h[i]? with
 | none=>simp[WS,e]
 | some ob =>
  cases ob with
  | lst xs=>cases q:ixN xs.length k<;>simp[WS,e,q]
  | _=>simp[WS,e]
end
section
variable {σ:ISt}{h h1:IH}{Q:IV->IH->Prop}{P:Pg}{m:Str}{n i:Nat}{o:E1}{a:A1}{x:Str}
theorem Qz {g:IV->List IV->IH->Res IV}(e:o σ h=.ok (.str x) h1)(hg:bmOf "str" m n=Za g):WR (Jp P m n o a σ h) Q=WR (a σ h1) λ vs h2=>WR (g (.str x) vs h2) Q:=by
 unfold Jp
 rw[e]
 have hi:Ya (.str x) h1=Zc:=rfl
 have ht:tyS (.str x) h1="str":=rfl
 dsimp only
 rw[hi,ht,hg]
 dsimp only
 rw[if_neg Zy]
 unfold eBm
 rw[e,Jr,Q0]
 have:tyOk "str" (.str x) h1=Zh:=rfl
 rw[if_pos this,Jr]
theorem VJ:bmOf "str" "join" 1=Za Xf:=by kernel_rfl
theorem Jjt:bmOf "list" "insert" 2=Za XZ:=by kernel_rfl
theorem Jjl:WR (Xf (.str x) [.ref i] h) Q=∃xs,h[i]?=Za (.lst xs)/\∃zs,QT xs=Za zs/\ZeC x zs=Zh/\Q (.str (ZT x zs)) h:=by
 unfold Xf
 cases e:h[i]? with
 | none=>simp[WR,e]
 | some ob =>
  cases ob with
  | lst xs =>
   cases q:QT xs with
   | none=>simp[WR,e,q]
   | some zs=>by_cases hz:ZeC x zs=Zh<;>simp[WR,e,q,hz]
  | _=>simp[WR,e]
theorem Ym:∀zs:List Str,QT (zs.map IV.str)=Za zs
 | []=>rfl
 | z::zs=>by
  rw[ZA,QT,Ym zs];rfl
end
section
variable {σ:ISt}{h:IH}{Q:IV->IH->Prop}{i:Nat}
theorem Jwy:WR (sumI (.ref i) h) Q=∃xs,h[i]?=Za (.lst xs)/\∃ns,QS xs=Za ns/\Q (.int ns.sum) h:=by
 unfold sumI
 cases e:h[i]? with
 | none=>simp[WR,e]
 | some ob =>
  cases ob with
  | lst xs=>cases q:QS xs<;>simp[WR,e,q]
  | _=>simp[WR,e]
theorem Ji6:∀ns:List Int,QS (ns.map IV.int)=Za ns
 | []=>rfl
 | n::ns=>by
  rw[ZA,QS,Ji6 ns];rfl
theorem Jwv (aa:A1)(md:E1):WR (YL aa md σ h) Q=WR (aa σ h) λ xs h1=>WR (md σ h1) λ d h2=>∃i,xs=[.ref i]/\∃ys,h2[i]?=Za (.lst ys)/\∃ns,QS ys=Za ns/\Q (maxD ns d) h2:=by
 unfold YL
 rw[Jr]
 congr 1;funext xs h1
 rw[Jr]
 congr 1;funext d h2
 match xs with
 | [.ref i] =>
  simp only[Zcn,IV.ref.injEq,and_true,exists_eq_left']
  cases e:h2[i]? with
  | none=>simp[WR]
  | some ob =>
   cases ob with
   | lst ys=>cases q:QS ys<;>simp[WR,q]
   | _=>simp[WR]
 | []=>simp[WR]
 | [.non]=>simp[WR]
 | [.bl _]=>simp[WR]
 | [.int _]=>simp[WR]
 | [.str _]=>simp[WR]
 | [.tup _]=>simp[WR]
 | [.rol _]=>simp[WR]
 | x::_::_=>cases x<;>simp[WR]
theorem Jq2 (aa:A1):WR (YK aa σ h) Q=WR (aa σ h) λ xs h1=>∃i,xs=[.ref i]/\∃ys,h1[i]?=Za (.lst ys)/\∃zs,QT ys=Za zs/\zs.length+1<Zcc/\Q (.int (cntD (Ve zs) zs.length)) h1:=by
 unfold YK
 rw[Jr]
 congr 1;funext xs h1
 match xs with
 | [.ref i] =>
  simp only[Zcn,IV.ref.injEq,and_true,exists_eq_left']
  cases e:h1[i]? with
  | none=>simp[WR]
  | some ob =>
   cases ob with
   | lst ys =>
    cases q:QT ys with
    | none=>simp[WR,q]
    | some zs=>by_cases hz:zs.length+1<Zcc<;>simp[WR,q,hz]
   | _=>simp[WR]
 | []=>simp[WR]
 | [.non]=>simp[WR]
 | [.bl _]=>simp[WR]
 | [.int _]=>simp[WR]
 | [.str _]=>simp[WR]
 | [.tup _]=>simp[WR]
 | [.rol _]=>simp[WR]
 | x::_::_=>cases x<;>simp[WR]
theorem Jjy {zs:List Str}(nd:zs.Nodup):∀i,i<=zs.length->cntD (Ve zs) i=i
 | 0,_=>rfl
 | i+1,hi=>by
  have ih:=Jjy nd i (by omega)
  have hm:metB (Ve zs) i (Ve zs i)=Zc:=by
   unfold metB
   rw[List.any_eq_false]
   intro j hj
   have hj:=ZbT.mp hj
   simp only[decide_eq_true_eq]
   intro e
   simp only[Ve,Zbx,Zn (show j<zs.length by omega),Zn (show i<zs.length by omega),ZdG] at e
   have:=(Zd6 nd).mp e
   omega
  unfold cntD
  rw[hm,ih]
  rfl
end
section
variable {h:IH}{Q:IV->IH->Prop}{i:Nat}
theorem Jk4 {k:Int}{xs:List IV}{y:IV}(hi:h[i]?=Za (.lst xs))(h0:0<=k)(hk:k<=xs.length)(hl:xs.length<100000):WR (XZ (.ref i) [.int k,y] h) Q=Q .non (h.set i (.lst (xs.take k.toNat++y::xs.drop k.toNat))):=by
 unfold XZ
 dsimp only
 rw[hi]
 dsimp only
 rw[if_pos ⟨h0,hk,hl⟩]
 rfl
end
def KpB (i0:Nat)(h h':IH):Prop:=∀(j:Nat)(ob:IX),j≠i0->h[j]?=Za ob->h'[j]?=Za ob
def Kp (h h':IH):Prop:=∀(j:Nat)(ob:IX),h[j]?=Za ob->h'[j]?=Za ob
theorem KpB.trans {i0:Nat}{a b c:IH}(p:KpB i0 a b)(q:KpB i0 b c):KpB i0 a c:=λ j ob n e=>q j ob n (p j ob n e)
theorem Kp.trans {a b c:IH}(p:Kp a b)(q:Kp b c):Kp a c:=λ j ob e=>q j ob (p j ob e)
theorem Kp.refl (a:IH):Kp a a:=λ _ _ e=>e
theorem Kp.but {i0:Nat}{a b:IH}(p:Kp a b):KpB i0 a b:=λ j ob _ e=>p j ob e
theorem Ex.kp {a b:IH}(x:Ex a b):Kp a b:=λ _ _ e=>x.get e
theorem Jw7 {chk:IH->Prop}{e:E1}{caps:ISt}{D:IV->IV->IH->Prop}(i0:Nat)(mono:∀x y h2 h3,KpB i0 h2 h3->D x y h2->D x y h3):∀{xs acc:List IV}{o:Option IV}{h1:IH},h1[i0]?=Za (.lst acc)->(∀h2,KpB i0 h1 h2->chk h2)->acc.length+xs.length<sizeLine ->
  (∀x∈xs,∀h2:IH,KpB i0 h1 h2->i0<h2.length->WR (e (Za x::caps) h2) λ v h3=>Ex h2 h3/\D x v h3) ->
  WR (QM chk (gNm 0) JB e i0 xs (o::caps) h1) λ v h3=>v=.ref i0/\∃ys,h3[i0]?=Za (.lst (acc++ys))/\ys.length=xs.length/\KpB i0 h1 h3/\∀(i:Nat) x y,xs[i]?=Za x->ys[i]?=Za y->D x y h3
 | [],acc,o,h1,hi,hc,_,_=>by
  unfold QM
  rw[if_pos (hc h1 λ _ _ _ q=>q)]
  exact⟨rfl,[],by simpa using hi,rfl,λ _ _ _ q=>q,λ i x y q=>by simp at q⟩
 | x::xs,acc,o,h1,hi,hc,hl,he=>by
  unfold QM
  rw[if_pos (hc h1 λ _ _ _ q=>q)]
  dsimp only[gNm,Za6,JB]
  have hl':acc.length+xs.length+1<sizeLine:=by simpa [Zd4] using hl
  obtain⟨v,h3,e3,x3,dv⟩:=(he x Zv h1 (λ _ _ _ q=>q) (JF hi)).eq
  rw[e3]
  dsimp only
  rw[x3.get hi]
  dsimp only
  rw[if_pos (by omega)]
  have k34:KpB i0 h3 (h3.set i0 (.lst (acc++[v]))):=λ j ob n q=>by
   rw[ZP (Zao n)];exact q
  have k14:KpB i0 h1 (h3.set i0 (.lst (acc++[v]))):=x3.kp.but.trans k34
  refine WR.mono (Jw7 i0 mono (acc:=acc++[v]) (by rw[Z1 (JF (x3.get hi))]) (λ h4 q=>hc h4 (k14.trans q)) (by simp;omega) λ y hy h4 q=>he y (Zs _ hy) h4 (k14.trans q)) ?_
  rintro w h5 ⟨rfl,ys,g5,ln,k5,d5⟩
  refine⟨rfl,v::ys,by simpa using g5,by simp[ln],k14.trans k5,?_⟩
  intro i x' y' q1 q2
  cases i with
  | zero =>
   simp only[ZaA,ZH] at q1 q2
   subst q1;subst q2
   exact mono _ _ _ _ (k34.trans k5) dv
  | succ i=>exact d5 i x' y' (by simpa using q1) (by simpa using q2)
theorem Jnb {h h0:IH}{it:I1}{e:E1}{js:List Nat}{σ:ISt}{xs:List IV}{chk:IH->Prop}(D:IV->IV->IH->Prop)(hit:WR (it σ h0) λ J h1=>J.xs=xs/\J.chk=chk/\h1=h)(hl:xs.length<sizeLine)
  (mono:∀x y h2 h3,KpB h.length h2 h3->D x y h2->D x y h3)(hc:∀h2:IH,Kp h h2->chk h2)
  (he:∀x∈xs,∀h2:IH,Kp h h2->h.length<h2.length->WR (e (Za x::js.map λ j=>(σ[j]?).join) h2) λ v h3=>Ex h2 h3/\D x v h3) :
  WR (J7 it 1 js (gNm 0) JB e σ h0) λ v h3=>v=.ref h.length/\∃ys,h3[h.length]?=Za (.lst ys)/\ys.length=xs.length/\Kp h h3/\∀(i:Nat) x y,xs[i]?=Za x->ys[i]?=Za y->D x y h3:=by
 obtain⟨J,h1,e1,q1,q2,rfl⟩:=hit.eq
 unfold J7
 rw[e1]
 show WR (QM J.chk (gNm 0) JB e h1.length J.xs (Ze::js.map λ j=>(σ[j]?).join) (h1++[.lst []])) _
 rw[q1,q2]
 have lift:∀{h2:IH},KpB h1.length (h1++[IX.lst []]) h2->Kp h1 h2:=λ q j ob r=>q j ob (ZK (JF r)) (grow r)
 refine WR.mono (Jw7 h1.length mono (acc:=[]) Ji (λ h2 q=>hc h2 (lift q)) (by simpa using hl) λ x hx h2 q ln=>he x hx h2 (lift q) ln) ?_
 rintro v h3 ⟨rfl,ys,g3,ln,k3,d3⟩
 exact⟨rfl,ys,by simpa using g3,ln,lift k3,d3⟩
section
variable {h:IH}
end
def Jre (o:Obj)(q:Str):Bool:=match o with
 | ⟨_,_,.fields vs,_⟩=>(match vs.toList with|_::.str n _::_=>n==q|_=>Zc)
 | _=>Zc
def VV (K:W.Frag)(q:Str)(p:Zi):Bool:=(K.lookup p).isNone&&K.all (λ e=>!(Jre e.2 q)||W.codeHdIn K e.1 p)&&K.any (λ e=>Jre e.2 q&&W.codeHdIn K e.1 p)
def Y9 (K:W.Frag):List Str->List Zi->Bool
 | [],[]=>Zh
 | q::qs,p::ps=>VV K q p&&!ps.contains p&&Y9 K qs ps
 | _,_=>Zc
theorem Jnq {K:W.Frag}{c:Zi}{o:Obj}(h:K.lookup c=Za o):(c,o)∈K:=by
 induction K with
 | nil=>cases h
 | cons p K ih =>
  obtain⟨b,o'⟩:=p
  rw[Zai] at h
  split at h
  ·rename_i e
   cases h
   rw[beq_iff_eq.mp e]
   exact Zv
  ·exact Zs _ (ih h)
theorem VV.code {K:W.Frag}{q:Str}{p:Zi}(h:VV K q p=Zh):∀cdv,W.codeIn K cdv q=Zh->∃c,cdv=.ref c/\W.codeHdIn K c p=Zh:=by
 simp only[VV,Zl,Zab,Za7,Zaf] at h
 intro cdv e
 unfold W.codeIn at e
 split at e
 ·rename_i c
  refine⟨c,rfl,?_⟩
  cases hk:K.lookup c with
  | none=>rw[hk] at e;cases e
  | some o =>
   rw[hk] at e
   rcases h.1.2 _ (Jnq hk) with z|z
   ·exfalso
    have e':Jre o q=Zh:=by
     obtain⟨oc,od,dt,sl⟩:=o
     cases dt<;>first|exact e|cases e
    have z':Jre o q=Zc:=z
    rw[e'] at z'
    cases z'
   ·exact z
 ·cases e
theorem VV.some {K:W.Frag}{q:Str}{p:Zi}(h:VV K q p=Zh):K.lookup p=Ze/\∃c,W.codeHdIn K c p=Zh:=by
 simp only[VV,Zl,List.any_eq_true,Option.isNone_iff_eq_none] at h
 obtain⟨⟨h1,_⟩,e,_,h2⟩:=h
 exact⟨h1,e.1,h2.2⟩
theorem Y9.mem {K:W.Frag}:∀{qs:List Str}{ts:List Zi},Y9 K qs ts=Zh->ts.Nodup/\qs.length=ts.length/\(∀(i:Nat)(q:Str),qs[i]?=Za q->∃p,ts[i]?=Za p/\VV K q p=Zh)/\∀p∈ts,∃q,VV K q p=Zh
 | [],[],_=>⟨.nil,rfl,λ i q e=>by simp at e,λ p hp=>by cases hp⟩
 | q::qs,p::ps,h=>by
  simp only[Y9,Zl,Zaf,List.contains_eq_mem,decide_eq_false_iff_not] at h
  obtain⟨⟨h1,h2⟩,h3⟩:=h
  obtain⟨a,b,c,d⟩:=Y9.mem h3
  refine⟨Zcl.mpr ⟨h2,a⟩,by simp[b],λ i r e=>?_,λ r hr=>?_⟩
  ·cases i with
   | zero =>
    have e':Za q=Za r:=e
    cases e'
    exact⟨p,rfl,h1⟩
   | succ i=>exact c i r e
  ·rcases Zt.mp hr with rfl|hr
   ·exact⟨q,h1⟩
   ·exact d r hr
 | [],_::_,h=>by cases h
 | _::_,[],h=>by cases h
section
variable {α β:Type}{σ:ISt}{h:IH}
def WE (r:Res α)(Q:α->IH->Prop)(Z:Nat->IH->Prop):Prop:=match r with
 | .ok a h=>Q a h
 | .exc n h=>Z n h
 | .stuck=>False
def WSE (r:SRes)(N:ISt->IH->Prop)(R:IV->IH->Prop)(Z:Nat->ISt->IH->Prop):Prop:=match r with
 | .next σ h=>N σ h
 | .ret v h=>R v h
 | .exc n σ h=>Z n σ h
 | _=>False
variable {Q:α->IH->Prop}{Z:Nat->IH->Prop}{N:ISt->IH->Prop}{R:IV->IH->Prop}{Y:Nat->ISt->IH->Prop}
theorem Jzy (a:α):WE (.ok a h) Q Z=Q a h:=rfl
theorem Xp {Q:β->IH->Prop}(r:Res α)(f:α->IH->Res β):WE (r.bind f) Q Z=WE r (λ a h=>WE (f a h) Q Z) Z:=by cases r<;>rfl
theorem WE.of {r:Res α}(w:WR r Q):WE r Q Z:=by
 cases r with
 | ok a h=>exact w
 | exc n h=>exact Zf w
 | stuck=>exact Zf w
theorem WE.mono {r:Res α}{Q':α->IH->Prop}{Z':Nat->IH->Prop}(w:WE r Q Z)(hq:∀a h,Q a h->Q' a h)(hz:∀n h,Z n h->Z' n h):WE r Q' Z':=by
 cases r with
 | ok a h=>exact hq _ _ w
 | exc n h=>exact hz _ _ w
 | stuck=>exact w
theorem WE.wr {r:Res α}(w:WE r Q λ _ _=>False):WR r Q:=by
 cases r with
 | ok a h=>exact w
 | exc n h=>exact w
 | stuck=>exact w
theorem WSE.of {r:SRes}(w:WS r N R):WSE r N R Y:=by
 cases r with
 | next σ h=>exact w
 | ret v h=>exact w
 | _=>exact Zf w
theorem XL (r:Res α)(k:α->IH->SRes):WSE (rS σ r k) N R Y=WE r (λ a h=>WSE (k a h) N R Y) λ n h=>Y n σ h:=by cases r<;>rfl
theorem Jw (a b:S1):WSE (Je a b σ h) N R Y=WSE (a σ h) (λ σ1 h1=>WSE (b σ1 h1) N R Y) R Y:=by
 unfold Je;cases a σ h<;>rfl
theorem Q5:WSE (Jy σ h) N R Y=N σ h:=rfl
theorem Xv (i:Nat)(e:E1):WSE (Jk i e σ h) N R Y=WE (e σ h) (λ v h1=>N (σ.set i (Za v)) h1) λ n h=>Y n σ h:=by unfold Jk;rw[XL];rfl
theorem Jg9 (e:E1):WSE (JK e σ h) N R Y=WE (e σ h) (λ _ h1=>N σ h1) λ n h=>Y n σ h:=by unfold JK;rw[XL];rfl
theorem Jh0 (e:E1):WSE (Jn e σ h) N R Y=WE (e σ h) R λ n h=>Y n σ h:=by unfold Jn;rw[XL];rfl
theorem JG (t:T1)(a b:S1):WSE (sIf t a b σ h) N R Y=WE (t σ h) (λ c h1=>(c=Zh->WSE (a σ h1) N R Y)/\(c=Zc->WSE (b σ h1) N R Y)) λ n h=>Y n σ h:=by
 unfold sIf;rw[XL];congr 1;funext c h1;cases c<;>simp
theorem Jhz (c:Str)(a:A1):WSE (JZ c a σ h) N R Y=WE (a σ h) (λ vs h1=>vs.length<=sizeLine/\Y h1.length σ (h1++[.exc c []])) λ n h=>Y n σ h:=by
 unfold JZ;rw[XL];congr 1;funext vs h1
 by_cases z:vs.length<=sizeLine
 ·simp[z,WSE]
 ·simp[z,WSE]
theorem Xq {Q:IV->IH->Prop}(f:List IV->IH->Res IV)(d:List IV)(a:A1):WE (Jm f d a σ h) Q Z=WE (a σ h) (λ vs h1=>WE (f (vs++d) h1) Q Z) Z:=by unfold Jm;rw[Xp]
theorem QV {Q:IV->IH->Prop}{r:SRes}(w:WSE r (λ _ h=>Q .non h) Q λ n _ h=>(∃c fs,h[n]?=Za (.exc c fs))/\Z n h):WE r.fin Q Z:=by
 cases r with
 | next σ h=>exact w
 | ret v h=>exact w
 | exc n σ h =>
  obtain⟨⟨c,fs,e⟩,z⟩:=w
  rw[Jut e]
  exact z
 | _=>exact Zf w
theorem Jne (b:S1)(hs:List HdI)(w:WSE (b σ h) N R λ n σ1 h1=>∃c fs,h1[n]?=Za (.exc c fs)/\WS (Xe hs c n σ1 h1) N R):WS (sTry b hs σ h) N R:=by
 unfold sTry
 cases e:b σ h with
 | next σ1 h1=>rw[e] at w;exact w
 | ret v h1=>rw[e] at w;exact w
 | exc n σ1 h1 =>
  rw[e] at w
  obtain⟨c,fs,e1,w⟩:=w
  dsimp only
  rw[e1]
  exact w
 | _=>rw[e] at w;exact Zf w
theorem Jw0 (it:I1)(g:G1)(b:S1):WSE (sFor it g b σ h) N R Y=WE (it σ h) (λ J h1=>WSE (Qf J.chk g b J.xs σ h1) N R Y) λ n h=>Y n σ h:=by unfold sFor;rw[XL]
theorem Js7 {chk:IH->Prop}{g:G1}{b:S1}(I:Nat->ISt->IH->Prop){xs:List IV}(hc:∀i σ h,I i σ h->chk h)
  (turn:∀i (hi:i<xs.length) σ h,I i σ h->WS (g xs[i] σ h) (λ σ1 h1=>WSE (b σ1 h1) (I (i+1)) R λ n σ2 h2=>(∃c fs,h2[n]?=Za (.exc c fs))/\Y n σ2 h2) λ _ _=>False)(done:∀σ h,I xs.length σ h->N σ h)(start:I 0 σ h):WSE (Qf chk g b xs σ h) N R Y:=by
 have key:∀(n i:Nat)(σ:ISt)(h:IH),xs.length-i=n->i<=xs.length->I i σ h->WSE (Qf chk g b (xs.drop i) σ h) N R Y:=by
  intro n
  induction n with
  | zero =>
   intro i σ h hn hi hI
   have:i=xs.length:=by omega
   subst this
   rw[ZdF]
   unfold Qf
   rw[if_pos (hc _ _ _ hI)]
   exact done _ _ hI
  | succ n ih =>
   intro i σ h hn hi hI
   have hlt:i<xs.length:=by omega
   rw[ZaW hlt]
   unfold Qf
   rw[if_pos (hc _ _ _ hI)]
   have t:=turn i hlt σ h hI
   cases eg:g xs[i] σ h with
   | next σ1 h1 =>
    rw[eg] at t
    have t':WSE (b σ1 h1) (I (i+1)) R λ n σ2 h2=>(∃c fs,h2[n]?=Za (.exc c fs))/\Y n σ2 h2:=t
    dsimp only
    cases eb:b σ1 h1 with
    | next σ2 h2=>rw[eb] at t';exact ih (i+1) σ2 h2 (by omega) hlt t'
    | ret v h2=>rw[eb] at t';exact t'
    | exc m σ2 h2 =>
     rw[eb] at t'
     obtain⟨⟨c,fs,e⟩,y⟩:=t'
     dsimp only
     rw[e]
     exact y
    | _=>rw[eb] at t';exact(show False from t').elim
   | _=>rw[eg] at t;exact Zf t
 exact key xs.length 0 σ h (by omega) (Zar _) start
theorem Jwp {Q:IV->IH->Prop}(c:Str)(f:List IV->IH->Res IV)(d:List IV)(a:A1):WE (Vb c f d a σ h) Q Z=WE (a σ h) (λ vs h1=>WE (f (.ref h1.length::(vs++d)) (h1++[.ins c []])) (λ r h2=>r=.non/\Q (.ref h1.length) h2) Z) Z:=by
 unfold Vb;rw[Xp];congr 1;funext vs h1;rw[Xp];congr 1;funext r h2;cases r<;>simp[WE]
theorem Jwo {Q:IV->IH->Prop}{P:Pg}{m c:Str}{n i:Nat}{o:E1}{a:A1}{fs:List (Str×IV)}{h1:IH}{f:List IV->IH->Res IV}{d:List IV}(e:o σ h=.ok (.ref i) h1)(hi:h1[i]?=Za (.ins c fs))(hf:fs.lookup m=Ze)(hd:YJ P m n c=Za (f,d)):WE (Jp P m n o a σ h) Q Z=WE (a σ h1) (λ vs h2=>WE (f (.ref i::(vs++d)) h2) Q Z) Z:=by
 unfold Jp
 rw[e]
 have hi':Ya (.ref i) h1=Zh:=by simp[Ya,hi]
 dsimp only
 rw[hi',if_pos rfl]
 unfold Jri
 rw[e,Xp,Jzy]
 dsimp only
 rw[hi]
 dsimp only
 rw[hd,hf]
 dsimp only
 rw[Xp]
theorem Jwz (sl:Option Nat)(r:SRes):WS (r.drop sl) N R=WS r (λ σ h=>N (VT sl Ze σ) h) R:=by
 unfold SRes.drop;cases r<;>rfl
theorem Jz2 {g:Str->Option Bool}{sl:Option Nat}{m:S1}{r:List HdI}{c:Str}{n:Nat}(e:g c=Za Zh):WS (Xe ((g,sl,m)::r) c n σ h) N R=WS (m (VT sl (Za (.ref n)) σ) h) (λ σ h=>N (VT sl Ze σ) h) R:=by
 unfold Xe;dsimp only;rw[e];dsimp only;rw[Jwz]
theorem Vf {Q:List IV->IH->Prop}:WE (Jd σ h) Q Z=Q [] h:=rfl
theorem QA {Q:List IV->IH->Prop}(e:E1)(a:A1):WE (Ja e a σ h) Q Z=WE (e σ h) (λ v h1=>WE (a σ h1) (λ vs h2=>Q (v::vs) h2) Z) Z:=by
 unfold Ja;rw[Xp];congr 1;funext v h1;rw[Xp];rfl
theorem we_c {Q:IV->IH->Prop}(v:IV):WE (eC v σ h) Q Z=Q v h:=rfl
theorem Jwx {Q:IV->IH->Prop}(x:Str)(lo hi:Option Int):WR (slT (.str x) lo hi h) Q=(x.length<=sizeLine/\Q (.str (Zdc x lo hi)) h):=by
 unfold slT;by_cases z:x.length<=sizeLine<;>simp[WR,z]
theorem Jnc {Q:IV->IH->Prop}(x:Str):WR (Yp (.str x) [] h) Q=(3*x.length<=sizeLine/\Q (.str (Zb1 x)) h):=by
 unfold Yp;by_cases z:3*x.length<=sizeLine<;>simp[WR,z]
theorem Jmg:bmOf "str" "upper" 0=Za Yp:=by kernel_rfl
theorem Jnd {j i n:Nat}{f:List IV->IH->Res IV}{c:Str}{fs:List (Str×IV)}(hs:σ[i]?=Za (Za (.ref n)))(hn:h[n]?=Za (.exc c fs)):WS (XB j f i σ h) N R=WR (f [.ref n] (h.set n (.hld c fs))) λ v h'=>N (σ.set j (Za v)) h':=by
 unfold XB;rw[hs];dsimp only;rw[hn];dsimp only;cases f [.ref n] (h.set n (.hld c fs))<;>rfl
theorem Jm7 {n:Nat}{c:Str}{fs:List (Str×IV)}(e:h[n]?=Za (.hld c fs)):tyI (.ref n) h=Za (.exc c):=by simp[tyI,e]
theorem Jwu {Q:ItI->IH->Prop}(ml:E1):WR (XX ml σ h) Q=WR (ml σ h) λ v h1=>∃i,v=.ref i/\∃xs,h1[i]?=Za (.lst xs)/\Q ⟨xs,λ h'=>h'[i]?=Za (.lst xs)⟩ h1:=by
 unfold XX;rw[Jr];congr 1;funext v h1
 cases v with
 | ref i =>
  cases e:h1[i]? with
  | none=>simp[WR,e]
  | some o=>cases o<;>simp[WR,e]
 | _=>simp[WR]
theorem Jz0 {Q:IV->IH->Prop}(T:String)(g:IV->List IV->IH->Res IV)(o:E1)(a:A1):WR (eBm T g o a σ h) Q=WR (o σ h) λ x h1=>tyOk T x h1=Zh/\WR (a σ h1) λ xs h2=>WR (g x xs h2) Q:=by
 unfold eBm;rw[Jr];congr 1;funext x h1
 by_cases z:tyOk T x h1=Zh
 ·rw[if_pos z,Jr];simp[z]
 ·rw[if_neg z];simp[z,WR]
theorem Jq1 {Q:IV->IH->Prop}{i:Nat}{bs:List Bool}{k:Bool}{j:Nat}(hi:h[i]?=Za (.lst (bs.map .bl)))(hj:bs.findIdx? (· ==k)=Za j):WR (XY (.ref i) [.bl k] h) Q=Q (.int j) h:=by
 have hb:Vn (bs.map .bl)=Za bs:=by
  clear hi hj
  induction bs with
  | nil=>rfl
  | cons b r ih=>simp[Vn,ih]
 unfold XY;dsimp only;rw[hi];dsimp only;rw[hb];dsimp only;rw[hj];rfl
theorem Jnf {Y:Nat->ISt->IH->Prop}(f:Str)(o e:E1)(w:WE (e σ h) (λ _ _=>False) λ n h'=>Y n σ h'):WSE (QO f o e σ h) N R Y:=by
 unfold QO;rw[XL];exact w.mono (λ _ _ z=>z.elim) λ _ _ z=>z
end
section
variable {mk:IV->IH->Res IV}{kf:IV->List Int}{i n:Nat}{ys:List IV}
end
end L4
namespace LW
theorem Kaz {α:Sort _}{p:α->Prop}{a':α}:(∃a,a'=a/\p a)↔p a':=exists_eq_left'
theorem Kbz {α:Sort _}{p:α->Prop}{a':α}:(∃a,a=a'/\p a)↔p a':=exists_eq_left
theorem Kcz (a b:Bool):(L3.IV.bl a=L3.IV.bl b)=(a=b):=L3.IV.bl.injEq a b
theorem Kdz (a b:Int):(L3.IV.int a=L3.IV.int b)=(a=b):=L3.IV.int.injEq a b
theorem Kez (a b:Nat):(L3.IV.ref a=L3.IV.ref b)=(a=b):=L3.IV.ref.injEq a b
theorem Kfz (a b:PySem.Str):(L3.IV.str a=L3.IV.str b)=(a=b):=L3.IV.str.injEq a b
theorem Kgz (a b:List L3.IV):(L3.IV.tup a=L3.IV.tup b)=(a=b):=L3.IV.tup.injEq a b
theorem Khz (a b:List L3.IV):(L3.IX.lst a=L3.IX.lst b)=(a=b):=L3.IX.lst.injEq a b
theorem Kiz {α:Type _}(a b:α):(Za a=Za b)=(a=b):=ZH a b
theorem Kjz:(!true)=Zc:=ZW
theorem Kkz:(!false)=Zh:=ZV
theorem Klz:(Zh=Zc)=False:=ZL
theorem Kmz:(Zc=Zh)=False:=ZD
theorem Knz {α β:Type _}(a:α)(f:α->Option β):(Za a).bind f=f a:=ZQ a f
theorem Koz (p:Prop):(True->p)=p:=true_implies p
theorem Kpz (p:Prop):(False->p)=True:=false_implies p
theorem Kqz (α:Sort _):(α->True)=True:=implies_true α
theorem Krz {α:Type _}{a b:α}{l:List α}{n:Nat}:(a::l).set (n+1) b=a::l.set n b:=Zby
theorem Ksz {α:Type _}{a b:α}{l:List α}:(a::l).set 0 b=b::l:=Za6
theorem Ktz {α:Type _}{a:α}{l m:List α}:(a::l)++m=a::(l++m):=Za3
theorem Kuz {α:Type _}(l:List α):[]++l=l:=ZaM l
theorem Kvz {α:Type _}(l:List α):l++[]=l:=Za2 l
end LW
namespace LW
open PySem L2 L3 L4
noncomputable def top (i:Nat):Zbu:=PySem.Challenge.pw_dutyproof_k93_texts_refused.main.body.getD i (.Pass ⟨0,0,0,0⟩)
def Jeb:D4:=⟨top 14,"is_whole",["thing"],["thing"],[]⟩
def Jao:D4:=⟨top 15,"is_whole_from",["thing","least"],["thing","least"],[]⟩
def Jdd:D4:=⟨top 16,"rounds_up",["top","bottom"],["top","bottom"],[]⟩
def Jfx:D4:=⟨top 23,"is_name",["thing"],["thing"],[]⟩
def Jfw:D4:=⟨top 24,"is_hold",["hold","length"],["hold","length"],[]⟩
def Jc8:D4:=⟨top 25,"lie_apart",["one","other"],["one","other"],[]⟩
def Jfy:D4:=⟨top 26,"lies_in",["one","other"],["one","other"],[]⟩
def Ja9:D4:=⟨top 27,"go_together",["one","other"],["one","other"],[]⟩
def Jae:D4:=⟨top 28,"all_go_together",["holds"],["holds","place","hold"],[]⟩
def Jc9:D4:=⟨top 29,"own_holds",["holds","length"],["holds","length"],[]⟩
def Jfz:D4:=⟨top 30,"own_due",["due","gap"],["due","gap"],[]⟩
def QN:D4:=⟨YS (top 31) 0,"Work.__init__",["self","name","gap","length","due","late","holds"],["self","name","gap","length","due","late","holds"],[.non,.int 0,.non]⟩
def Jc6:D4:=⟨top 35,"is_number",["word"],["word"],[]⟩
def Jee:D4:=⟨top 36,"words_of",["text"],["text"],[]⟩
def Jdb:D4:=⟨top 37,"read_hold",["word"],["word","named","bounds"],[]⟩
def Jdc:D4:=⟨top 38,"read_work",["text"],["text","words","holds"],[]⟩
def Jaf:D4:=⟨top 39,"words_of_coming",["part"],["part","words"],[]⟩
def Jed:D4:=⟨top 40,"read_row",["duty","text"],["duty","text","parts"],[]⟩
def Jda:D4:=⟨top 44,"own_works",["works"],["works"],[]⟩
def Jea:D4:=⟨top 45,"crowd_of",["works"],["works","greatest"],[]⟩
def Jc5:D4:=⟨YS (top 46) 0,"Duty.__init__",["self","works"],["self","works"],[]⟩
def Jez:D4:=⟨YS (top 46) 2,"Duty.work",["self","at"],["self","at"],[]⟩
def Jai:D4:=⟨YS (top 46) 3,"Duty.number_of",["self","name"],["self","name","at","work"],[]⟩
def Jd4:D4:=⟨YS (top 46) 4,"Duty.crowd",["self"],["self"],[]⟩
def Jba:D4:=⟨top 48,"_law_cell_at",["_law_script","_law_k"],["_law_script","_law_k"],[]⟩
def Jec:D4:=⟨top 49,"_law_word",["_law_e"],["_law_e","_law_some"],[]⟩
def Jar:D4:=⟨top 50,"_law_said_work",["_law_text"],["_law_text","_law_word_here","_law_e"],[]⟩
def Jay:D4:=⟨top 51,"_law_said_row",["_law_duty","_law_text"],["_law_duty","_law_text","_law_word_here","_law_e"],[]⟩
def Jc7:D4:=⟨top 52,"_law_names",["_law_cell","_law_many"],["_law_cell","_law_many","_law_letters","_law_size","_law_at","_law_names_here","_law_k","_law_name","_law_j","_law_sign"],[]⟩
def Jap:D4:=⟨top 53,"_law_no_number",["_law_cell"],["_law_cell","_law_some"],[]⟩
def Jbb:D4:=⟨top 54,"_law_no_hold",["_law_cell","_law_thing"],["_law_cell","_law_thing","_law_some"],[]⟩
def Jax:D4:=⟨top 55,"_law_bad_work",["_law_words","_law_cell","_law_names_here"],["_law_words","_law_cell","_law_names_here","_law_found","_law_way","_law_start"],[]⟩
def Jbc:D4:=⟨top 56,"_law_no_text",["_law_words","_law_cell","_law_names_here"],["_law_words","_law_cell","_law_names_here","_law_found","_law_way","_law_at"],[]⟩
def Jaj:D4:=⟨top 57,"_law_work_texts",["_law_script","_law_names_here"],["_law_script","_law_names_here","_law_size","_law_gap","_law_words","_law_cell","_law_k","_law_end","_law_bad","_law_some"],[]⟩
def Jaq:D4:=⟨top 58,"_law_row_texts",["_law_script","_law_names_here"],["_law_script","_law_names_here","_law_cell","_law_parts","_law_k","_law_size","_law_at","_law_rows","_law_wrong","_law_others","_law_other","_law_unnamed","_law_some"],[]⟩
def Vo:D4:=⟨top 59,"law",["_law_script"],["_law_script","_law_names_here","_law_duty","_law_text","_law_word_here"],[]⟩
def T:Tab where
 fns:=[(("is_whole":Str),Jeb),(("is_whole_from":Str),Jao),(("rounds_up":Str),Jdd),(("is_name":Str),Jfx),(("is_hold":Str),Jfw),(("lie_apart":Str),Jc8),(("lies_in":Str),Jfy),(("go_together":Str),Ja9),(("all_go_together":Str),Jae),(("own_holds":Str),Jc9),(("own_due":Str),Jfz),(("is_number":Str),Jc6),(("words_of":Str),Jee),(("read_hold":Str),Jdb),(("read_work":Str),Jdc),(("words_of_coming":Str),Jaf),(("read_row":Str),Jed),(("own_works":Str),Jda),(("crowd_of":Str),Jea),(("_law_cell_at":Str),Jba),(("_law_said_work":Str),Jar),(("_law_said_row":Str),Jay),(("_law_names":Str),Jc7),(("_law_no_number":Str),Jap),(("_law_no_hold":Str),Jbb),(("_law_bad_work":Str),Jax),(("_law_no_text":Str),Jbc),(("_law_work_texts":Str),Jaj),(("_law_row_texts":Str),Jaq),(("law":Str),Vo)]
 clss:=[("Work",QN),("Duty",Jc5)]
 meths:=[("Work",([]:List (Str×D4))),("Duty",([("work",Jez),("number_of",Jai),("crowd",Jd4)]:List (Str×D4)))]
 cons:=[("MOST_LETTERS",.int 8),("MOST_HOLDS",.int 6),("THING",.int 0),("START",.int 1),("END",.int 2),("FIGURES",.str "0123456789"),("MOST_FIGURES",.int 60),("MOST_WORKS",.int 12),("MOST_CROWD",.int 80)]
 isas:=[("Work",["Work"])]
 flds:=["append","at","due","gap","hold_tuples","index","insert","join","late","length","name","partition","place","split","startswith","stuck","upper","works"]
 frees:=["all","bool","enumerate","int","isinstance","len","list","max","range","set","str","sum","tuple"]
 razs:=["BadWork","NoText","NoName"]
 xis:=[("NoText",[("BadWork",Zc),("NoText",Zh),("NoName",Zc)]),("BadWork",[("BadWork",Zh),("NoText",Zc),("NoName",Zc)]),("NoName",[("BadWork",Zc),("NoText",Zc),("NoName",Zh)]),("BadDuty",[("BadWork",Zc),("NoText",Zc),("NoName",Zc)]),("TooMany",[("BadWork",Zc),("NoText",Zc),("NoName",Zc)]),("BadRow",[("BadWork",Zc),("NoText",Zc),("NoName",Zc)]),("HoldsThings",[("BadWork",Zc),("NoText",Zc),("NoName",Zc)]),("NotKept",[("BadWork",Zc),("NoText",Zc),("NoName",Zc)]),("NoRanks",[("BadWork",Zc),("NoText",Zc),("NoName",Zc)]),("NoRow",[("BadWork",Zc),("NoText",Zc),("NoName",Zc)]),("ValueError",[("BadWork",Zh),("NoText",Zh),("NoName",Zh)]),("DutyError",[("BadWork",Zh),("NoText",Zh),("NoName",Zh)])]
 wrs:=[(("_law_word":Str),Jec)]
 xcs:=Zh
def Jlg:Str->Option Bool:=λ c=>J0 c [("BadWork",Zc),("NoText",Zh),("NoName",Zc)]
def Jip:Str->Option Bool:=λ c=>J0 c [("BadWork",Zh),("NoText",Zc),("NoName",Zc)]
def Jlf:Str->Option Bool:=λ c=>J0 c [("BadWork",Zc),("NoText",Zc),("NoName",Zh)]
def Jio:Str->Option Bool:=λ c=>J0 c [("BadWork",Zc),("NoText",Zc),("NoName",Zc)]
def Jis:Str->Option Bool:=λ c=>J0 c [("BadWork",Zc),("NoText",Zc),("NoName",Zc)]
def Jle:Str->Option Bool:=λ c=>J0 c [("BadWork",Zc),("NoText",Zc),("NoName",Zc)]
def Jen:Str->Option Bool:=λ c=>J0 c [("BadWork",Zc),("NoText",Zc),("NoName",Zc)]
def Jir:Str->Option Bool:=λ c=>J0 c [("BadWork",Zc),("NoText",Zc),("NoName",Zc)]
def Jiq:Str->Option Bool:=λ c=>J0 c [("BadWork",Zc),("NoText",Zc),("NoName",Zc)]
def Jng:Str->Option Bool:=λ c=>J0 c [("BadWork",Zc),("NoText",Zc),("NoName",Zc)]
def Jf9:Str->Option Bool:=λ c=>J0 c [("BadWork",Zh),("NoText",Zh),("NoName",Zh)]
def Jcg:Str->Option Bool:=λ c=>J0 c [("BadWork",Zh),("NoText",Zh),("NoName",Zh)]
abbrev pg (k:Nat):Pg:=mkPg T (run T k)
section
variable (k:Nat)(x0 x1 x2 x3 x4 x5 x6:IV)(h:IH)
abbrev Jd9:=run T k Jeb
abbrev Vx:=run T k Jao
abbrev Jes:=run T k Jdd
abbrev Y3:=run T k Jfx
abbrev Je2:=run T k Jfw
abbrev Jeq:=run T k Jc8
abbrev Je3:=run T k Jfy
abbrev Ja4:=run T k Ja9
abbrev Y2:=run T k Jae
abbrev Xy:=run T k Jc9
abbrev Xx:=run T k Jfz
abbrev VY:=run T k QN
abbrev XM:=run T k Jc6
abbrev Y8:=run T k Jee
abbrev Jcx:=run T k Jdb
abbrev Xz:=run T k Jdc
abbrev Jas:=run T k Jaf
abbrev VF:=run T k Jed
abbrev Jer:=run T k Jda
abbrev Jga:=run T k Jea
abbrev Jeo:=run T k Jc5
abbrev Ja0:=run T k Jai
abbrev Vy:=run T k Jba
abbrev Y7 (k:Nat):List IV->IH->Res IV:=runW T Jec
abbrev Y6:=run T k Jar
abbrev Y5:=run T k Jay
abbrev Jep:=run T k Jc7
abbrev XO:=run T k Jap
abbrev Jcw:=run T k Jbb
abbrev Jch:=run T k Jax
abbrev Y4:=run T k Jbc
abbrev Jah:=run T k Jaj
abbrev Jam:=run T k Jaq
abbrev XN:=run T k Vo
def Jgl (k:Nat):S1:=(Jn (eAnd (eIsi JM (Jb 0)) (eUn (X8 tru) (eIsi JL (Jb 0))) tru))
theorem Jhf:Jd9 (k+1) [x0] h=(Jgl k [Za x0] h).fin:=by kernel_rfl
def Jat:S1:=(Jn (eAnd (Jm (Jd9 k) [] (Ja (Jb 0) Jd)) (Jc cGe (Jb 0) (Jb 1)) tru))
theorem Jdj:Vx (k+1) [x0,x1] h=(Jat k [Za x0,Za x1] h).fin:=by kernel_rfl
def Jfs (k:Nat):S1:=(Jn (Jc J8 (Jc YY (Jc Jf (Jb 0) (Jb 1)) (eC (.int 1))) (Jb 1)))
theorem Jj8:Jes (k+1) [x0,x1] h=(Jfs k [Za x0,Za x1] h).fin:=by kernel_rfl
def YH (k:Nat):E1:=(Va cLe cLe (eC (.str "a")) (Jb 0) (eC (.str "z")))
def Jex:S1:=(Jn (eCB (on1 allI) (Ja (J7 (iAny (Jb 0)) 1 [] (gNm 0) JB (YH k)) Jd)))
def Jew:S1:=Je (sIf (tOrI (JA (Jj tru (eIsi J6 (Jb 0)))) (JA (Jj asB (Va cLe cLe (eC (.int 1)) (eCB (on1 lenI) (Ja (Jb 0) Jd)) (eC (.int 8)))))) (Jn (eC (.bl Zc))) Jy) (Jex k)
theorem Jie:Y3 (k+1) [x0] h=(Jew k [Za x0] h).fin:=by kernel_rfl
def Jev:S1:=(Jn (eAnd (Jm (Vx k) [] (Ja (Jc Jg (Jb 0) (eC (.int 2))) (Ja (Jc Jf (Jc Jg (Jb 0) (eC (.int 1))) (eC (.int 1))) Jd))) (Jc cLt (Jc Jg (Jb 0) (eC (.int 2))) (Jb 1)) tru))
def Jeu:S1:=Je (sIf (JA (Jj tru (Jm (Vx k) [] (Ja (Jc Jg (Jb 0) (eC (.int 1))) (Ja (eC (.int 0)) Jd))))) (Jn (eC (.bl Zc))) Jy) (Jev k)
def Jet:S1:=Je (sIf (tOrI (JA (Jj tru (eIsi JP (Jb 0)))) (tOrI (Jj asB (Jc cNe (eCB (on1 lenI) (Ja (Jb 0) Jd)) (eC (.int 3)))) (JA (Jj tru (Jm (Y3 k) [] (Ja (Jc Jg (Jb 0) (eC (.int 0))) Jd)))))) (Jn (eC (.bl Zc))) Jy) (Jeu k)
theorem Jid:Je2 (k+1) [x0,x1] h=(Jet k [Za x0,Za x1] h).fin:=by kernel_rfl
def Jfi (k:Nat):S1:=(Jn (eOr (Jc cLe (Jc Jg (Jb 0) (eC (.int 2))) (Jc Jg (Jb 1) (eC (.int 1)))) (Jc cLe (Jc Jg (Jb 1) (eC (.int 2))) (Jc Jg (Jb 0) (eC (.int 1)))) tru))
theorem Jj6:Jeq (k+1) [x0,x1] h=(Jfi k [Za x0,Za x1] h).fin:=by kernel_rfl
def Jhb (k:Nat):S1:=(Jn (eAnd (Jc cLe (Jc Jg (Jb 1) (eC (.int 1))) (Jc Jg (Jb 0) (eC (.int 1)))) (Jc cLe (Jc Jg (Jb 0) (eC (.int 2))) (Jc Jg (Jb 1) (eC (.int 2)))) tru))
theorem Jnl:Je3 (k+1) [x0,x1] h=(Jhb k [Za x0,Za x1] h).fin:=by kernel_rfl
def Jbf:S1:=(Jn (eOr (Jm (Je3 k) [] (Ja (Jb 0) (Ja (Jb 1) Jd))) (Jm (Je3 k) [] (Ja (Jb 1) (Ja (Jb 0) Jd))) tru))
def Jbe:S1:=Je (sIf (Jj asB (Jc cEq (Jc Jg (Jb 0) (eC (.int 0))) (Jc Jg (Jb 1) (eC (.int 0))))) (Jn (eC (.bl Zc))) Jy) (Jbf k)
def Jbd:S1:=Je (sIf (Jj tru (Jm (Jeq k) [] (Ja (Jb 0) (Ja (Jb 1) Jd)))) (Jn (eC (.bl Zh))) Jy) (Jbe k)
theorem Jek:Ja4 (k+1) [x0,x1] h=(Jbd k [Za x0,Za x1] h).fin:=by kernel_rfl
def Jab:E1:=(Jm (Ja4 k) [] (Ja (Jb 1) (Ja (Jb 0) Jd)))
def Jag:S1:=(sIf (JA (Jj tru (eCB (on1 allI) (Ja (J7 (iAny (eSl slI (Jb 0) Qr (JX (Jb 1)))) 1 [2] (gNm 0) JB (Jab k)) Jd)))) (Jn (eC (.bl Zc))) Jy)
def Jal (k:Nat):S1:=(Jn (eC (.bl Zh)))
def Jak:S1:=Je (sFor (iRg V4 (Ja (Jb 0) Jd)) (gTp 2 (gC (gNm 1) (gC (gNm 2) gN))) (Jag k)) (Jal k)
theorem Jcd:Y2 (k+1) [x0] h=(Jak k [Za x0,Ze,Ze] h).fin:=by kernel_rfl
def Jbm:E1:=(Jm (Je2 k) [] (Ja (Jb 0) (Ja (Jb 1) Jd)))
def Jdz (k:Nat):E1:=(JE (Ja (Jc Jg (Jb 0) (eC (.int 0))) (Ja (Jc Jg (Jb 0) (eC (.int 1))) (Ja (Jc Jg (Jb 0) (eC (.int 2))) Jd))))
def Jfj:S1:=(Jn (eCB (on1 XE) (Ja (J7 (iAny (Jb 0)) 1 [] (gNm 0) JB (Jdz k)) Jd)))
def Jc1:S1:=Je (sIf (JA (Jj tru (Jm (Y2 k) [] (Ja (Jb 0) Jd)))) (JZ "BadWork" (Ja (eC (.str "two holds lie apart, or one in the other, and apart where they are of one thing")) Jd)) Jy) (Jfj k)
def Jc0:S1:=Je (sIf (JA (Jj tru (eCB (on1 allI) (Ja (J7 (iAny (Jb 0)) 1 [1] (gNm 0) JB (Jbm k)) Jd)))) (JZ "BadWork" (Ja (eC (.str "a hold is a tuple (thing, start, end), with 0 <= start < end < length")) Jd)) Jy) (Jc1 k)
def Ja6:S1:=Je (sIf (Jj asB (Jc cGt (eCB (on1 lenI) (Ja (Jb 0) Jd)) (eC (.int 6)))) (JZ "BadWork" (Ja (eC (.str "a work has at most six holds")) Jd)) Jy) (Jc0 k)
def YC:S1:=Je (sIf (JA (Jj tru (eIsi JH (Jb 0)))) (JZ "BadWork" (Ja (eC (.str "the holds are a list")) Jd)) Jy) (Ja6 k)
def X2:S1:=Je (sIf (Jj asB (Jc cIs (Jb 0) (eC .non))) (Jn (JE Jd)) Jy) (YC k)
theorem Jd6:Xy (k+1) [x0,x1] h=(X2 k [Za x0,Za x1] h).fin:=by kernel_rfl
def Jhc (k:Nat):S1:=(Jn (Jb 0))
def Jey:S1:=Je (sIf (tOrI (JA (Jj tru (Jm (Vx k) [] (Ja (Jb 0) (Ja (eC (.int 1)) Jd))))) (Jj asB (Jc cGt (Jb 0) (Jb 1)))) (JZ "BadWork" (Ja (eC (.str "the due is a whole number from 1 to the gap")) Jd)) Jy) (Jhc k)
def Jcz:S1:=Je (sIf (Jj asB (Jc cIs (Jb 0) (eC .non))) (Jn (Jb 1)) Jy) (Jey k)
theorem Jgf:Xx (k+1) [x0,x1] h=(Jcz k [Za x0,Za x1] h).fin:=by kernel_rfl
def YB:S1:=(QO "hold_tuples" (Jb 0) (Jm (Xy k) [] (Ja (Jb 6) (Ja (Jb 3) Jd))))
def Jfa:S1:=Je (QO "late" (Jb 0) (Jb 5)) (YB k)
def XS:S1:=Je (QO "due" (Jb 0) (Jm (Xx k) [] (Ja (Jb 4) (Ja (Jb 2) Jd)))) (Jfa k)
def Je9:S1:=Je (QO "length" (Jb 0) (Jb 3)) (XS k)
def Je8:S1:=Je (QO "gap" (Jb 0) (Jb 2)) (Je9 k)
def Ja5:S1:=Je (QO "name" (Jb 0) (Jb 1)) (Je8 k)
def XR:S1:=Je (sIf (JA (Jj tru (Jm (Vx k) [] (Ja (Jb 5) (Ja (eC (.int 0)) Jd))))) (JZ "BadWork" (Ja (eC (.str "the lateness is a whole number from 0 on")) Jd)) Jy) (Ja5 k)
def XQ:S1:=Je (sIf (JA (Jj tru (Jm (Vx k) [] (Ja (Jb 3) (Ja (eC (.int 1)) Jd))))) (JZ "BadWork" (Ja (eC (.str "the length is a whole number from 1 on")) Jd)) Jy) (XR k)
def YA:S1:=Je (sIf (JA (Jj tru (Jm (Vx k) [] (Ja (Jb 2) (Ja (eC (.int 1)) Jd))))) (JZ "BadWork" (Ja (eC (.str "the gap is a whole number from 1 on")) Jd)) Jy) (XQ k)
def Je7:S1:=Je (sIf (JA (Jj tru (Jm (Y3 k) [] (Ja (Jb 1) Jd)))) (JZ "BadWork" (Ja (eC (.str "the name is a text of one to eight small letters")) Jd)) Jy) (YA k)
theorem Jgq:VY (k+1) [x0,x1,x2,x3,x4,x5,x6] h=(Je7 k [Za x0,Za x1,Za x2,Za x3,Za x4,Za x5,Za x6] h).fin:=by kernel_rfl
def Jdy (k:Nat):E1:=(Jc cInT (Jb 0) (eC (.str "0123456789")))
def Jfb:S1:=(Jn (eOr (Jc cEq (Jb 0) (eC (.str "0"))) (eUn (X8 tru) (Jp (pg k) "startswith" 1 (Jb 0) (Ja (eC (.str "0")) Jd))) tru))
def Jcy:S1:=Je (sIf (tOrI (JA (Jj asB (Va cLe cLe (eC (.int 1)) (eCB (on1 lenI) (Ja (Jb 0) Jd)) (eC (.int 60))))) (JA (Jj tru (eCB (on1 allI) (Ja (J7 (iAny (Jb 0)) 1 [] (gNm 0) JB (Jdy k)) Jd))))) (Jn (eC (.bl Zc))) Jy) (Jfb k)
theorem Jj4:XM (k+1) [x0] h=(Jcy k [Za x0] h).fin:=by kernel_rfl
def Jdx:S1:=(Jn (Jp (pg k) "split" 1 (Jb 0) (Ja (eC (.str " ")) Jd)))
theorem Jhh:Y8 (k+1) [x0] h=(Jdx k [Za x0] h).fin:=by kernel_rfl
def Jfo (k:Nat):S1:=(Jn (JE (Ja (Jc Jg (Jb 1) (eC (.int 0))) (Ja (eCB (on1 Q8) (Ja (Jc Jg (Jb 2) (eC (.int 0))) Jd)) (Ja (eCB (on1 Q8) (Ja (Jc Jg (Jb 2) (eC (.int 2))) Jd)) Jd)))))
def Jc4:S1:=Je (sIf (tOrI (JA (Jj tru (Jm (XM k) [] (Ja (Jc Jg (Jb 2) (eC (.int 0))) Jd)))) (JA (Jj tru (Jm (XM k) [] (Ja (Jc Jg (Jb 2) (eC (.int 2))) Jd))))) (JZ "NoText" (Ja (eC (.str "a hold is written as THING:START-END")) Jd)) Jy) (Jfo k)
def Jc3:S1:=Je (Jk 2 (Jp (pg k) "partition" 1 (Jc Jg (Jb 1) (eC (.int 2))) (Ja (eC (.str "-")) Jd))) (Jc4 k)
def Jc2:S1:=Je (Jk 1 (Jp (pg k) "partition" 1 (Jb 0) (Ja (eC (.str ":")) Jd))) (Jc3 k)
theorem Jgr:Jcx (k+1) [x0] h=(Jc2 k [Za x0,Ze,Ze] h).fin:=by kernel_rfl
def Jd2:E1:=(Jm (XM k) [] (Ja (Jb 0) Jd))
def Jbn:E1:=(Jm (Jcx k) [] (Ja (Jb 0) Jd))
def Jfr:S1:=(Jn (Vb "Work" (VY k) [] (Ja (Jc Jg (Jb 1) (eC (.int 0))) (Ja (eCB (on1 Q8) (Ja (Jc Jg (Jb 1) (eC (.int 1))) Jd)) (Ja (eCB (on1 Q8) (Ja (Jc Jg (Jb 1) (eC (.int 2))) Jd)) (Ja (eCB (on1 Q8) (Ja (Jc Jg (Jb 1) (eC (.int 3))) Jd)) (Ja (eCB (on1 Q8) (Ja (Jc Jg (Jb 1) (eC (.int 4))) Jd)) (Ja (Jb 2) Jd))))))))
def Ja8:S1:=Je (Jk 2 (Qx (iAny (eSl slI (Jb 1) (JX (eC (.int 5))) Qr)) 1 [] (gNm 0) JB (Jbn k))) (Jfr k)
def Jfq:S1:=Je (sIf (tOrI (Jj asB (Jc cLt (eCB (on1 lenI) (Ja (Jb 1) Jd)) (eC (.int 5)))) (JA (Jj tru (eCB (on1 allI) (Ja (J7 (iAny (eSl slI (Jb 1) (JX (eC (.int 1))) (JX (eC (.int 5))))) 1 [] (gNm 0) JB (Jd2 k)) Jd))))) (JZ "NoText" (Ja (eC (.str "a work is written as NAME GAP LENGTH DUE LATE, with its holds behind")) Jd)) Jy) (Ja8 k)
def Jfp:S1:=Je (Jk 1 (Jm (Y8 k) [] (Ja (Jb 0) Jd))) (Jfq k)
def Ja7:S1:=Je (sIf (JA (Jj tru (eIsi J6 (Jb 0)))) (JZ "NoText" (Ja (eC (.str "a work is read from a text")) Jd)) Jy) (Jfp k)
theorem Jd7:Xz (k+1) [x0] h=(Ja7 k [Za x0,Ze,Ze] h).fin:=by kernel_rfl
def Jaz:E1:=(Jm (XM k) [] (Ja (Jb 0) Jd))
def Jbk (k:Nat):S1:=(Jn (Jb 1))
def Jbj:S1:=Je (sIf (tOrI (Jj asB (Jc cNe (eCB (on1 lenI) (Ja (Jb 1) Jd)) (eC (.int 4)))) (JA (Jj tru (eCB (on1 allI) (Ja (J7 (iAny (eSl slI (Jb 1) (JX (eC (.int 1))) Qr)) 1 [] (gNm 0) JB (Jaz k)) Jd))))) (JZ "NoText" (Ja (eC (.str "a coming is written as NAME COME LATE LENGTH")) Jd)) Jy) (Jbk k)
def Jbi:S1:=Je (Jk 1 (Jm (Y8 k) [] (Ja (Jb 0) Jd))) (Jbj k)
theorem Jf1:Jas (k+1) [x0] h=(Jbi k [Za x0,Ze] h).fin:=by kernel_rfl
def Jci:E1:=(Jm (Jas k) [] (Ja (Jb 0) Jd))
def Jcj:E1:=(JE (Ja (Jp (pg k) "number_of" 1 (Jb 1) (Ja (Jc Jg (Jb 0) (eC (.int 0))) Jd)) (Ja (eCB (on1 Q8) (Ja (Jc Jg (Jb 0) (eC (.int 1))) Jd)) (Ja (eCB (on1 Q8) (Ja (Jc Jg (Jb 0) (eC (.int 2))) Jd)) (Ja (eCB (on1 Q8) (Ja (Jc Jg (Jb 0) (eC (.int 3))) Jd)) Jd)))))
def Jcb:S1:=(Jn (Qx (iAny (Jb 2)) 1 [0] (gNm 0) JB (Jcj k)))
def YE:S1:=Je (Jk 2 (Qx (iAny (Jp (pg k) "split" 1 (Jb 1) (Ja (eC (.str "; ")) Jd))) 1 [] (gNm 0) JB (Jci k))) (Jcb k)
def Jdw:S1:=Je (sIf (Jj asB (Jc cEq (Jb 1) (eC (.str "")))) (Jn (Jv Jd)) Jy) (YE k)
def YD:S1:=Je (sIf (JA (Jj tru (eIsi J6 (Jb 1)))) (JZ "NoText" (Ja (eC (.str "a row is read from a text")) Jd)) Jy) (Jdw k)
theorem YO:VF (k+1) [x0,x1] h=(YD k [Za x0,Za x1,Ze] h).fin:=by kernel_rfl
def Jd0 (k:Nat):E1:=(eIsi (Jta ["Work"]) (Jb 0))
def Jd1 (k:Nat):E1:=(eFld "name" (Jb 0))
def Jfn (k:Nat):S1:=(Jn (eCB (on1 XE) (Ja (Jb 0) Jd)))
def Jfm:S1:=Je (sIf (Jj asB (Jc cNe (YK (Ja (J7 (iAny (Jb 0)) 1 [] (gNm 0) JB (Jd1 k)) Jd)) (eCB (on1 lenI) (Ja (Jb 0) Jd)))) stS Jy) (Jfn k)
def Jfl:S1:=Je (sIf (JA (Jj tru (eCB (on1 allI) (Ja (J7 (iAny (Jb 0)) 1 [] (gNm 0) JB (Jd0 k)) Jd)))) stS Jy) (Jfm k)
def Jfk:S1:=Je (sIf (JA (Jj tru (eIsi JH (Jb 0)))) stS Jy) (Jfl k)
theorem Jj7:Jer (k+1) [x0] h=(Jfk k [Za x0] h).fin:=by kernel_rfl
def Jeg (k:Nat):E1:=(eFld "due" (Jb 0))
def Jeh:E1:=(Jm (Jes k) [] (Ja (Jc Jf (Jb 1) (eFld "late" (Jb 0))) (Ja (eFld "gap" (Jb 0)) Jd)))
def Jgk:S1:=(Jn (eCB (on1 sumI) (Ja (J7 (iAny (Jb 0)) 1 [1] (gNm 0) JB (Jeh k)) Jd)))
def Jgj:S1:=Je (Jk 1 (YL (Ja (J7 (iAny (Jb 0)) 1 [] (gNm 0) JB (Jeg k)) Jd) (eC (.int 0)))) (Jgk k)
theorem Jls:Jga (k+1) [x0] h=(Jgj k [Za x0,Ze] h).fin:=by kernel_rfl
def Je6:S1:=(sIf (Jj asB (Jc cGt (Jm (Jga k) [] (Ja (eFld "works" (Jb 0)) Jd)) (eC (.int 80)))) stS Jy)
def Je5:S1:=Je (sIf (Jj asB (Jc cGt (eCB (on1 lenI) (Ja (eFld "works" (Jb 0)) Jd)) (eC (.int 12)))) stS Jy) (Je6 k)
def Je4:S1:=Je (QO "works" (Jb 0) (Jm (Jer k) [] (Ja (Jb 1) Jd))) (Je5 k)
theorem Jj3:Jeo (k+1) [x0,x1] h=(Je4 k [Za x0,Za x1] h).fin:=by kernel_rfl
def Jbo (k:Nat):S1:=(sIf (Jj asB (Jc cEq (eFld "name" (Jb 3)) (Jb 1))) (Jn (Jb 2)) Jy)
def Jbr (k:Nat):S1:=(JZ "NoName" (Ja (eC (.str "no work of the duty has this name")) Jd))
def Jbq:S1:=Je (sIf (Jj tru (eIsi J6 (Jb 1))) (sFor (iRg V4 (Ja (eFld "works" (Jb 0)) Jd)) (gTp 2 (gC (gNm 2) (gC (gNm 3) gN))) (Jbo k)) Jy) (Jbr k)
theorem Jgd:Ja0 (k+1) [x0,x1] h=(Jbq k [Za x0,Za x1,Ze,Ze] h).fin:=by kernel_rfl
def Jdm (k:Nat):S1:=(Jn (eC (.int 0)))
def Jdl:S1:=Je (sIf (Jj asB (Jc cLt (Jb 1) (eCB (on1 lenI) (Ja (Jb 0) Jd)))) (Jn (Jc Jg (Jb 0) (Jb 1))) Jy) (Jdm k)
theorem Jh2:Vy (k+1) [x0,x1] h=(Jdl k [Za x0,Za x1] h).fin:=by kernel_rfl
def Jei (k:Nat):E1:=(Jb 0)
def Jej (k:Nat):T1:=(Jj tru (Jb 0))
def Jgp (k:Nat):S1:=(Jn (Jc Jg (Jv (Ja (eC (.str "text")) (Ja (eC (.str "work")) (Ja (eC (.str "name")) (Ja (eC (.str "")) (Ja (eC (.str "")) (Ja (eC (.str "")) (Ja (eC (.str "")) (Ja (eC (.str "")) (Ja (eC (.str "")) (Ja (eC (.str "")) Jd))))))))))) (eBm "list" XY (Jb 1) (Ja (eC (.bl Zh)) Jd))))
def Jdv:S1:=Je (sIf (tOrI (JA (Jj tru (eIsi (QC Jf9) (Jb 0)))) (Jj asB (Jc cNe (eCB (on1 lenI) (Ja (J7 (XX (Jb 1)) 1 [] (gNm 0) (Jej k) (Jei k)) Jd)) (eC (.int 1))))) (Jn (eC (.str "other"))) Jy) (Jgp k)
def Jgo:S1:=Je (Jk 1 (Jc Jf (Jb 1) (Jv (Ja (eIsi (QC Jir) (Jb 0)) (Ja (eIsi (QC Jiq) (Jb 0)) (Ja (eIsi (QC Jng) (Jb 0)) Jd)))))) (Jdv k)
def Jgn:S1:=Je (Jk 1 (Jc Jf (Jb 1) (Jv (Ja (eIsi (QC Jis) (Jb 0)) (Ja (eIsi (QC Jle) (Jb 0)) (Ja (eIsi (QC Jen) (Jb 0)) Jd)))))) (Jgo k)
def Jgm:S1:=Je (Jk 1 (Jv (Ja (eIsi (QC Jlg) (Jb 0)) (Ja (eIsi (QC Jip) (Jb 0)) (Ja (eIsi (QC Jlf) (Jb 0)) (Ja (eIsi (QC Jio) (Jb 0)) Jd)))))) (Jgn k)
theorem Jlt:Y7 (k+1) [x0] h=(Jgm k [Za x0,Ze] h).fin:=by kernel_rfl
def Jaw (k:Nat):S1:=(Jn (Jb 1))
def Jav:S1:=Je (sTry (JK (Jm (Xz k) [] (Ja (Jb 0) Jd))) [(Jcg,Za 2,(XB 1 (Y7 k) 2))]) (Jaw k)
def Jau:S1:=Je (Jk 1 (eC (.str "read"))) (Jav k)
theorem Jdk:Y6 (k+1) [x0] h=(Jau k [Za x0,Ze,Ze] h).fin:=by kernel_rfl
def Ja3 (k:Nat):S1:=(Jn (Jb 2))
def Ja2:S1:=Je (sTry (JK (Jm (VF k) [] (Ja (Jb 0) (Ja (Jb 1) Jd)))) [(Jcg,Za 3,(XB 2 (Y7 k) 3))]) (Ja3 k)
def Ja1:S1:=Je (Jk 2 (eC (.str "read"))) (Ja2 k)
theorem Jd5:Y5 (k+1) [x0,x1] h=(Ja1 k [Za x0,Za x1,Ze,Ze] h).fin:=by kernel_rfl
def Jel (k:Nat):S1:=(Je (Jk 9 (Jc Jf (Jc Jf (Jc J8 (Jb 0) (eC (.int 6720))) (Jc Vt (Jb 8) (Jc Jf (eC (.int 1)) (Jc Ju (Jb 0) (eC (.int 25)))))) (Jc Vt (Jb 6) (eCB (on1 Q8) (Ja (Jc cEq (Jb 8) (Jb 4)) Jd))))) (Jk 7 (Jc Jf (Jb 7) (Jc Jg (Jb 2) (Jc Ju (Jb 9) (eC (.int 26)))))))
def Jem:S1:=(Je (Jk 7 (eC (.str ""))) (Je (sFor (iRg V5 (Ja (Jb 3) Jd)) (gNm 8) (Jel k)) (JK (Jp (pg k) "append" 1 (Jb 5) (Ja (Jb 7) Jd)))))
def Jfh (k:Nat):S1:=(Jn (Jb 5))
def Jfg:S1:=Je (sFor (iRg V5 (Ja (Jb 1) Jd)) (gNm 6) (Jem k)) (Jfh k)
def Jff:S1:=Je (Jk 5 (Jv Jd)) (Jfg k)
def Jfe:S1:=Je (Jk 4 (Jc Ju (Jc Ju (Jc J8 (Jb 0) (eC (.int 8))) (eC (.int 840))) (Jb 3))) (Jff k)
def Jfd:S1:=Je (Jk 3 (Jc Jf (eC (.int 1)) (Jc Ju (Jb 0) (eC (.int 8))))) (Jfe k)
def Jfc:S1:=Je (Jk 2 (eC (.str "abcdefghijklmnopqrstuvwxyz"))) (Jfd k)
theorem Jj5:Jep (k+1) [x0,x1] h=(Jfc k [Za x0,Za x1,Ze,Ze,Ze,Ze,Ze,Ze,Ze,Ze] h).fin:=by kernel_rfl
def Jcn (k:Nat):S1:=(Jn (Jc Jg (Jb 1) (Jc Ju (Jb 0) (eC (.int 20)))))
def Jcm:S1:=Je (Jk 1 (Jc Jf (Jb 1) (Jv (Ja (Jc Jf (eC (.str "0")) (eCB (on1 strI) (Ja (Jc Ju (Jb 0) (Jc Vu (eC (.int 10)) (eC (.int 30)))) Jd))) (Ja (Jc Jf (eC (.str "1")) (Jc Vt (eC (.str "0")) (eC (.int 60)))) (Ja (Jc Jf (eCB (on1 strI) (Ja (Jc Ju (Jc J8 (Jb 0) (eC (.int 20))) (Jc Vu (eC (.int 10)) (eC (.int 50)))) Jd)) (eC (.str "l"))) (Ja (eC (.str ";")) Jd))))))) (Jcn k)
def Jcl:S1:=Je (Jk 1 (Jv (Ja (eC (.str "")) (Ja (eC (.str "00")) (Ja (eC (.str "01")) (Ja (eC (.str "-1")) (Ja (eC (.str "-0")) (Ja (eC (.str "+1")) (Ja (eC (.str "1.0")) (Ja (eC (.str "1_0")) (Ja (eC (.str "a")) (Ja (eC (.str "1a")) (Ja (eC (.str "0x1")) (Ja (eC (.str "1,0")) (Ja (eC (.str "1\n")) (Ja (eC (.str "	1")) (Ja (eC (.str "None")) (Ja (eC (.str "True")) Jd)))))))))))))))))) (Jcm k)
theorem Jgv:XO (k+1) [x0] h=(Jcl k [Za x0,Ze] h).fin:=by kernel_rfl
def Jdq:S1:=(Jn (Jc Jg (Jc Jf (Jb 2) (Jv (Ja (Jc Jf (Jc Jf (Jb 1) (eC (.str ":1-"))) (Jm (XO k) [] (Ja (Jc J8 (Jb 0) (eC (.int 15))) Jd))) Jd))) (Jc Ju (Jb 0) (eC (.int 15)))))
def Jdp:S1:=Je (Jk 2 (Jc Jf (Jb 2) (Jv (Ja (Jc Jf (Jb 1) (eC (.str ":1;2"))) (Ja (Jc Jf (Jc Jf (Jc Jf (Jb 1) (eC (.str ":"))) (Jm (XO k) [] (Ja (Jc J8 (Jb 0) (eC (.int 15))) Jd))) (eC (.str "-3"))) Jd))))) (Jdq k)
def Jdo:S1:=Je (Jk 2 (Jc Jf (Jb 2) (Jv (Ja (Jc Jf (Jb 1) (eC (.str ":1:2-3"))) (Ja (Jc Jf (Jb 1) (eC (.str "1-2"))) (Ja (Jc Jf (Jb 1) (eC (.str ":1-02"))) (Ja (Jc Jf (Jb 1) (eC (.str "::1-2"))) (Ja (Jc Jf (Jb 1) (eC (.str ":1--2"))) Jd)))))))) (Jdp k)
def Jdn:S1:=Je (Jk 2 (Jv (Ja (eC (.str "")) (Ja (Jb 1) (Ja (Jc Jf (Jb 1) (eC (.str ":1"))) (Ja (Jc Jf (Jb 1) (eC (.str ":1-"))) (Ja (Jc Jf (Jb 1) (eC (.str ":-2"))) (Ja (Jc Jf (Jb 1) (eC (.str ":1-2-3"))) (Ja (Jc Jf (Jb 1) (eC (.str ":01-2"))) Jd))))))))) (Jdo k)
theorem Jh3:Jcw (k+1) [x0,x1] h=(Jdn k [Za x0,Za x1,Ze] h).fin:=by kernel_rfl
def Jcc (k:Nat):E1:=(Jc Jf (Jc Jf (Jc Jf (Jc Jf (Jc Jg (Jb 1) (Jc Ju (Jb 0) (eC (.int 3)))) (eC (.str ":"))) (eCB (on1 strI) (Ja (Jb 0) Jd))) (eC (.str "-"))) (eCB (on1 strI) (Ja (Jc Jf (Jb 0) (eC (.int 1))) Jd)))
def Vm (k:Nat):S1:=(Jn (Jb 3))
def Jdi:S1:=Je (sIf (Jj asB (Jc cEq (Jb 4) (eC (.int 0)))) (sAsg (Jc Jg (Jv (Ja (eC (.str "")) (Ja (eC (.str "A")) (Ja (eC (.str "a1")) (Ja (eC (.str "abcdefghi")) (Ja (Jc Jf (Jc Jg (Jb 2) (eC (.int 0))) (eC (.str ":"))) (Ja (Jp (pg k) "upper" 0 (Jc Jg (Jb 2) (eC (.int 0))) Jd) (Ja (eC (.str "-")) Jd)))))))) (Jc Ju (Jc J8 (Jb 1) (eC (.int 10))) (eC (.int 7)))) (gSb (Jb 3) (eC (.int 0)))) (sIf (Jj asB (Jc cLt (Jb 4) (eC (.int 4)))) (sAsg (eC (.str "0")) (gSb (Jb 3) (Jb 4))) (sIf (Jj asB (Jc cEq (Jb 4) (eC (.int 4)))) (sAsg (eCB (on1 strI) (Ja (Jc Jf (Jc Jf (eCB (on1 Q8) (Ja (Jc Jg (Jb 3) (eC (.int 1))) Jd)) (eC (.int 1))) (Jc Ju (Jc J8 (Jb 1) (eC (.int 10))) (Jc Vu (eC (.int 10)) (eC (.int 20))))) Jd)) (gSb (Jb 3) (eC (.int 3)))) (sIf (Jj asB (Jc cEq (Jb 4) (eC (.int 5)))) (JK (Jp (pg k) "append" 1 (Jb 3) (Ja (Jc Jf (Jc Jf (Jc Jf (Jc Jf (Jc Jg (Jb 2) (eC (.int 6))) (eC (.str ":"))) (Jc Jg (Jb 3) (eC (.int 2)))) (eC (.str "-"))) (eCB (on1 strI) (Ja (Jc Jf (eCB (on1 Q8) (Ja (Jc Jg (Jb 3) (eC (.int 2))) Jd)) (eC (.int 1))) Jd))) Jd))) (sIf (Jj asB (Jc cEq (Jb 4) (eC (.int 6)))) (Je (Jk 5 (Jc Ju (Jc J8 (Jb 1) (eC (.int 10))) (eC (.int 5)))) (JK (Jp (pg k) "append" 1 (Jb 3) (Ja (Jc Jf (Jc Jf (Jc Jf (Jc Jf (Jc Jg (Jb 2) (eC (.int 6))) (eC (.str ":"))) (eCB (on1 strI) (Ja (Jb 5) Jd))) (eC (.str "-"))) (eCB (on1 strI) (Ja (Jc Ju (Jc J8 (Jb 1) (eC (.int 50))) (Jc Jf (eC (.int 1)) (Jb 5))) Jd))) Jd)))) (sIf (Jj asB (Jc cEq (Jb 4) (eC (.int 7)))) (JK (Jp (pg k) "append" 1 (Jb 3) (Ja (Jc Jf (Jc Jg (Jv (Ja (eC (.str "")) (Ja (eC (.str "A")) (Ja (eC (.str "a1")) (Ja (eC (.str "abcdefghi")) (Ja (eC (.str "a-")) (Ja (eC (.str "a_")) Jd))))))) (Jc Ju (Jc J8 (Jb 1) (eC (.int 10))) (eC (.int 6)))) (eC (.str ":0-1"))) Jd))) (sIf (Jj asB (Jc cEq (Jb 4) (eC (.int 8)))) (Jk 3 (Jc Jf (eSl slI (Jb 3) Qr (JX (eC (.int 5)))) (J7 (iRg V5 (Ja (eC (.int 7)) Jd)) 1 [2] (gNm 0) JB (Jcc k)))) (Jk 3 (Jc Jf (eSl slI (Jb 3) Qr (JX (eC (.int 5)))) (Jv (Ja (Jc Jf (Jc Jg (Jb 2) (eC (.int 0))) (eC (.str ":0-2"))) (Ja (Jc Jf (Jc Jf (Jc Jf (Jc Jg (Jb 2) (eC (.int 0))) (eC (.str ":"))) (eCB (on1 strI) (Ja (Jc Ju (Jc J8 (Jb 1) (eC (.int 10))) (eC (.int 2))) Jd))) (eC (.str "-2"))) Jd)))))))))))) (Vm k)
def Jdh:S1:=Je (Jk 4 (Jc Ju (Jb 1) (eC (.int 10)))) (Jdi k)
def Jdg:S1:=Je (Jk 3 (eCB (on1 VO) (Ja (Jb 0) Jd))) (Jdh k)
theorem Jhg:Jch (k+1) [x0,x1,x2] h=(Jdg k [Za x0,Za x1,Za x2,Ze,Ze,Ze] h).fin:=by kernel_rfl
def XT (k:Nat):S1:=(Jn (Jb 3))
def Jdu:S1:=Je (sIf (Jj asB (Jc cEq (Jb 4) (eC (.int 0)))) (sAsg (Jm (XO k) [] (Ja (Jc J8 (Jb 1) (eC (.int 20))) Jd)) (gSb (Jb 3) (Jc Jf (eC (.int 1)) (Jc Ju (Jc J8 (Jb 1) (eC (.int 5))) (eC (.int 4)))))) (sIf (Jj asB (Jc cEq (Jb 4) (eC (.int 1)))) (JK (Jp (pg k) "insert" 2 (Jb 3) (Ja (Jc Jf (eC (.int 5)) (Jc Ju (Jc J8 (Jb 1) (eC (.int 75))) (Jc YY (eCB (on1 lenI) (Ja (Jb 3) Jd)) (eC (.int 4))))) (Ja (Jm (Jcw k) [] (Ja (Jc J8 (Jb 1) (eC (.int 5))) (Ja (Jc Jg (Jb 2) (eC (.int 6))) Jd))) Jd)))) (sIf (Jj asB (Jc cEq (Jb 4) (eC (.int 2)))) (Jk 3 (eSl slI (Jb 3) Qr (JX (Jc Ju (Jc J8 (Jb 1) (eC (.int 5))) (eC (.int 5)))))) (JK (Jp (pg k) "insert" 2 (Jb 3) (Ja (Jb 5) (Ja (eC (.str "")) Jd))))))) (XT k)
def Jdt:S1:=Je (Jk 5 (Jc Ju (Jc J8 (Jb 1) (eC (.int 5))) (Jc Jf (eCB (on1 lenI) (Ja (Jb 3) Jd)) (eC (.int 1))))) (Jdu k)
def Jds:S1:=Je (Jk 4 (Jc Ju (Jb 1) (eC (.int 5)))) (Jdt k)
def Jdr:S1:=Je (Jk 3 (eCB (on1 VO) (Ja (Jb 0) Jd))) (Jds k)
theorem Jh4:Y4 (k+1) [x0,x1,x2] h=(Jdr k [Za x0,Za x1,Za x2,Ze,Ze,Ze] h).fin:=by kernel_rfl
def Jbp:S1:=(Je (Jk 7 (Jc Jf (Jc Jf (Jc Vt (eC (.int 2)) (Jb 6)) (eC (.int 1))) (Jc Ju (Jc J8 (Jb 5) (eC (.int 7))) (eC (.int 2))))) (JK (Jp (pg k) "append" 1 (Jb 4) (Ja (Jc Jf (Jc Jf (Jc Jf (Jc Jf (Jc Jg (Jb 1) (Jc Ju (Jb 6) (eC (.int 3)))) (eC (.str ":"))) (eCB (on1 strI) (Ja (Jc Vt (eC (.int 2)) (Jb 6)) Jd))) (eC (.str "-"))) (eCB (on1 strI) (Ja (Jb 7) Jd))) Jd))))
def Jbh (k:Nat):S1:=(Jn (Jb 9))
def Jbg:S1:=Je (JK (Jp (pg k) "append" 1 (Jb 9) (Ja (JE (Ja (Jc Jg (Jv (Ja (eC .non) (Ja (eC (.int 5)) (Ja (Jb 4) (Ja (eC (.bl Zh)) Jd))))) (Jc Ju (Jb 5) (eC (.int 4)))) (Ja (eC (.str "text")) Jd))) Jd))) (Jbh k)
def Jca:S1:=Je (JK (Jp (pg k) "append" 1 (Jb 9) (Ja (JE (Ja (Jp (pg k) "join" 1 (eC (.str " ")) (Ja (Jm (Y4 k) [] (Ja (Jb 8) (Ja (Jb 5) (Ja (Jb 1) Jd)))) Jd)) (Ja (eC (.str "text")) Jd))) Jd))) (Jbg k)
def Jb9:S1:=Je (JK (Jp (pg k) "append" 1 (Jb 9) (Ja (JE (Ja (Jp (pg k) "join" 1 (eC (.str " ")) (Ja (Jm (Y4 k) [] (Ja (Jb 4) (Ja (Jb 5) (Ja (Jb 1) Jd)))) Jd)) (Ja (eC (.str "text")) Jd))) Jd))) (Jca k)
def Jb8:S1:=Je (Jk 9 (Jv (Ja (JE (Ja (Jp (pg k) "join" 1 (eC (.str " ")) (Ja (Jb 4) Jd)) (Ja (eC (.str "read")) Jd))) (Ja (JE (Ja (Jp (pg k) "join" 1 (eC (.str " ")) (Ja (Jb 8) Jd)) (Ja (eC (.str "work")) Jd))) Jd)))) (Jb9 k)
def Jb7:S1:=Je (Jk 8 (Jm (Jch k) [] (Ja (Jb 4) (Ja (Jm (Vy k) [] (Ja (Jb 0) (Ja (eC (.int 5)) Jd))) (Ja (Jb 1) Jd))))) (Jb8 k)
def Jan:S1:=Je (Jk 5 (Jm (Vy k) [] (Ja (Jb 0) (Ja (eC (.int 4)) Jd)))) (Jb7 k)
def Jb6:S1:=Je (sFor (iRg V5 (Ja (Jc Ju (Jb 5) (eC (.int 7))) Jd)) (gNm 6) (Jbp k)) (Jan k)
def Jb5:S1:=Je (Jk 5 (Jm (Vy k) [] (Ja (Jb 0) (Ja (eC (.int 3)) Jd)))) (Jb6 k)
def Jb4:S1:=Je (Jk 4 (Jv (Ja (Jc Jg (Jb 1) (eC (.int 6))) (Ja (eCB (on1 strI) (Ja (Jb 3) Jd)) (Ja (eCB (on1 strI) (Ja (Jb 2) Jd)) (Ja (eCB (on1 strI) (Ja (Jc J8 (Jb 2) (eC (.int 2))) Jd)) (Ja (eCB (on1 strI) (Ja (Jc J8 (Jb 2) (eC (.int 3))) Jd)) Jd))))))) (Jb5 k)
def Jb3:S1:=Je (Jk 3 (Jc Jf (Jb 2) (Jc Ju (Jm (Vy k) [] (Ja (Jb 0) (Ja (eC (.int 2)) Jd))) (Jc Vu (eC (.int 10)) (eC (.int 50)))))) (Jb4 k)
def Jb2:S1:=Je (Jk 2 (Jc Jf (eC (.int 20)) (Jc Ju (Jm (Vy k) [] (Ja (Jb 0) (Ja (eC (.int 1)) Jd))) (Jc Vu (eC (.int 10)) (eC (.int 50)))))) (Jb3 k)
theorem Jge:Jah (k+1) [x0,x1] h=(Jb2 k [Za x0,Za x1,Ze,Ze,Ze,Ze,Ze,Ze,Ze,Ze] h).fin:=by kernel_rfl
def Jce:S1:=(Je (Jk 5 (Jc Ju (Jc J8 (Jm (Vy k) [] (Ja (Jb 0) (Ja (Jc Jf (eC (.int 7)) (Jc Ju (Jb 4) (eC (.int 3)))) Jd))) (Jc Jf (Jb 4) (eC (.int 1)))) (Jc Vu (eC (.int 10)) (eC (.int 55))))) (JK (Jp (pg k) "append" 1 (Jb 3) (Ja (Jv (Ja (Jc Jg (Jb 1) (Jc Ju (Jc Jf (Jb 2) (Jb 4)) (eC (.int 2)))) (Ja (eCB (on1 strI) (Ja (Jb 5) Jd)) (Ja (eCB (on1 strI) (Ja (Jc Ju (Jc J8 (Jb 5) (eC (.int 3))) (eC (.int 7))) Jd)) (Ja (eCB (on1 strI) (Ja (Jb 4) Jd)) Jd))))) Jd))))
def Jbl:E1:=(Jp (pg k) "join" 1 (eC (.str " ")) (Ja (Jb 0) Jd))
def Jb1 (k:Nat):S1:=(Jn (Jc Jf (Jb 12) (Jv (Ja (JE (Ja (eC (.str "")) (Ja (eC (.str "read")) Jd))) (Ja (JE (Ja (Jc Jg (Jv (Ja (eC (.str " ")) (Ja (eC (.str "; ")) (Ja (eC (.str ";")) (Ja (eC (.str "none")) Jd))))) (Jc Ju (Jc J8 (Jb 2) (eC (.int 3))) (eC (.int 4)))) (Ja (eC (.str "text")) Jd))) Jd)))))
def Jb0:S1:=Je (JK (Jp (pg k) "append" 1 (Jb 12) (Ja (JE (Ja (Jc Jg (Jv (Ja (eC .non) (Ja (eC (.int 5)) (Ja (Jb 7) (Ja (JE (Ja (eC (.str "")) Jd)) (Ja (eC (.bl Zc)) Jd)))))) (Jc Ju (Jb 2) (eC (.int 5)))) (Ja (eC (.str "text")) Jd))) Jd))) (Jb1 k)
def Jbz:S1:=Je (JK (Jp (pg k) "append" 1 (Jb 12) (Ja (JE (Ja (Jp (pg k) "join" 1 (Jc Jg (Jv (Ja (eC (.str ";")) (Ja (eC (.str " ; ")) (Ja (eC (.str ",")) (Ja (eC (.str ";  ")) Jd))))) (Jc Ju (Jb 2) (eC (.int 4)))) (Ja (Jc Jf (Jb 7) (eSl slI (Jb 7) Qr (JX (eC (.int 1))))) Jd)) (Ja (eC (.str "text")) Jd))) Jd))) (Jb0 k)
def Jby:S1:=Je (JK (Jp (pg k) "append" 1 (Jb 12) (Ja (JE (Ja (Jp (pg k) "join" 1 (eC (.str "; ")) (Ja (Jc Jf (eSl slI (Jb 7) Qr (JX (Jb 6))) (Jv (Ja (Jb 8) (Ja (Jb 11) Jd)))) Jd)) (Ja (eC (.str "text")) Jd))) Jd))) (Jbz k)
def Jbx:S1:=Je (JK (Jp (pg k) "append" 1 (Jb 12) (Ja (JE (Ja (Jp (pg k) "join" 1 (eC (.str "; ")) (Ja (Jc Jf (Jc Jf (Jc Jf (Jv (Ja (Jb 11) Jd)) (eSl slI (Jb 7) Qr (JX (Jb 6)))) (Jv (Ja (Jb 8) Jd))) (eSl slI (Jb 7) Qr (JX (eC (.int 2))))) Jd)) (Ja (eC (.str "text")) Jd))) Jd))) (Jby k)
def Jbw:S1:=Je (JK (Jp (pg k) "append" 1 (Jb 12) (Ja (JE (Ja (Jp (pg k) "join" 1 (eC (.str "; ")) (Ja (Jc Jf (Jc Jf (eSl slI (Jb 7) Qr (JX (Jb 6))) (Jv (Ja (Jb 11) Jd))) (eSl slI (Jb 7) (JX (Jc Jf (Jb 6) (eC (.int 1)))) Qr)) Jd)) (Ja (eC (.str "name")) Jd))) Jd))) (Jbx k)
def Jbv:S1:=Je (JK (Jp (pg k) "append" 1 (Jb 12) (Ja (JE (Ja (Jp (pg k) "join" 1 (eC (.str "; ")) (Ja (Jc Jf (Jc Jf (Jc Jf (eSl slI (Jb 7) Qr (JX (Jb 6))) (Jv (Ja (Jb 8) Jd))) (eSl slI (Jb 7) (JX (Jc Jf (Jb 6) (eC (.int 1)))) Qr)) (eSl slI (Jb 7) Qr (JX (eC (.int 1))))) Jd)) (Ja (eC (.str "text")) Jd))) Jd))) (Jbw k)
def Jaa:S1:=Je (Jk 12 (Jv (Ja (JE (Ja (Jp (pg k) "join" 1 (eC (.str "; ")) (Ja (Jb 7) Jd)) (Ja (eC (.str "read")) Jd))) Jd))) (Jbv k)
def Jbu:S1:=Je (Jk 8 (Jc Jg (Jb 12) (Jc Ju (Jb 2) (eC (.int 6))))) (Jaa k)
def Jbt:S1:=Je (Jk 12 (Jc Jf (Jb 12) (Jv (Ja (Jc Jf (Jc Jg (Jb 7) (Jb 6)) (eC (.str " "))) (Ja (Jc Jf (eC (.str " ")) (Jc Jg (Jb 7) (Jb 6))) (Ja (eC (.str "")) Jd)))))) (Jbu k)
def Jbs:S1:=Je (Jk 12 (Jv (Ja (Jp (pg k) "join" 1 (eC (.str " ")) (Ja (Jb 8) Jd)) (Ja (Jp (pg k) "join" 1 (eC (.str " ")) (Ja (eSl slT (Jc Jg (Jb 3) (Jb 6)) Qr (JX (eC (.int 3)))) Jd)) (Ja (Jc Jf (Jc Jg (Jb 7) (Jb 6)) (eC (.str " 0"))) Jd))))) (Jbt k)
def Jcv:S1:=Je (Jk 11 (Jp (pg k) "join" 1 (eC (.str " ")) (Ja (Jc Jf (Jv (Ja (Jb 10) Jd)) (eSl slT (Jc Jg (Jb 3) (Jb 6)) (JX (eC (.int 1))) Qr)) Jd))) (Jbs k)
def Jcu:S1:=Je (Jk 10 (Jc Jg (Jb 9) (Jc Ju (Jc J8 (Jb 2) (eC (.int 13))) (eC (.int 5))))) (Jcv k)
def Jad:S1:=Je (Jk 9 (Jv (Ja (Jc Jg (Jb 1) (eC (.int 2))) (Ja (eC (.str "")) (Ja (Jc Jf (Jc Jf (Jc Jg (Jb 1) (eC (.int 0))) (Jc Jg (Jb 1) (eC (.int 1)))) (eC (.str "a"))) (Ja (eSl slT (Jc Jg (Jb 1) (eC (.int 0))) Qr (JX (eUn Jsa (eC (.int 1))))) (Ja (Jp (pg k) "upper" 0 (Jc Jg (Jb 1) (eC (.int 0))) Jd) Jd))))))) (Jcu k)
def Jct:S1:=Je (sAsg (Jm (XO k) [] (Ja (Jc J8 (Jb 2) (eC (.int 147))) Jd)) (gSb (Jb 8) (Jc Jf (eC (.int 1)) (Jc Ju (Jc J8 (Jb 2) (eC (.int 49))) (eC (.int 3)))))) (Jad k)
def Jcs:S1:=Je (Jk 8 (eCB (on1 VO) (Ja (Jc Jg (Jb 3) (Jb 6)) Jd))) (Jct k)
def Jcr:S1:=Je (Jk 7 (Qx (iAny (Jb 3)) 1 [] (gNm 0) JB (Jbl k))) (Jcs k)
def Jac:S1:=Je (Jk 6 (Jc Ju (Jc J8 (Jb 2) (eC (.int 7))) (eCB (on1 lenI) (Ja (Jb 3) Jd)))) (Jcr k)
def Jcq:S1:=Je (sFor (iRg V5 (Ja (Jc Jf (eC (.int 1)) (Jc Ju (Jb 2) (eC (.int 7)))) Jd)) (gNm 4) (Jce k)) (Jac k)
def Jcp:S1:=Je (Jk 3 (Jv Jd)) (Jcq k)
def Jco:S1:=Je (Jk 2 (Jm (Vy k) [] (Ja (Jb 0) (Ja (eC (.int 6)) Jd)))) (Jcp k)
theorem Jgw:Jam (k+1) [x0,x1] h=(Jco k [Za x0,Za x1,Ze,Ze,Ze,Ze,Ze,Ze,Ze,Ze,Ze,Ze,Ze] h).fin:=by kernel_rfl
def Ji7:S1:=(sIf (Jj asB (Jc cNe (Jm (Y6 k) [] (Ja (Jb 3) Jd)) (Jb 4))) (Jn (eC (.bl Zc))) Jy)
def Ji8:S1:=(sIf (Jj asB (Jc cNe (Jm (Y5 k) [] (Ja (Jb 2) (Ja (Jb 3) Jd))) (Jb 4))) (Jn (eC (.bl Zc))) Jy)
def Joq (k:Nat):S1:=(Jn (eC (.bl Zh)))
def Jop:S1:=Je (sFor (iAny (Jm (Jam k) [] (Ja (Jb 0) (Ja (Jb 1) Jd)))) (gTp 2 (gC (gNm 3) (gC (gNm 4) gN))) (Ji8 k)) (Joq k)
def Joo:S1:=Je (sFor (iAny (Jm (Jah k) [] (Ja (Jb 0) (Ja (Jb 1) Jd)))) (gTp 2 (gC (gNm 3) (gC (gNm 4) gN))) (Ji7 k)) (Jop k)
def Jlj:S1:=Je (Jk 2 (Vb "Duty" (Jeo k) [] (Ja (Jv (Ja (Vb "Work" (VY k) [.non,.int 0,.non] (Ja (Jc Jg (Jb 1) (eC (.int 0))) (Ja (eC (.int 9)) (Ja (eC (.int 2)) Jd)))) (Ja (Vb "Work" (VY k) [.non,.int 0,.non] (Ja (Jc Jg (Jb 1) (eC (.int 1))) (Ja (eC (.int 7)) (Ja (eC (.int 3)) Jd)))) Jd))) Jd))) (Joo k)
def Jon:S1:=Je (Jk 1 (Jm (Jep k) [] (Ja (Jm (Vy k) [] (Ja (Jb 0) (Ja (eC (.int 0)) Jd))) (Ja (eC (.int 7)) Jd)))) (Jlj k)
theorem Jxi:XN (k+1) [x0] h=(Jon k [Za x0,Ze,Ze,Ze,Ze] h).fin:=by kernel_rfl
end
theorem Jgc (k:Nat):YJ (pg k) "number_of" 1 "Duty"=Za (Ja0 k,[]):=by kernel_rfl
end LW
section
open PySem L2 L3 L4
local macro_rules | `(tactic| simp! [$xs,*]) => `(tactic| simp (implicitDefEqProofs := Zc) only [QW, Jlb, Jhw, Jld, Y0, Jhy, Jhx, Yz, Jk7, Jk9, Jhv, Jlc, Jk8, QK, Jr, Q0, Xr, X5, YM, Yt, Jq4, Nn, NR, Nz, NY, Jk5, NZ, Jht, XF, VD, Vg, Yy, XG, Np, NI, Nq, NP, NB, NQ, NS, Yx, Nv, Nl, NX, NM, NK, Nu, NJ, NU, Qy, NH, NF, Nx, Yv, Nr, NL, Nt, XH, No, Jhu, NN, Yu, NO, Ny, NA, Yw, NV, NC, NE, ND, NW, NG, Zby, Za6, Za2, Za3, ZaM, exists_eq_left, exists_eq_left', IV.bl.injEq, IV.int.injEq, IV.ref.injEq, IV.str.injEq, IX.lst.injEq, IV.tup.injEq, ZH, ZW, ZV, reduceCtorEq, eq_self, true_implies, false_implies, implies_true, and_true, true_and, and_false, false_and, ZQ, ZL, ZD, Qk, Qg, Ql, Qh, Qi, Qj, JM, JL, J6, JH, JT, JP, JY, Qn, JQ, JN, JO, JR, JW, Qq, Qo, Qp, $xs,*])
namespace LW
open PySem L2 L3 L4
section
variable {k:Nat}{h:IH}
theorem Jq:1000000<sizeLine:=by decide
theorem Jwc (o o':IX):List.set (h++[o]) h.length o'=h++[o']:=by
 rw[Zah _ _ (Zu _),ZeA];rfl
theorem Yj (o o':IX)(g:IH):List.set (h++o::g) h.length o'=h++o'::g:=by
 rw[Zah _ _ (Zu _),ZeA];rfl
end
section
seal L4.run
section
variable {α β:Type}{σ:ISt}{h h1:IH}{N:ISt->IH->Prop}{R:IV->IH->Prop}{P:IV->IH->Prop}
theorem xb {r:Res α}{f:α->IH->Res β}{Q:β->IH->Prop}(x:WR r λ a h=>WR (f a h) Q):WR (r.bind f) Q:=(Jr ..).mpr x
theorem xseq {a b:S1}(x:WS (a σ h) (λ σ1 h1=>WS (b σ1 h1) N R) R):WS (Je a b σ h) N R:=(QW ..).mpr x
theorem xfin {r:SRes}(x:WS r (λ _ h=>P .non h) P):WR r.fin P:=(Yu ..).mpr x
theorem xif {t:T1}{a b:S1}(x:WR (t σ h) λ c h1=>(c=Zh->WS (a σ h1) N R)/\(c=Zc->WS (b σ h1) N R)):WS (sIf t a b σ h) N R:=(Y0 ..).mpr x
theorem xnil (x:N σ h):WS (Jy σ h) N R:=x
theorem binE {f:IV->IV->IH->Res IV}{a b:E1}{x y:IV}{h2:IH}(ea:a σ h=.ok x h1)(eb:b σ h1=.ok y h2):Jc f a b σ h=f x y h2:=by unfold Jc;rw[ea];dsimp only[Res.bind];rw[eb]
theorem arg1 {a:E1}{x:IV}(ea:a σ h=.ok x h1):Ja a Jd σ h=.ok [x] h1:=by unfold Ja;rw[ea];rfl
theorem arg2 {a b:E1}{x y:IV}{h2:IH}(ea:a σ h=.ok x h1)(eb:b σ h1=.ok y h2):Ja a (Ja b Jd) σ h=.ok [x,y] h2:=by unfold Ja;rw[ea];dsimp only[Res.bind];rw[eb];rfl
theorem Jw6 {f:List IV->IH->Res IV}{d:List IV}{a:A1}{xs:List IV}{v:IV}{h2:IH}(ea:a σ h=.ok xs h1)(ef:f (xs++d) h1=.ok v h2):Jm f d a σ h=.ok v h2:=by unfold Jm;rw[ea];exact ef
theorem tofE {a:E1}{c:Bool}(ea:a σ h=.ok (.bl c) h1):Jj asB a σ h=.ok c h1:=by unfold Jj;rw[ea];rfl
theorem ltE {a b:E1}{i j:Int}{h2:IH}(ea:a σ h=.ok (.int i) h1)(eb:b σ h1=.ok (.int j) h2):Jj asB (Jc cLt a b) σ h=.ok (decide (i<j)) h2:=tofE (binE ea eb)
theorem xiff {t:T1}{a b:S1}(e:t σ h=.ok Zc h1)(x:WS (b σ h1) N R):WS (sIf t a b σ h) N R:=xif (Qm e ⟨(λ z=>by cases z),λ _=>x⟩)
theorem xift {t:T1}{a b:S1}(e:t σ h=.ok Zh h1)(x:WS (a σ h1) N R):WS (sIf t a b σ h) N R:=xif (Qm e ⟨λ _=>x,λ z=>by cases z⟩)
theorem okc {α:Type}{r:Res α}{c d:α}(e:r=.ok c h)(q:c=d):r=.ok d h:=q▸e
theorem notE {a:T1}{c:Bool}(e:a σ h=.ok c h1):JA a σ h=.ok (!c) h1:=by unfold JA;rw[e];rfl
theorem truE {a:E1}{c:Bool}(e:a σ h=.ok (.bl c) h1):Jj tru a σ h=.ok c h1:=by unfold Jj;rw[e];rfl
theorem Jq7 {f c:Str}{fs:List (Str×IV)}{i:Nat}{o e:E1}{v:IV}(ev:e σ h=.ok v h1)(eo:o σ h1=.ok (.ref i) h1)(g:h1[i]?=Za (.ins c fs))(l:fs.length<1000)(q:N σ (h1.set i (.ins c (putI f v fs)))):WS (QO f o e σ h) N R:=by
 rw[Xt]
 exact Qm ev (Qm eo ⟨i,c,fs,rfl,g,l,q⟩)
end
end
section
variable {k:Nat}{h:IH}
theorem Xa (ns:List Int)(n:Int)(hn:0<=n):Vy (k+1) [.rol (ns.map .int),.int n] h=.ok (.int (ns.getD n.toNat 0)) h:=by
 refine Qt ?_
 rw[Jh2]
 simp! [Jdl,Jdm,Zo,decide_eq_true_eq,decide_eq_false_iff_not]
 refine⟨λ hl=>⟨.int (ns.getD n.toNat 0),Vl hn ?_,rfl⟩,λ hl=>?_⟩
 ·rw[Z6,Zbx,Zn (show n.toNat<ns.length by omega)]
  rfl
 ·rw[Zbx,ZaL (by omega)]
  rfl
end
section
seal L4.run
section
variable {k:Nat}{h:IH}
theorem Jkb (i:Int):Jd9 (k+1) [.int i] h=.ok (.bl Zh) h:=by rw[Jhf];rfl
theorem Ys (i j:Int):Vx (k+2) [.int i,.int j] h=.ok (.bl (decide (j<=i))) h:=by
 refine Qt ?_
 rw[Jdj]
 simp! [Jat,Jkb]
def IsNm (x:Str):Prop:=1<=x.length/\x.length<=8/\∀c∈x.cps.toList,97<=c/\c<=122
theorem Jw2:(Zb "a").cps.toList=[97]:=by decide +kernel
theorem Jz5:(Zb "z").cps.toList=[122]:=by decide +kernel
theorem Jwe {c:Nat}(hc:97<=c/\c<=122):YH k [Za (.str ⟨#[c]⟩)] h=.ok (.bl Zh) h:=by
 refine Qt ?_
 have h1:¬([c]<[97]):=λ q=>by
  cases q with
  | rel q=>omega
  | cons q=>cases q
 have h2:¬([122]<[c]):=λ q=>by
  cases q with
  | rel q=>omega
  | cons q=>cases q
 simp only[YH,XF,Xr,X5,Q0,Jue,Jw2,Jz5,h1,h2,decide_false,exists_eq_left,exists_eq_left',IV.bl.injEq,IV.int.injEq,IV.ref.injEq,IV.str.injEq,IX.lst.injEq,IV.tup.injEq,ZH,ZW,ZV,reduceCtorEq,eq_self,true_implies,false_implies,implies_true,and_true,true_and,and_false,false_and,ZQ,ZL,ZD,Qk,Qg,Ql,Qh,Qi,Qj,JM,JL,J6,JH,JT,JP,JY,Qn,JQ,JN,JO,JR,JW,Qq,Qo,Qp]
theorem Jih {x:Str}(hx:IsNm x):WR (Y3 (k+1) [.str x] h) λ v h'=>v=.bl Zh/\Ex h h':=by
 obtain⟨h1,h2,h3⟩:=hx
 have hb:=Jq
 have hz:x.length<=sizeLine:=by omega
 have a1:(1:Int)<=x.length:=by omega
 have a2:(x.length:Int)<=8:=by omega
 rw[Jie]
 simp! [Jew,Jex,hz,a1,a2,decide_true]
 refine WR.mono (QP (xs:=Qs x) (chk:=λ _=>True) (f:=λ _=>.bl Zh) (h:=h) ?_ ?_ (λ _ _=>trivial) ?_) ?_
 ·exact⟨rfl,rfl,rfl⟩
 ·have:(Qs x).length=x.length:=by simp[Qs,ZcB]
  omega
 ·intro v hv h2 _
  obtain⟨c,hc,rfl⟩:=ZR.mp hv
  exact Qm (Jwe (h3 c hc)) ⟨rfl,.refl _⟩
 ·rintro v h' ⟨rfl,g,rfl⟩
  refine Qm (all_map (f:=λ _=>Zh) JI) ⟨?_,.cons ..⟩
  simp
abbrev Hd:=Str×Int×Int
def tupH (a:Hd):IV:=.tup [.str a.1,.int a.2.1,.int a.2.2]
def HdOk (len:Int)(a:Hd):Prop:=IsNm a.1/\0<=a.2.1/\a.2.1<a.2.2/\a.2.2<len
def Tog (a b:Hd):Prop:=a.2.2<=b.2.1∨b.2.2<=a.2.1∨(a.1≠b.1/\((b.2.1<=a.2.1/\a.2.2<=b.2.2)∨(a.2.1<=b.2.1/\b.2.2<=a.2.2)))
theorem Jnp {a:Hd}{len:Int}(ha:HdOk len a):WR (Je2 (k+3) [tupH a,.int len] h) λ v h'=>v=.bl Zh/\Ex h h':=by
 obtain⟨h1,h2,h3,h4⟩:=ha
 rw[Jid]
 have h5:a.2.1+1<=a.2.2:=by omega
 simp! [Jet,Jeu,Jev,tupH,Z0,Zal,Ys]
 refine⟨λ q=>absurd q (by decide),λ _=>WR.mono (Jih h1) ?_⟩
 rintro v h' ⟨rfl,x⟩
 simp! [decide_eq_true h2,decide_eq_true h4,decide_eq_true h5]
 exact x
theorem Jgs (a b:Hd):Jeq (k+1) [tupH a,tupH b] h=.ok (.bl (decide (a.2.2<=b.2.1)||decide (b.2.2<=a.2.1))) h:=by
 refine Qt ?_
 rw[Jj6]
 simp! [Jfi,tupH]
 cases decide (a.2.2<=b.2.1)<;>simp
theorem Jij (a b:Hd):Je3 (k+1) [tupH a,tupH b] h=.ok (.bl (decide (b.2.1<=a.2.1)&&decide (a.2.2<=b.2.2))) h:=by
 refine Qt ?_
 rw[Jnl]
 simp! [Jhb,tupH]
 cases decide (b.2.1<=a.2.1)<;>simp
theorem Jh5 {a b:Hd}(t:Tog a b):Ja4 (k+2) [tupH a,tupH b] h=.ok (.bl Zh) h:=by
 refine Qt ?_
 rw[Jek]
 have ix:∀a:Hd,WR (Jg (tupH a) (.int 0) h)=λ P=>P (.str a.1) h:=λ a=>by
  funext P
  simp only[tupH,JY,exists_eq_left,exists_eq_left',IV.bl.injEq,IV.int.injEq,IV.ref.injEq,IV.str.injEq,IX.lst.injEq,IV.tup.injEq,ZH,ZW,ZV,reduceCtorEq,eq_self,true_implies,false_implies,implies_true,and_true,true_and,and_false,false_and,ZQ,ZL,ZD,Qk,Qg,Ql,Qh,Qi,Qj,JM,JL,J6,JH,JT,JP,JY,Qn,JQ,JN,JO,JR,JW,Qq,Qo,Qp]
 simp! [Jbd,Jbe,Jbf,Jgs,Jij,ix]
 unfold Tog at t
 simp only[Za7,ZbX,Zl,Zeb,decide_eq_true_eq,decide_eq_false_iff_not]
 grind
theorem Jmd {hs:List Hd}{i:Nat}(hi:h[i]?=Za (.lst (hs.map tupH)))(hl:hs.length<=6)(ht:∀m n (hm:m<n)(hn:n<hs.length),Tog hs[n] hs[m]) :
  WR (Y2 (k+3) [.ref i] h) λ v h'=>v=.bl Zh/\Ex h h':=by
 have hb:=Jq
 rw[Jcd]
 simp! [Jak,Jal,Jq0,hi]
 refine Xu (λ n σ h'=>(∃a b,σ=[Za (.ref i),a,b])/\Ex h h') (λ n σ h' ⟨_,x⟩=>x.get hi) ?_ ?_ ⟨⟨_,_,rfl⟩,.refl h⟩
 ·rintro n hn _ h' ⟨⟨a,b,rfl⟩,x⟩
  have hn':n<hs.length:=by rw[V3,Zo] at hn;exact hn
  rw[Jlr]
  simp! [ZbE,Jla,Jq5,Jq6,Z0,Zal,Jag]
  have hi':=x.get hi
  refine WR.mono (QP (xs:=(hs.map tupH).take n) (chk:=λ h2=>h2[h'.length]?=Za (.lst ((hs.map tupH).take n))) (f:=λ _=>.bl Zh) (h:=h'++[.lst ((hs.map tupH).take n)]) ?_ ?_ ?_ ?_) ?_
  ·simp! [Vw,hi',QB,VL,Ji]
  ·simp only[ZaH,Zo];omega
  ·exact λ h2 q=>q _ _ Ji
  ·intro v hv h2 q
   obtain⟨j,hj,rfl⟩:=ZaB.mp hv
   have hj':j<n:=by simp at hj;omega
   simp! [List.getElem_take,ZbE,Jab,ZA,Zbr,Zap,ZaA,ZbF]
   exact Qm (Jh5 (ht j n hj' hn')) ⟨rfl,.refl _⟩
  ·rintro v h3 ⟨rfl,g,rfl⟩
   refine Qm (all_map (f:=λ _=>Zh) JI) ?_
   have:(((hs.map tupH).take n).all λ _=>Zh)=Zh:=by simp
   simp! [this]
   exact⟨⟨_,_,rfl⟩,x.trans ((Ex.one _ _).trans (.cons ..))⟩
 ·rintro _ h' ⟨⟨a,b,rfl⟩,x⟩
  exact x
theorem Jf3 (len:Int):Xy (k+1) [.non,.int len] h=.ok (.tup []) h:=by
 refine Qt ?_
 rw[Jd6]
 simp! [X2,Xs,isI,Zal,Zar]
structure HsOk (len:Int)(hs:List Hd):Prop where
 few:hs.length<=6
 each:∀a∈hs,HdOk len a
 tog:∀m n (hm:m<n)(hn:n<hs.length),Tog hs[n] hs[m]
theorem Jki {hs:List Hd}{i:Nat}{len:Int}(hi:h[i]?=Za (.lst (hs.map tupH)))(ok:HsOk len hs) :
  WR (Xy (k+4) [.ref i,.int len] h) λ v h'=>v=.tup (hs.map tupH)/\Ex h h':=by
 have hb:=Jq
 have hl:=ok.few
 have h6:¬(6:Int)<(hs.length:Int):=by omega
 rw[Jd6]
 simp! [X2,YC,Ja6,Jc0,Xs,isI,Yo hi,VE,hi,Zo,h6,decide_false]
 refine WR.mono (QP (xs:=hs.map tupH) (chk:=λ h2=>h2[i]?=Za (.lst (hs.map tupH))) (f:=λ _=>.bl Zh) (h:=h) ?_ ?_ ?_ ?_) ?_
 ·simp! [QB,hi]
 ·simp only[Zo];omega
 ·exact λ h2 q=>q _ _ hi
 ·intro v hv h2 q
  obtain⟨a,ha,rfl⟩:=ZR.mp hv
  simp! [Jbm,ZA,Zbr,Zap,ZaA,ZbF]
  exact Jnp (ok.each a ha)
 ·rintro v h1 ⟨rfl,g,rfl⟩
  refine Qm (all_map (f:=λ _=>Zh) JI) ?_
  have:((hs.map tupH).all λ _=>Zh)=Zh:=by simp
  simp! [this,Jc1,Jfj]
  have x1:Ex h (h++IX.lst (List.map (λ x=>IV.bl Zh) (hs.map tupH))::g):=.cons ..
  refine WR.mono (Jmd (x1.get hi) hl ok.tog) ?_
  rintro v h2 ⟨rfl,x2⟩
  simp! [true_and]
  have hi2:=x2.get (x1.get hi)
  refine WR.mono (QP (xs:=hs.map tupH) (chk:=λ h3=>h3[i]?=Za (.lst (hs.map tupH))) (f:=λ x=>x) (h:=h2) ?_ ?_ ?_ ?_) ?_
  ·simp! [QB,hi2]
  ·simp only[Zo];omega
  ·exact λ h2 q=>q _ _ hi2
  ·intro v hv h3 q
   obtain⟨a,ha,rfl⟩:=ZR.mp hv
   simp! [Jdz,tupH,Z0,Zal]
   exact⟨by omega,.refl _⟩
  ·rintro v h3 ⟨rfl,g3,rfl⟩
   simp only[Jq3,JI,exists_eq_left,exists_eq_left',IV.bl.injEq,IV.int.injEq,IV.ref.injEq,IV.str.injEq,IX.lst.injEq,IV.tup.injEq,ZH,ZW,ZV,reduceCtorEq,eq_self,true_implies,false_implies,implies_true,and_true,true_and,and_false,false_and,ZQ,ZL,ZD,Qk,Qg,Ql,Qh,Qi,Qj,JM,JL,J6,JH,JT,JP,JY,Qn,JQ,JN,JO,JR,JW,Qq,Qo,Qp,List.map_id']
   exact x1.trans (x2.trans (.cons ..))
theorem Jhp (gap:Int):Xx (k+1) [.non,.int gap] h=.ok (.int gap) h:=by
 refine Qt ?_
 rw[Jgf]
 simp! [Jcz,Xs,isI]
theorem Jil {due gap:Int}(h1:1<=due)(h2:due<=gap):Xx (k+3) [.int due,.int gap] h=.ok (.int due) h:=by
 refine Qt ?_
 rw[Jgf]
 have:¬gap<due:=by omega
 simp! [Jcz,Jey,Jhc,Xs,isI,Ys,decide_eq_true h1,decide_eq_false this]
def wfs (name:Str)(gap len due late:Int)(hs:List IV):List (Str×IV):=[("name",.str name),("gap",.int gap),("length",.int len),("due",.int due),("late",.int late),("hold_tuples",.tup hs)]
section
variable (a b c d e f:IV)
theorem put0:putI "name" a ([]:List (Str×IV))=([("name",a)]:List (Str×IV)):=by kernel_rfl
theorem put1:putI "gap" b ([("name",a)]:List (Str×IV))=([("name",a),("gap",b)]:List (Str×IV)):=by kernel_rfl
theorem put2:putI "length" c ([("name",a),("gap",b)]:List (Str×IV))=([("name",a),("gap",b),("length",c)]:List (Str×IV)):=by kernel_rfl
theorem put3:putI "due" d ([("name",a),("gap",b),("length",c)]:List (Str×IV))=([("name",a),("gap",b),("length",c),("due",d)]:List (Str×IV)):=by kernel_rfl
theorem put4:putI "late" e ([("name",a),("gap",b),("length",c),("due",d)]:List (Str×IV))=([("name",a),("gap",b),("length",c),("due",d),("late",e)]:List (Str×IV)):=by kernel_rfl
theorem put5:putI "hold_tuples" f ([("name",a),("gap",b),("length",c),("due",d),("late",e)]:List (Str×IV))=([("name",a),("gap",b),("length",c),("due",d),("late",e),("hold_tuples",f)]:List (Str×IV)):=by kernel_rfl
variable {name:Str}{gap len due late:Int}{hs:List IV}
theorem fl0:(wfs name gap len due late hs).lookup ("name":Str)=Za (.str name):=by kernel_rfl
theorem fl1:(wfs name gap len due late hs).lookup ("gap":Str)=Za (.int gap):=by kernel_rfl
theorem fl2:(wfs name gap len due late hs).lookup ("length":Str)=Za (.int len):=by kernel_rfl
theorem fl3:(wfs name gap len due late hs).lookup ("due":Str)=Za (.int due):=by kernel_rfl
theorem fl4:(wfs name gap len due late hs).lookup ("late":Str)=Za (.int late):=by kernel_rfl
end
theorem Jqy {name:Str}{gap len due late:Int}{dv hv:IV}{hs:List IV}{w:Nat}(hw:h[w]?=Za (.ins "Work" []))(hn:IsNm name)(hg:1<=gap)(hl:1<=len)(ht:0<=late)
  (hd:∀h1,Xx (k+4) [dv,.int gap] h1=.ok (.int due) h1)(hh:∀h1:IH,(∀(j:Nat)(o:IX),j≠w->h[j]?=Za o->h1[j]?=Za o)->WR (Xy (k+4) [hv,.int len] h1) λ v h2=>v=.tup hs/\Ex h1 h2) :
  WR (VY (k+5) [.ref w,.str name,.int gap,.int len,dv,.int late,hv] h) λ v h'=>v=.non/\∃g,h'=h.set w (.ins "Work" (wfs name gap len due late hs))++g:=by
 rw[Jgq]
 refine xfin (xseq (xif (xb (xb (xb (Qm (arg1 rfl) (WR.mono (Jih hn) ?_)))))))
 rintro v h1 ⟨rfl,g1,rfl⟩
 have lw:=JF hw
 have s1:∀{o:IX},(h++g1).set w o=h.set w o++g1:=by intro o;rw[ZaE (h:=lw)]
 have at1:∀{o:IX},(h.set w o++g1)[w]?=Za o:=by
  intro o
  rw[ZF (by rw[Zbj];exact lw),Z1 lw]
 have s2:∀{o o':IX},(h.set w o++g1).set w o'=h.set w o'++g1:=by intro o o';rw[ZaE (h:=by rw[Zbj];exact lw),Ze9]
 have ok:∀{σ:ISt}{e1 e2:E1}{a b:Int}{hh:IH},e1 σ hh=.ok (.int a) hh->e2 σ hh=.ok (.int b) hh->b<=a->JA (Jj tru (Jm (Vx (k+4)) [] (Ja e1 (Ja e2 Jd)))) σ hh=.ok Zc hh:=λ h1 h2 l=>okc (notE (truE (Jw6 (arg2 h1 h2) (Ys _ _)))) (by rw[decide_eq_true l];rfl)
 refine Qm rfl (Qm rfl ⟨(λ z=>by cases z),λ _=>xnil (xseq (xiff (ok rfl rfl hg) (xnil (xseq (xiff (ok rfl rfl hl) (xnil (xseq (xiff (ok rfl rfl ht) (xnil (xseq (Jq7 rfl rfl (grow hw) (by decide) ?_)))))))))))⟩)
 rw[s1,put0]
 refine xseq (Jq7 rfl rfl at1 (by show(1:Nat)<1000;decide) ?_)
 rw[s2,put1]
 refine xseq (Jq7 rfl rfl at1 (by show(2:Nat)<1000;decide) ?_)
 rw[s2,put2]
 refine xseq (Jq7 (Jw6 (arg2 rfl rfl) (hd _)) rfl at1 (by show(3:Nat)<1000;decide) ?_)
 rw[s2,put3]
 refine xseq (Jq7 rfl rfl at1 (by show(4:Nat)<1000;decide) ?_)
 rw[s2,put4]
 unfold YB
 rw[Xt]
 refine xb (Qm (arg2 rfl rfl) (WR.mono (hh _ λ j o hj e=>?_) ?_))
 ·refine grow ?_
  rw[ZP (Zao hj)]
  exact e
 ·rintro v h2 ⟨rfl,g2,rfl⟩
  refine Qm rfl ⟨w,_,_,rfl,grow at1,by show(5:Nat)<1000;decide,rfl,g1++g2,?_⟩
  rw[ZaE (h:=JF at1),s2,put5,Zaa]
  rfl
theorem Jl0 {name:Str}{gap len due late:Int}{dv hv:IV}{hs:List IV}(hn:IsNm name)(hg:1<=gap)(hl:1<=len)(ht:0<=late)
  (hd:∀h1,Xx (k+4) [dv,.int gap] h1=.ok (.int due) h1)(hh:∀h1:IH,(∀(j:Nat)(o:IX),h[j]?=Za o->h1[j]?=Za o)->WR (Xy (k+4) [hv,.int len] h1) λ v h2=>v=.tup hs/\Ex h1 h2) :
  WR (VY (k+5) [.ref h.length,.str name,.int gap,.int len,dv,.int late,hv] (h++[.ins "Work" []])) λ v h'=>v=.non/\∃g,h'=h++.ins "Work" (wfs name gap len due late hs)::g:=by
 refine WR.mono (Jqy Ji hn hg hl ht hd λ h1 q=>hh h1 λ j o e=>q j o (by have:=JF e;omega) (grow e)) ?_
 rintro v h' ⟨rfl,g,rfl⟩
 exact⟨rfl,g,by rw[Jwc];simp⟩
end
end
structure WD where
 name:Str
 gap:Int
 len:Int
 due:Int
 late:Int
def IsW (h:IH)(v:IV)(d:WD):Prop:=∃i hs,v=.ref i/\h[i]?=Za (.ins "Work" (wfs d.name d.gap d.len d.due d.late hs))
theorem IsW.kp {h h':IH}{v:IV}{d:WD}(k:Kp h h')(w:IsW h v d):IsW h' v d:=by
 obtain⟨i,hs,e,q⟩:=w
 exact⟨i,hs,e,k _ _ q⟩
structure AllW (h:IH)(vs:List IV)(ds:List WD):Prop where
 len:vs.length=ds.length
 at_:∀(i:Nat) v d,vs[i]?=Za v->ds[i]?=Za d->IsW h v d
theorem AllW.kp {h h':IH}{vs:List IV}{ds:List WD}(k:Kp h h')(w:AllW h vs ds):AllW h' vs ds:=⟨w.len,λ i v d a b=>(w.at_ i v d a b).kp k⟩
theorem AllW.of {h:IH}{vs:List IV}{ds:List WD}(w:AllW h vs ds){v:IV}(hv:v∈vs):∃d∈ds,IsW h v d:=by
 obtain⟨i,hi,rfl⟩:=ZaB.mp hv
 have hi':i<ds.length:=by rw[<- w.len];exact hi
 exact⟨ds[i],ZS hi',w.at_ i _ _ (Zn hi) (Zn hi')⟩
def fOf (f:Str)(h:IH)(v:IV):IV:=(Xb f v h).getD .non
theorem AllW.mapF {h:IH}{vs:List IV}{ds:List WD}(w:AllW h vs ds){F:IV->IV}{g:WD->IV}(hf:∀(i:Nat) (d:WD) hs,h[i]?=Za (.ins "Work" (wfs d.name d.gap d.len d.due d.late hs))->F (.ref i)=g d):vs.map F=ds.map g:=by
 refine Zb5 λ i=>?_
 rw[Z6,Z6]
 by_cases hi:i<vs.length
 ·have hi':i<ds.length:=by rw[<- w.len];exact hi
  rw[Zn hi,Zn hi']
  obtain⟨j,hs,e,q⟩:=w.at_ i _ _ (Zn hi) (Zn hi')
  simp only[ZdU,ZH]
  rw[e,hf j _ hs q]
 ·have hi':¬i<ds.length:=by rw[<- w.len];exact hi
  rw[ZaL (by omega),ZaL (by omega)]
  rfl
section
variable {k:Nat}{h:IH}
theorem Jsd:Jta ["Work"] (.ins "Work")=Za Zh:=by kernel_rfl
theorem Jkj {vs:List IV}{ds:List WD}{i:Nat}(hi:h[i]?=Za (.lst vs))(w:AllW h vs ds)(nd:(ds.map (·.name)).Nodup)(hl:ds.length<=20) :
  WR (Jer (k+1) [.ref i] h) λ v h'=>v=.tup vs/\Ex h h':=by
 have hb:=Jq
 have wl:=w.len
 rw[Jj7]
 simp! [Jfk,Jfl,Yo hi]
 refine WR.mono (QP (h:=h) (xs:=vs) (chk:=λ h'=>h'[i]?=Za (.lst vs)) (f:=λ _=>.bl Zh) ?_ (by omega) (λ h2 q=>q _ _ hi) ?_) ?_
 ·simp! [QB,hi]
 ·intro v hv h2 q
  obtain⟨d,_,j,hs,rfl,e⟩:=w.of hv
  have ty:tyI (.ref j) h2=Za (.ins "Work"):=by simp[tyI,q _ _ e]
  simp! [Jd0,ty,Jsd]
  exact .refl _
 ·rintro _ _ ⟨rfl,g,rfl⟩
  have x1:Ex h (h++IX.lst (vs.map λ _=>.bl Zh)::g):=.cons _ _ _
  rw[all_map (f:=λ _=>Zh) JI]
  generalize h++IX.lst (vs.map λ _=>.bl Zh)::g=h1 at x1
  have at1:(vs.all λ _=>Zh)=Zh:=by simp
  simp! [at1,Jfm,Jq2]
  have w1:=w.kp x1.kp
  have nm:=w1.mapF (F:=fOf "name" h1) (g:=λ d=>.str d.name) λ j d hs e=>by rw[fOf,QI e,fl0];rfl
  refine WR.mono (QP (h:=h1) (xs:=vs) (chk:=λ h'=>h'[i]?=Za (.lst vs)) (f:=fOf "name" h1) ?_ (by omega) (λ h2 q=>q _ _ (x1.get hi)) ?_) ?_
  ·simp! [QB,x1.get hi]
  ·intro v hv h2 q
   obtain⟨d,_,j,hs,rfl,e⟩:=w1.of hv
   simp! [Jd1,QI (q _ _ e),fl0,fOf,QI e,ZdG]
   exact .refl _
  ·rintro _ _ ⟨rfl,g2,rfl⟩
   rw[nm]
   have em:ds.map (λ d=>IV.str d.name)=(ds.map (·.name)).map IV.str:=by simp
   rw[em]
   have x2:Ex h1 (h1++IX.lst ((ds.map (·.name)).map IV.str)::g2):=.cons _ _ _
   refine⟨_,rfl,_,JI,ds.map (·.name),Ym _,by rw[Zo];unfold Zcc;omega,?_⟩
   rw[Jjy nd _ (Zu _)]
   simp! [VE,x2.get (x1.get hi),Zo,wl,decide_true,Jfn,Jq3]
   exact x1.trans x2
def rup (top bottom:Int):Int:=(top+bottom-1)/bottom
def topD (ds:List WD):Int:=if ds.map (·.due)=[] then 0 else QF (λ i=>(ds.map (·.due)).getD i 0) (ds.map (·.due)).length
def Jov (ds:List WD):Int:=(ds.map λ d=>rup (topD ds+d.late) d.gap).sum
def rOf (T:Int)(h:IH)(v:IV):IV:=match Xb "late" v h,Xb "gap" v h with
 | some (.int l),Za (.int g)=>.int (rup (T+l) g)
 | _,_=>.non
theorem Jqg {a b:Int}(hb:0<b)(hl:b.natAbs.log2<9000):Jes (k+1) [.int a,.int b] h=.ok (.int (rup a b)) h:=by
 refine Qt ?_
 rw[Jj8]
 simp! [Jfs,hb,hl,rup]
theorem Jrf {vs:List IV}{ds:List WD}(w:AllW h vs ds)(hl:ds.length<=20)(hg:∀d∈ds,0<d.gap/\d.gap.natAbs.log2<9000) :
  WR (Jga (k+2) [.tup vs] h) λ v h'=>v=.int (Jov ds)/\Ex h h':=by
 have hb:=Jq
 have wl:=w.len
 rw[Jls]
 simp! [Jgj,Jwv]
 have dm:=w.mapF (F:=fOf "due" h) (g:=λ d=>.int d.due) λ j d hs e=>by rw[fOf,QI e,fl3];rfl
 refine WR.mono (QP (h:=h) (xs:=vs) (chk:=λ _=>True) (f:=fOf "due" h) ?_ (by omega) (λ _ _=>trivial) ?_) ?_
 ·simp! [true_and]
 ·intro v hv h2 q
  obtain⟨d,_,j,hs,rfl,e⟩:=w.of hv
  simp! [Jeg,QI (q _ _ e),fl3,fOf,QI e,ZdG]
  exact .refl _
 ·rintro _ _ ⟨rfl,g,rfl⟩
  rw[dm]
  have em:ds.map (λ d=>IV.int d.due)=(ds.map (·.due)).map IV.int:=by simp
  rw[em]
  have x1:Ex h (h++IX.lst ((ds.map (·.due)).map IV.int)::g):=.cons _ _ _
  refine⟨_,rfl,_,JI,_,Ji6 _,?_⟩
  have et:maxD (ds.map (·.due)) (.int 0)=.int (topD ds):=by
   unfold maxD topD
   split<;>rfl
  rw[et]
  generalize h++IX.lst ((ds.map (·.due)).map IV.int)::g=h1 at x1
  have w1:=w.kp x1.kp
  simp! [Jgk]
  have rm:=w1.mapF (F:=rOf (topD ds) h1) (g:=λ d=>.int (rup (topD ds+d.late) d.gap)) λ j d hs e=>by rw[rOf,QI e,QI e,fl4,fl1]
  refine WR.mono (QP (h:=h1) (xs:=vs) (chk:=λ _=>True) (f:=rOf (topD ds) h1) ?_ (by omega) (λ _ _=>trivial) ?_) ?_
  ·simp! [true_and]
  ·intro v hv h2 q
   obtain⟨d,hd,j,hs,rfl,e⟩:=w1.of hv
   have e2:=q _ _ e
   simp only[ZA,Zbr,Zap,ZaA,ZbF]
   simp! [Jeh,QI e2,fl4,fl1,Jqg (hg d hd).1 (hg d hd).2]
   exact⟨by rw[rOf,QI e,QI e,fl4,fl1],.refl _⟩
  ·rintro _ _ ⟨rfl,g2,rfl⟩
   rw[rm]
   have em2:ds.map (λ d=>IV.int (rup (topD ds+d.late) d.gap))=(ds.map λ d=>rup (topD ds+d.late) d.gap).map IV.int:=by simp
   rw[em2]
   simp! [Jwy,JI,Ji6]
   exact⟨rfl,x1.trans (.cons _ _ _)⟩
abbrev dfs (vs:List IV):List (Str×IV):=[("works",.tup vs)]
theorem dp0 {a:IV}:putI "works" a ([]:List (Str×IV))=([("works",a)]:List (Str×IV)):=by kernel_rfl
theorem dl0 {a:IV}:(([("works",a)]:List (Str×IV))).lookup ("works":Str)=Za a:=by kernel_rfl
theorem Jo2 {vs:List IV}{ds:List WD}{i:Nat}(hi:h[i]?=Za (.lst vs))(w:AllW h vs ds)(nd:(ds.map (·.name)).Nodup)(hl:ds.length<=12)(hg:∀d∈ds,0<d.gap/\d.gap.natAbs.log2<9000)(hc:Jov ds<=80) :
  WR (Jeo (k+3) [.ref h.length,.ref i] (h++[.ins "Duty" []])) λ v h'=>v=.non/\∃g,h'=h++.ins "Duty" (dfs vs)::g:=by
 have wl:=w.len
 rw[Jj3]
 simp! [Je4,Xt]
 refine WR.mono (Jkj (grow hi) (w.kp (Ex.one h _).kp) nd (by omega)) ?_
 rintro _ _ ⟨rfl,g1,rfl⟩
 refine⟨_,_,_,rfl,grow Ji,by decide,?_⟩
 rw[dp0,Zaa,Za3,ZaM,Yj]
 simp! [Je5,QI (JI (h:=h)),dl0,wl]
 refine⟨λ q=>?_,λ _=>?_⟩
 ·rw[decide_eq_true_eq] at q
  omega
 simp! [Je6,QI (JI (h:=h)),dl0]
 refine WR.mono (Jrf (w.kp (Ex.cons h _ _).kp) (by omega) hg) ?_
 rintro _ _ ⟨rfl,g2,rfl⟩
 simp! [true_and]
 refine⟨λ q=>?_,λ _=>⟨g1++g2,by simp⟩⟩
 rw[decide_eq_true_eq] at q
 omega
mutual
theorem Jrj:∀d:ZdM,d.canLay0=Zh->Zbm d d=Zh
 | .none,_=>by simp[Zbm]
 | .bool _,_=>by simp[Zbm]
 | .int _,_=>by simp[Zbm]
 | .str _,_=>by simp[Zbm]
 | .list xs,q=>by
  rw[Zbm]
  exact Jhe xs (by rw[Zeh] at q;exact q)
 | .tuple xs,q=>by
  rw[Zbm]
  exact Jhe xs (by rw[Zeh] at q;exact q)
 | .dict _,q=>by rw[Zeh] at q;cases q
theorem Jhe:∀ds:List ZdM,ZbQ ds=Zh->Zet ds ds=Zh
 | [],_=>by rw[Zet]
 | d::ds,q=>by
  rw[ZbQ,Zl] at q
  rw[Zet,Jrj d q.1,Jhe ds q.2]
  rfl
end
end
section
variable {k:Nat}{h:IH}
def nSz (c:Int):Int:=1+c%8
def nAt (c:Int):Int:=c/8%840%nSz c
def nSg (c k j:Int):Int:=c/6720+j*(1+c%25)+k*(if j=nAt c then 1 else 0)
def nL (c:Int)(k m:Nat):List Nat:=(ZaO m).map λ j:Nat=>97+(nSg c (k:Int) (j:Int)%26).toNat
def nm (c:Int)(k:Nat):Str:=⟨(nL c k (nSz c).toNat).toArray⟩
theorem Jly:(Zb "abcdefghijklmnopqrstuvwxyz").cps.toList=(ZaO 26).map (97+ ·):=by decide +kernel
theorem Jlz:(Zb "abcdefghijklmnopqrstuvwxyz").length=26:=by decide +kernel
theorem Jpy {n:Int}(h0:0<=n)(h1:n<26){Q:IV->IH->Prop}:WR (Jg (.str "abcdefghijklmnopqrstuvwxyz") (.int n) h) Q=Q (.str ⟨#[97+n.toNat]⟩) h:=by
 have hb:=Jq
 have e:atI (Zb "abcdefghijklmnopqrstuvwxyz").cps.toList n=Za (97+n.toNat):=by
  rw[Jly]
  refine Vl h0 ?_
  rw[Z6,Zce (by omega)]
  rfl
 simp only[Jg]
 rw[if_pos (by rw[Jlz];omega),e]
 rfl
theorem Jvn (c:Int)(k m:Nat):nL c k (m+1)=nL c k m++[97+(nSg c (k:Int) (m:Int)%26).toNat]:=by simp[nL,ZcO]
theorem YW (c:Int)(k m:Nat):(nL c k m).length=m:=by simp[nL]
theorem Jsv (l:List Nat)(x:Nat):(⟨l.toArray⟩:Str)++(⟨#[x]⟩:Str)=⟨(l++[x]).toArray⟩:=by
 show Str.append _ _=_
 unfold Str.append
 simp
theorem XC (l:List Nat):(⟨l.toArray⟩:Str).length=l.length:=by simp[ZcB]
theorem Jo4:(Zb "")=(⟨([]:List Nat).toArray⟩:Str):=by decide +kernel
theorem Q9 (c:Int)(k:Nat):IsNm (nm c k):=by
 have hs:0<nSz c/\nSz c<=8:=by unfold nSz;omega
 refine⟨?_,?_,?_⟩
 ·rw[nm,XC,YW];omega
 ·rw[nm,XC,YW];omega
 ·intro x hx
  have hx:x∈nL c k (nSz c).toNat:=by simpa [nm] using hx
  obtain⟨j,_,rfl⟩:=ZR.mp hx
  have h1:=Zw (nSg c (k:Int) (j:Int)) (b:=26) (by decide)
  have h2:=Zq (nSg c (k:Int) (j:Int)) (b:=26) (by decide)
  omega
theorem Jp4 {c:Int}{k l:Nat}(hk:k<26)(hl:l<26)(e:nm c k=nm c l):k=l:=by
 have hs:0<nSz c/\nSz c<=8:=by unfold nSz;omega
 have ha:0<=nAt c/\nAt c<nSz c:=⟨Zw _ (by omega),Zq _ hs.1⟩
 have e1:nL c k (nSz c).toNat=nL c l (nSz c).toNat:=by
  have:(nL c k (nSz c).toNat).toArray=(nL c l (nSz c).toNat).toArray:=congrArg Str.cps e
  simpa using this
 have e2:=congrArg (λ L:List Nat=>L[(nAt c).toNat]?) e1
 have hj:((nAt c).toNat:Int)=nAt c:=by omega
 simp only[nL,Z6,Zce (show(nAt c).toNat<(nSz c).toNat by omega),ZdU,ZH,hj] at e2
 have e3:nSg c (k:Int) (nAt c)%26=nSg c (l:Int) (nAt c)%26:=by
  have h1:=Zw (nSg c (k:Int) (nAt c)) (b:=26) (by decide)
  have h2:=Zw (nSg c (l:Int) (nAt c)) (b:=26) (by decide)
  omega
 simp only[nSg,if_true,Int.mul_one] at e3
 omega
abbrev nmS (c:Int)(m:Nat)(a b d e f:Option IV):ISt:=[Za (.int c),Za (.int m),Za (.str "abcdefghijklmnopqrstuvwxyz"),Za (.int (1+c%8)),Za (.int (c/8%840%(1+c%8))),a,b,d,e,f]
theorem Jr9 (c:Int)(m:Nat)(hm:m<=20):Jep (k+1) [.int c,.int m] h=.ok (.ref h.length) (h++[.lst ((ZaO m).map λ j=>.str (nm c j))]):=by
 have hb:=Jq
 refine Qt ?_
 rw[Jj5]
 have hs:0<nSz c/\nSz c<=8:=by unfold nSz;omega
 have l8:(8:Int).natAbs.log2<9000:=by decide
 have l7:(6720:Int).natAbs.log2<9000:=by decide +kernel
 have ha:0<=nAt c/\nAt c<nSz c:=⟨Zw _ (by omega),Zq _ hs.1⟩
 simp! [Jfc,Jfd,Jfe,Jff,Jfg,show(0:Int)<8 by decide,show(0:Int)<840 by decide,l8,show(0:Int)<1+c%8 by omega,Zal,Zar]
 refine⟨⟨by omega,by omega⟩,?_⟩
 refine Xu (λ n σ h'=>h'=h++[.lst ((ZaO n).map λ j=>.str (nm c j))]/\∃a b d e,σ=nmS c m (Za (.ref h.length)) a b d e)
  (λ _ _ _ _=>trivial) ?_ ?_ ⟨by simp,_,_,_,_,rfl⟩
 ·rintro n hn _ _ ⟨rfl,a,b,d,e,rfl⟩
  rw[Jt0]
  rw[Jjd] at hn
  simp! [Jem]
  refine⟨⟨by omega,by omega⟩,?_⟩
  refine Xu (λ j σ h'=>h'=h++[.lst ((ZaO n).map λ j=>.str (nm c j))]/\∃d e,σ=nmS c m (Za (.ref h.length)) (Za (.int (0+(n:Int)))) (Za (.str ⟨(nL c n j).toArray⟩)) d e)
   (λ _ _ _ _=>trivial) ?_ ?_ ⟨rfl,_,_,by rw[Jo4];rfl⟩
  ·rintro j hj _ _ ⟨rfl,d,e,rfl⟩
   rw[Jt0]
   rw[Jjd] at hj
   have hj8:(j:Int)<nSz c:=by unfold nSz;omega
   have m1:V0 (0+(j:Int)) (1+c%25):=.inl (by omega)
   have m2:∀x:Int,V0 (0+(n:Int)) x:=λ x=>.inl (by omega)
   simp! [Jel,show(0:Int)<6720 by decide,show(0:Int)<25 by decide,show(0:Int)<26 by decide,l7,m1,m2,Q8,intI]
   have hx:c/6720+(0+(j:Int))*(1+c%25)+(0+(n:Int))*(if decide (0+(j:Int)=c/8%840%(1+c%8))=Zh then 1 else 0)=nSg c (n:Int) (j:Int):=by
    by_cases q:(j:Int)=c/8%840%(1+c%8)<;>simp[nSg,nAt,nSz,q]
   rw[hx,Jpy (Zw _ (by decide)) (Zq _ (by decide))]
   simp! [Jsv]
   refine⟨?_,_,_,by rw[Jvn]⟩
   rw[XC,XC,YW]
   simp
   omega
  ·rintro _ _ ⟨rfl,d,e,rfl⟩
   rw[Jjd]
   rw[Vi (i:=h.length) (h1:=h++[.lst ((ZaO n).map λ j=>.str (nm c j))]) rfl Ji V2]
   simp! [VW]
   refine⟨_,Ji,?_,?_,_,_,_,_,rfl⟩
   ·simp;omega
   ·rw[ZcO,Zam,Zah _ _ (Zu _),ZeA]
    simp[nm,nSz]
 ·rintro _ _ ⟨rfl,a,b,d,e,rfl⟩
  rw[Jjd]
  simp! [Jfh]
  simp
def Ty0 (h:IH)(v:IV):Prop:=∃t,tyI v h=Za t/\(∀c,t≠.ins c)/\∀c,t≠.exc c
theorem Ty0.int {i:Int}:Ty0 h (.int i):=⟨_,rfl,nofun,nofun⟩
theorem Ty0.str {x:Str}:Ty0 h (.str x):=⟨_,rfl,nofun,nofun⟩
theorem Ty0.non:Ty0 h .non:=⟨_,rfl,nofun,nofun⟩
theorem Ty0.bl {b:Bool}:Ty0 h (.bl b):=⟨_,rfl,nofun,nofun⟩
theorem Ty0.tup {xs:List IV}:Ty0 h (.tup xs):=⟨_,rfl,nofun,nofun⟩
theorem Ty0.lst {i:Nat}{xs:List IV}(e:h[i]?=Za (.lst xs)):Ty0 h (.ref i):=⟨.lst,by simp[tyI,e],nofun,nofun⟩
theorem Ty0.dct {i:Nat}{xs:List (Key×IV)}(e:h[i]?=Za (.dct xs)):Ty0 h (.ref i):=⟨.dct,by simp[tyI,e],nofun,nofun⟩
def Jmp:IV->Bool
 | .int _=>Zh
 | _=>Zc
def Jpn:IV->Bool
 | .str _=>Zh
 | _=>Zc
def Jpo:IV->Bool
 | .tup _=>Zh
 | _=>Zc
theorem Ty0.str_ {v:IV}(t:Ty0 h v):(tyI v h).bind J6=Za (Jpn v):=by
 obtain⟨t,e,a,b⟩:=t
 rw[e]
 cases v with
 | ref i =>
  unfold tyI at e
  dsimp only at e
  split at e<;>first|(cases e;first|rfl|exact absurd rfl (a _)|exact absurd rfl (b _))|cases e
 | _=>cases e;rfl
theorem Ty0.tup_ {v:IV}(t:Ty0 h v):(tyI v h).bind JP=Za (Jpo v):=by
 obtain⟨t,e,a,b⟩:=t
 rw[e]
 cases v with
 | ref i =>
  unfold tyI at e
  dsimp only at e
  split at e<;>first|(cases e;first|rfl|exact absurd rfl (a _)|exact absurd rfl (b _))|cases e
 | _=>cases e;rfl
theorem Jwq {v:IV}(t:Ty0 h v):Jd9 (k+1) [v] h=.ok (.bl (Jmp v)) h:=by
 refine Qt ?_
 rw[Jhf]
 obtain⟨t,e,a,b⟩:=t
 simp! [Jgl,e]
 cases v with
 | ref i =>
  unfold tyI at e
  dsimp only at e
  split at e<;>first|(cases e;first|exact absurd rfl (a _)|exact absurd rfl (b _)|simp[JM,JL,Jmp])|cases e
 | _=>cases e;simp[JM,JL,Jmp]
def QH (j:Int):IV->Bool
 | .int i=>decide (j<=i)
 | _=>Zc
theorem Yr {v:IV}(t:Ty0 h v)(j:Int):Vx (k+2) [v,.int j] h=.ok (.bl (QH j v)) h:=by
 refine Qt ?_
 rw[Jdj]
 simp! [Jat,Jwq t]
 cases v<;>simp[Jmp,QH,Yv]
def Xh (c:Nat):Bool:=decide (97<=c)&&decide (c<=122)
def QJ:IV->Bool
 | .str x=>decide (1<=x.length/\x.length<=8)&&x.cps.toList.all Xh
 | _=>Zc
theorem Jzk {c:Nat}:YH k [Za (.str ⟨#[c]⟩)] h=.ok (.bl (Xh c)) h:=by
 refine Qt ?_
 have h1:([c]<[97])↔c<97:=⟨λ q=>(by cases q with|rel q=>exact q|cons q=>cases q),λ q=>List.Lex.rel q⟩
 have h2:([122]<[c])↔122<c:=⟨λ q=>(by cases q with|rel q=>exact q|cons q=>cases q),λ q=>List.Lex.rel q⟩
 simp only[YH,XF,Xr,X5,Q0,Jue,Jw2,Jz5,h1,h2,Xh]
 by_cases q1:c<97
 ·simp[q1,show ¬97<=c by omega]
 ·by_cases q2:122<c
  ·simp[q1,q2,show 97<=c by omega,show ¬c<=122 by omega]
  ·simp[q1,q2,show 97<=c by omega,show c<=122 by omega]
theorem Jts {v:IV}(t:Ty0 h v)(hz:∀x,v=.str x->x.length<=sizeLine):WR (Y3 (k+1) [v] h) λ r h'=>r=.bl (QJ v)/\Ex h h':=by
 have hb:=Jq
 rw[Jie]
 simp! [Jew,t.str_]
 cases v with
 | str x =>
  have hx:=hz x rfl
  simp! [Jpn,hx]
  by_cases q1:(1:Int)<=x.length
  ·by_cases q2:(x.length:Int)<=8
   ·simp! [q1,q2,decide_true,Jex]
    refine WR.mono (QP (xs:=Qs x) (chk:=λ _=>True) (f:=λ v=>.bl (match v with|.str y=>y.cps.toList.all Xh|_=>Zc)) (h:=h) ⟨rfl,rfl,rfl⟩ ?_ (λ _ _=>trivial) ?_) ?_
    ·have:(Qs x).length=x.length:=by simp[Qs,ZcB]
     omega
    ·intro v hv h2 _
     obtain⟨c,hc,rfl⟩:=ZR.mp hv
     refine Qm Jzk ⟨?_,.refl _⟩
     simp
    ·rintro v h' ⟨rfl,g,rfl⟩
     refine Qm (all_map (f:=λ v=>match v with|.str y=>y.cps.toList.all Xh|_=>Zc) JI) ⟨?_,.cons ..⟩
     have q3:1<=x.length/\x.length<=8:=by omega
     simp[QJ,q3,Qs,Zdv]
   ·have q3:¬(1<=x.length/\x.length<=8):=by omega
    simp[q1,q2,QJ,q3,Ex.refl]
  ·have q3:¬(1<=x.length/\x.length<=8):=by omega
   simp[q1,QJ,q3,Ex.refl]
 | _=>simp[Jpn,QJ,Ex.refl]
theorem Ty0.kp {h':IH}{v:IV}(t:Ty0 h v)(x:∀(j:Nat)(o:IX),h[j]?=Za o->h'[j]?=Za o):Ty0 h' v:=by
 obtain⟨t,e,a,b⟩:=t
 refine⟨t,?_,a,b⟩
 cases v with
 | ref i =>
  unfold tyI at e ⊢
  dsimp only at e ⊢
  cases q:h[i]? with
  | none=>rw[q] at e;cases e
  | some o=>rw[q] at e;rw[x _ _ q];exact e
 | _=>exact e
theorem Ty0.ex {h':IH}{v:IV}(t:Ty0 h v)(x:Ex h h'):Ty0 h' v:=t.kp x.kp
def HV (h:IH)(v:IV):Prop:=Ty0 h v/\∀n s e,v=.tup [n,s,e]->Ty0 h n/\Ty0 h s/\Ty0 h e/\∀y,n=.str y->y.length<=sizeLine
theorem HV.kp {h':IH}{v:IV}(t:HV h v)(x:∀(j:Nat)(o:IX),h[j]?=Za o->h'[j]?=Za o):HV h' v:=⟨t.1.kp x,λ n s e q=>let ⟨a,b,c,d⟩:=t.2 n s e q;⟨a.kp x,b.kp x,c.kp x,d⟩⟩
theorem HV.ex {h':IH}{v:IV}(t:HV h v)(x:Ex h h'):HV h' v:=⟨t.1.ex x,λ n s e q=>let ⟨a,b,c,d⟩:=t.2 n s e q;⟨a.ex x,b.ex x,c.ex x,d⟩⟩
def Qd (len:Int):IV->Bool
 | .tup [n,.int a,.int b]=>QJ n&&decide (0<=a)&&decide (a+1<=b)&&decide (b<len)
 | _=>Zc
theorem Jxm {v:IV}{len:Int}(t:HV h v):WR (Je2 (k+3) [v,.int len] h) λ r h'=>r=.bl (Qd len v)/\Ex h h':=by
 rw[Jid]
 simp! [Jet,t.1.tup_]
 cases v with
 | tup xs =>
  simp! [Jpo]
  match xs,t with
  | [n,s,e],t =>
   obtain⟨t1,t2,t3,t4⟩:=t.2 n s e rfl
   simp! [Z0,Zal]
   refine⟨λ q=>absurd q (by decide),λ _=>WR.mono (Jts t1 t4) ?_⟩
   rintro v h' ⟨rfl,x⟩
   cases q1:QJ n with
   | false =>
    simp! [true_and]
    refine⟨?_,x⟩
    unfold Qd
    split
    ·rename_i e'
     simp only[IV.tup.injEq,Zcn] at e'
     obtain⟨rfl,_⟩:=e'
     simp[q1]
    ·rfl
   | true =>
    simp! [Jeu,Yr (t2.ex x)]
    cases s with
    | int a =>
     simp only[QH]
     by_cases q2:(0:Int)<=a
     ·simp! [decide_eq_true q2,Jev,Yr (t3.ex x)]
      cases e with
      | int b =>
       simp! [QH,Qd,q1,q2]
       by_cases q3:a+1<=b<;>simp[q3,x]
      | _=>simp[QH,Qd,x]
     ·cases e<;>simp[q2,Qd,q1,x]
    | _=>simp[QH,Qd,x]
  | [],t=>simp[Qd,Ex.refl]
  | [_],t=>simp[Qd,Ex.refl]
  | [_,_],t=>simp[Qd,Ex.refl]
  | _::_::_::_::r,t =>
   simp! [Z0]
   refine⟨λ _=>⟨by unfold Qd;split<;>simp_all,.refl _⟩,λ q=>?_⟩
   exfalso
   simp at q
   omega
 | _=>simp[Jpo,Qd,Ex.refl]
theorem Jn6 (a b:Hd):Ja4 (k+2) [tupH a,tupH b] h=.ok (.bl (decide (a.2.2<=b.2.1∨b.2.2<=a.2.1∨(a.1≠b.1/\((b.2.1<=a.2.1/\a.2.2<=b.2.2)∨(a.2.1<=b.2.1/\b.2.2<=a.2.2)))))) h:=by
 refine Qt ?_
 rw[Jek]
 have ix:∀a:Hd,WR (Jg (tupH a) (.int 0) h)=λ P=>P (.str a.1) h:=λ a=>by
  funext P
  simp only[tupH,JY,exists_eq_left,exists_eq_left',IV.bl.injEq,IV.int.injEq,IV.ref.injEq,IV.str.injEq,IX.lst.injEq,IV.tup.injEq,ZH,ZW,ZV,reduceCtorEq,eq_self,true_implies,false_implies,implies_true,and_true,true_and,and_false,false_and,ZQ,ZL,ZD,Qk,Qg,Ql,Qh,Qi,Qj,JM,JL,J6,JH,JT,JP,JY,Qn,JQ,JN,JO,JR,JW,Qq,Qo,Qp]
 simp! [Jbd,Jbe,Jbf,Jgs,Jij,ix]
 simp only[Za7,ZbX,Zl,Zeb,decide_eq_true_eq,decide_eq_false_iff_not]
 grind
def togB (a b:Hd):Bool:=decide (a.2.2<=b.2.1∨b.2.2<=a.2.1∨(a.1≠b.1/\((b.2.1<=a.2.1/\a.2.2<=b.2.2)∨(a.2.1<=b.2.1/\b.2.2<=a.2.2))))
def togI (a:Hd):IV->Bool
 | .tup [.str x,.int s,.int e]=>togB a (x,s,e)
 | _=>Zc
theorem Jha {hs:List Hd}{i m n:Nat}(hi:h[i]?=Za (.lst (hs.map tupH)))(hl:hs.length<=6)(hm:m<n)(hn:n<hs.length)(ht:togB hs[n] hs[m]=Zc) :
  WR (Y2 (k+3) [.ref i] h) λ v h'=>v=.bl Zc/\Ex h h':=by
 have hb:=Jq
 rw[Jcd]
 simp! [Jak,Jal,Jq0,hi]
 refine Xu (λ j σ h'=>(∃a b,σ=[Za (.ref i),a,b])/\Ex h h'/\j<=n) (λ n σ h' ⟨_,x,_⟩=>x.get hi) ?_ ?_ ⟨⟨_,_,rfl⟩,.refl h,by omega⟩
 ·rintro j hj _ h' ⟨⟨a,b,rfl⟩,x,hjn⟩
  have hj':j<hs.length:=by rw[V3,Zo] at hj;exact hj
  rw[Jlr]
  simp! [ZbE,Jla,Jq5,Jq6,Z0,Zal,Jag]
  have hi':=x.get hi
  refine WR.mono (QP (xs:=(hs.map tupH).take j) (chk:=λ h2=>h2[h'.length]?=Za (.lst ((hs.map tupH).take j))) (f:=λ v=>.bl (togI hs[j] v)) (h:=h'++[.lst ((hs.map tupH).take j)]) ?_ ?_ ?_ ?_) ?_
  ·simp! [Vw,hi',QB,VL,Ji]
  ·simp only[ZaH,Zo];omega
  ·exact λ h2 q=>q _ _ Ji
  ·intro v hv h2 q
   obtain⟨l,hl',rfl⟩:=ZaB.mp hv
   simp! [List.getElem_take,ZbE,Jab,ZA,Zbr,Zap,ZaA,ZbF]
   exact Qm (Jn6 _ _) ⟨rfl,.refl _⟩
  ·rintro v h3 ⟨rfl,g,rfl⟩
   refine Qm (all_map (f:=togI hs[j]) JI) ?_
   have xx:=x.trans ((Ex.one h' (.lst ((hs.map tupH).take j))).trans (.cons _ (.lst (((hs.map tupH).take j).map λ v=>.bl (togI hs[j] v))) g))
   cases q:((hs.map tupH).take j).all (togI hs[j]) with
   | false =>
    simp! [true_and]
    exact xx
   | true =>
    simp! [true_and]
    refine⟨⟨_,_,rfl⟩,xx,?_⟩
    rcases Nat.lt_or_eq_of_le hjn with z|rfl
    ·exact z
    ·exfalso
     have:=Zab.mp q (tupH hs[m]) (ZaB.mpr ⟨m,by simp;omega,by simp⟩)
     rw[show togI hs[j] (tupH hs[m])=togB hs[j] hs[m] from rfl,ht] at this
     cases this
 ·rintro _ h' ⟨⟨a,b,rfl⟩,x,hjn⟩
  rw[V3,Zo] at hjn
  omega
theorem _root_.L4.Ex.le {h h':IH}(x:Ex h h'):h.length<=h'.length:=by obtain⟨g,rfl⟩:=x;simp
inductive BadHs (h:IH)(len:Int):IV->Prop
 | kind {v:IV}:v≠.non->(tyI v h).bind JH=Za Zc->BadHs h len v
 | many {i:Nat}{vs:List IV}:h[i]?=Za (.lst vs)->6<vs.length->BadHs h len (.ref i)
 | odd {i:Nat}{vs:List IV}:h[i]?=Za (.lst vs)->vs.length<=6->(∀v∈vs,HV h v)->vs.all (Qd len)=Zc->BadHs h len (.ref i)
 | cross {i:Nat}{hs:List Hd}{m n:Nat}(hm:m<n) (hn:n<hs.length):h[i]?=Za (.lst (hs.map tupH))->hs.length<=6->(∀a∈hs,HdOk len a)->togB hs[n] hs[m]=Zc->BadHs h len (.ref i)
theorem hd_v {a:Hd}{len:Int}(e:HdOk len a):HV h (tupH a):=by
 have hb:=Jq
 refine⟨.tup,λ n s e' q=>?_⟩
 simp only[tupH,IV.tup.injEq,Zcn,and_true] at q
 obtain⟨rfl,rfl,rfl⟩:=q
 exact⟨.str,.int,.int,λ y q=>by cases q;have:=e.1.2.1;omega⟩
theorem Jkh {v:IV}{len:Int}(b:BadHs h len v):WE (Xy (k+4) [v,.int len] h) (λ _ _=>False) (λ n h'=>h'[n]?=Za (.exc "BadWork" [])/\Ex h h'/\h.length<=n):=by
 have hb:=Jq
 have up:∀{N:ISt->IH->Prop}{R:IV->IH->Prop}{σ:ISt}{h1:IH}{t:Str},Ex h h1->WSE (JZ "BadWork" (Ja (eC (.str t)) Jd) σ h1) N R λ n _ h'=>(∃c fs,h'[n]?=Za (.exc c fs))/\h'[n]?=Za (.exc "BadWork" [])/\Ex h h'/\h.length<=n:=λ {N R σ h1 t} x=>by
  rw[Jhz,QA,we_c,Vf]
  exact⟨by simp;omega,⟨_,_,Ji⟩,Ji,x.trans (.one _ _),x.le⟩
 rw[Jd6]
 refine QV ?_
 have go:∀{i:Nat}{vs:List IV},h[i]?=Za (.lst vs)->vs.length<=6->(∀v∈vs,HV h v)->(vs.all (Qd len)=Zh->∀h1,Ex h h1->WR (Y2 (k+3) [.ref i] h1) λ v h'=>v=.bl Zc/\Ex h1 h') ->
   WSE (X2 (k+3) [Za (.ref i),Za (.int len)] h) (λ _ _=>False) (λ _ _=>False) λ n _ h'=>(∃c fs,h'[n]?=Za (.exc c fs))/\h'[n]?=Za (.exc "BadWork" [])/\Ex h h'/\h.length<=n:=λ {i vs} hi hl hv ht=>by
  rw[X2,Jw,JG]
  refine WE.of ?_
  simp! [Xs,isI]
  rw[Q5,YC,Jw,JG]
  refine WE.of ?_
  simp! [Yo hi]
  rw[Q5,Ja6,Jw,JG]
  refine WE.of ?_
  simp! [VE,hi]
  refine⟨λ q=>absurd (of_decide_eq_true q) (by omega),λ _=>?_⟩
  rw[Q5,Jc0,Jw,JG]
  refine WE.of ?_
  simp! [true_and]
  refine WR.mono (QP (xs:=vs) (chk:=λ h2=>h2[i]?=Za (.lst vs)) (f:=λ v=>.bl (Qd len v)) (h:=h) ?_ (by omega) (λ h2 q=>q _ _ hi) ?_) ?_
  ·simp! [QB,hi]
  ·intro v hv' h2 q
   simp! [Jbm,ZA,Zbr,Zap,ZaA,ZbF]
   exact Jxm ((hv v hv').kp q)
  ·rintro v h1 ⟨rfl,g,rfl⟩
   refine Qm (all_map (f:=Qd len) JI) ?_
   have x1:Ex h (h++IX.lst (vs.map λ v=>IV.bl (Qd len v))::g):=.cons ..
   generalize h++IX.lst (vs.map λ v=>IV.bl (Qd len v))::g=h1 at x1 ⊢
   cases q:vs.all (Qd len) with
   | false =>
    simp! [true_and]
    exact up x1
   | true =>
    simp! [true_and]
    rw[Q5,Jc1,Jw,JG]
    refine WE.of ?_
    simp! [true_and]
    refine WR.mono (ht q h1 x1) ?_
    rintro _ h2 ⟨rfl,x2⟩
    simp! [true_and]
    exact up (x1.trans x2)
 cases b with
 | kind n t =>
  rw[X2,Jw,JG]
  refine WE.of ?_
  have e1:isI v .non=Za Zc:=by cases v<;>first|rfl|exact absurd rfl n
  simp! [Xs,e1]
  rw[Q5,YC,Jw,JG]
  refine WE.of ?_
  simp! [t]
  exact up (.refl _)
 | @many i vs hi hl =>
  rw[X2,Jw,JG]
  refine WE.of ?_
  simp! [Xs,isI]
  rw[Q5,YC,Jw,JG]
  refine WE.of ?_
  simp! [Yo hi]
  rw[Q5,Ja6,Jw,JG]
  refine WE.of ?_
  simp! [VE,hi]
  refine⟨λ _=>up (.refl _),λ q=>absurd (of_decide_eq_false q) (by omega)⟩
 | odd hi hl hv hf=>exact go hi hl hv λ q=>by rw[q] at hf;cases hf
 | @cross i hs m n hm hn hi hl hv hf =>
  refine go hi (by simpa using hl) (λ v hv'=>?_) λ q h1 x=>Jha (x.get hi) hl hm hn hf
  obtain⟨a,ha,rfl⟩:=ZR.mp hv'
  exact hd_v (hv a ha)
abbrev Bad (h:IH):Nat->IH->Prop:=λ n h'=>h'[n]?=Za (.exc "BadWork" [])/\Ex h h'/\h.length<=n
theorem up03 {N:ISt->IH->Prop}{R:IV->IH->Prop}{σ:ISt}{h1:IH}{t:Str}(x:Ex h h1):WSE (JZ "BadWork" (Ja (eC (.str t)) Jd) σ h1) N R λ n _ h'=>(∃c fs,h'[n]?=Za (.exc c fs))/\Bad h n h':=by
 have hb:=Jq
 rw[Jhz,QA,we_c,Vf]
 exact⟨by simp;omega,⟨_,_,Ji⟩,Ji,x.trans (.one _ _),x.le⟩
theorem Jnz {v:IV}{gap:Int}(n:v≠.non)(t:Ty0 h v)(b:QH 1 v=Zc∨∃d,v=.int d/\gap<d):WE (Xx (k+3) [v,.int gap] h) (λ _ _=>False) (Bad h):=by
 rw[Jgf]
 refine QV ?_
 rw[Jcz,Jw,JG]
 refine WE.of ?_
 have e1:isI v .non=Za Zc:=by cases v<;>first|rfl|exact absurd rfl n
 simp! [Xs,e1]
 rw[Q5,Jey,Jw,JG]
 refine WE.of ?_
 simp! [Yr t]
 cases q:QH 1 v with
 | false =>
  simp! [true_and]
  exact up03 (.refl _)
 | true =>
  rcases b with b|⟨d,rfl,b⟩
  ·rw[q] at b;cases b
  ·simp! [decide_eq_true b]
   exact up03 (.refl _)
inductive BadW (h:IH):IV->IV->IV->IV->IV->IV->Prop
 | name {v0 v1 v2 v3 v4 v5:IV}:Ty0 h v0->(∀x,v0=.str x->x.length<=sizeLine)->QJ v0=Zc->BadW h v0 v1 v2 v3 v4 v5
 | gap {x:Str}{v1 v2 v3 v4 v5:IV}:IsNm x->Ty0 h v1->QH 1 v1=Zc->BadW h (.str x) v1 v2 v3 v4 v5
 | len {x:Str}{gap:Int}{v2 v3 v4 v5:IV}:IsNm x->1<=gap->Ty0 h v2->QH 1 v2=Zc->BadW h (.str x) (.int gap) v2 v3 v4 v5
 | late {x:Str}{gap len:Int}{v3 v4 v5:IV}:IsNm x->1<=gap->1<=len->Ty0 h v4->QH 0 v4=Zc->BadW h (.str x) (.int gap) (.int len) v3 v4 v5
 | due {x:Str}{gap len late:Int}{v3 v5:IV}:IsNm x->1<=gap->1<=len->0<=late->v3≠.non->Ty0 h v3->(QH 1 v3=Zc∨∃d,v3=.int d/\gap<d)->BadW h (.str x) (.int gap) (.int len) v3 (.int late) v5
 | holds {x:Str}{gap len late due:Int}{v5:IV}:IsNm x->1<=gap->1<=len->0<=late->1<=due->due<=gap->BadHs h len v5->BadW h (.str x) (.int gap) (.int len) (.int due) (.int late) v5
theorem BadHs.kp {h':IH}{len:Int}{v:IV}(b:BadHs h len v)(q:∀(j:Nat)(o:IX),h[j]?=Za o->h'[j]?=Za o):BadHs h' len v:=by
 cases b with
 | kind n t =>
  refine .kind n ?_
  cases v with
  | ref i =>
   unfold tyI at t ⊢
   dsimp only at t ⊢
   cases e:h[i]? with
   | none=>rw[e] at t;cases t
   | some o=>rw[e] at t;rw[q _ _ e];exact t
  | _=>exact t
 | many hi hl=>exact .many (q _ _ hi) hl
 | odd hi hl hv hf=>exact .odd (q _ _ hi) hl (λ v hv'=>(hv v hv').kp q) hf
 | cross hm hn hi hl hv hf=>exact .cross hm hn (q _ _ hi) hl hv hf
theorem BadW.kp {h':IH}{v0 v1 v2 v3 v4 v5:IV}(b:BadW h v0 v1 v2 v3 v4 v5)(q:∀(j:Nat)(o:IX),h[j]?=Za o->h'[j]?=Za o):BadW h' v0 v1 v2 v3 v4 v5:=by
 cases b with
 | name a b c=>exact .name (a.kp q) b c
 | gap a b c=>exact .gap a (b.kp q) c
 | len a b c d=>exact .len a b (c.kp q) d
 | late a b c d e=>exact .late a b c (d.kp q) e
 | due a b c d e f g=>exact .due a b c d e (f.kp q) g
 | holds a b c d e f g=>exact .holds a b c d e f (g.kp q)
abbrev iS (w:Nat)(v0 v1 v2 v3 v4 v5:IV):ISt:=[Za (.ref w),Za v0,Za v1,Za v2,Za v3,Za v4,Za v5]
abbrev Zd (h:IH):Nat->ISt->IH->Prop:=λ n _ h'=>(∃c fs,h'[n]?=Za (.exc c fs))/\Bad h n h'
section
variable {w:Nat}{v0 v1 v2 v3 v4 v5:IV}{h1:IH}{N:ISt->IH->Prop}{R:IV->IH->Prop}{Y:Nat->ISt->IH->Prop}
theorem J0m (t:Ty0 h1 v1)(e:QH 1 v1=Zc)(x:Ex h h1):WSE (YA (k+4) (iS w v0 v1 v2 v3 v4 v5) h1) N R (Zd h):=by
 rw[YA,Jw,JG]
 refine WE.of ?_
 simp! [Yr t,e]
 exact up03 x
theorem J0n (t:Ty0 h1 v2)(e:QH 1 v2=Zc)(x:Ex h h1):WSE (XQ (k+4) (iS w v0 v1 v2 v3 v4 v5) h1) N R (Zd h):=by
 rw[XQ,Jw,JG]
 refine WE.of ?_
 simp! [Yr t,e]
 exact up03 x
theorem J0o (t:Ty0 h1 v4)(e:QH 0 v4=Zc)(x:Ex h h1):WSE (XR (k+4) (iS w v0 v1 v2 v3 v4 v5) h1) N R (Zd h):=by
 rw[XR,Jw,JG]
 refine WE.of ?_
 simp! [Yr t,e]
 exact up03 x
theorem Jrs {g:Int}(e:1<=g)(z:WSE (XQ (k+4) (iS w v0 (.int g) v2 v3 v4 v5) h1) N R Y):WSE (YA (k+4) (iS w v0 (.int g) v2 v3 v4 v5) h1) N R Y:=by
 rw[YA,Jw,JG]
 refine WE.of ?_
 simp! [Ys,decide_eq_true e]
 rw[Q5]
 exact z
theorem Ju1 {g:Int}(e:1<=g)(z:WSE (XR (k+4) (iS w v0 v1 (.int g) v3 v4 v5) h1) N R Y):WSE (XQ (k+4) (iS w v0 v1 (.int g) v3 v4 v5) h1) N R Y:=by
 rw[XQ,Jw,JG]
 refine WE.of ?_
 simp! [Ys,decide_eq_true e]
 rw[Q5]
 exact z
theorem Jxn {g:Int}(e:0<=g)(z:WSE (Ja5 (k+4) (iS w v0 v1 v2 v3 (.int g) v5) h1) N R Y):WSE (XR (k+4) (iS w v0 v1 v2 v3 (.int g) v5) h1) N R Y:=by
 rw[XR,Jw,JG]
 refine WE.of ?_
 simp! [Ys,decide_eq_true e]
 rw[Q5]
 exact z
theorem Jxo {g:IH}(z:WSE (XS (k+4) (iS h.length v0 v1 v2 v3 v4 v5) (h++.ins "Work" [("name",v0),("gap",v1),("length",v2)]::g)) N R Y):WSE (Ja5 (k+4) (iS h.length v0 v1 v2 v3 v4 v5) (h++.ins "Work" []::g)) N R Y:=by
 rw[Ja5,Jw]
 refine WSE.of ?_
 simp! [Xt]
 refine⟨_,_,_,rfl,JI,by decide,?_⟩
 rw[Yj,put0,Je8,Jw]
 refine WSE.of ?_
 simp! [Xt]
 refine⟨_,_,_,rfl,JI,by show(1:Nat)<1000;decide,?_⟩
 rw[Yj,put1,Je9,Jw]
 refine WSE.of ?_
 simp! [Xt]
 refine⟨_,_,_,rfl,JI,by show(2:Nat)<1000;decide,?_⟩
 rw[Yj,put2]
 exact z
theorem J0p {gap:Int}(n:v3≠.non)(t:Ty0 h1 v3)(b:QH 1 v3=Zc∨∃d,v3=.int d/\gap<d)(x:Ex h h1):WSE (XS (k+4) (iS w v0 (.int gap) v2 v3 v4 v5) h1) N R (Zd h):=by
 rw[XS,Jw]
 refine Jnf _ _ _ ?_
 rw[Xq,QA]
 refine WE.of ?_
 simp! [true_and]
 rw[QA]
 refine WE.of ?_
 simp! [true_and]
 rw[Vf]
 refine WE.mono (Jnz (k:=k+1) n t b) (λ _ _ z=>z) ?_
 rintro n h2 ⟨e,y,l⟩
 exact⟨⟨_,_,e⟩,e,x.trans y,Zau x.le l⟩
theorem J0q {gap due:Int}{g:IH}(e1:1<=due)(e2:due<=gap)(z:WSE (YB (k+4) (iS h.length v0 (.int gap) v2 (.int due) v4 v5) (h++.ins "Work" [("name",v0),("gap",.int gap),("length",v2),("due",.int due),("late",v4)]::g)) N R Y):WSE (XS (k+4) (iS h.length v0 (.int gap) v2 (.int due) v4 v5) (h++.ins "Work" [("name",v0),("gap",.int gap),("length",v2)]::g)) N R Y:=by
 rw[XS,Jw]
 refine WSE.of ?_
 simp! [Xt,Jil e1 e2]
 refine⟨_,_,_,rfl,JI,by show(3:Nat)<1000;decide,?_⟩
 rw[Yj,put3,Jfa,Jw]
 refine WSE.of ?_
 simp! [Xt]
 refine⟨_,_,_,rfl,JI,by show(4:Nat)<1000;decide,?_⟩
 rw[Yj,put4]
 exact z
theorem J0r {len:Int}(b:BadHs h1 len v5)(x:Ex h h1):WSE (YB (k+4) (iS w v0 v1 (.int len) v3 v4 v5) h1) N R (Zd h):=by
 rw[YB]
 refine Jnf _ _ _ ?_
 rw[Xq,QA]
 refine WE.of ?_
 simp! [true_and]
 rw[QA]
 refine WE.of ?_
 simp! [true_and]
 rw[Vf]
 refine WE.mono (Jkh (k:=k) b) (λ _ _ z=>z) ?_
 rintro n h2 ⟨e,y,l⟩
 exact⟨⟨_,_,e⟩,e,x.trans y,Zau x.le l⟩
end
theorem Jvc {v0 v1 v2 v3 v4 v5:IV}(b:BadW h v0 v1 v2 v3 v4 v5):WE (VY (k+5) [.ref h.length,v0,v1,v2,v3,v4,v5] (h++[.ins "Work" []])) (λ _ _=>False) (Bad h):=by
 rw[Jgq]
 refine QV ?_
 have nm:∀{x:Str},IsNm x->Ty0 h (.str x)/\∀y,IV.str x=.str y->y.length<=sizeLine:=λ e=>⟨.str,λ y z=>by cases z;have:=e.2.1;have:=Jq;omega⟩
 have t0:Ty0 h v0/\∀y,v0=.str y->y.length<=sizeLine:=by
  cases b with
  | name a b c=>exact⟨a,b⟩
  | gap a=>exact nm a
  | len a=>exact nm a
  | late a=>exact nm a
  | due a=>exact nm a
  | holds a=>exact nm a
 rw[Je7,Jw,JG]
 refine WE.of ?_
 simp! [true_and]
 refine WR.mono (Jts (t0.1.ex (.one _ _)) t0.2) ?_
 rintro _ _ ⟨rfl,g,rfl⟩
 have x01:Ex h (h++[IX.ins "Work" []]++g):=(Ex.one _ _).trans ⟨g,rfl⟩
 have b1:=b.kp x01.kp
 have eh:h++[IX.ins "Work" []]++g=h++IX.ins "Work" []::g:=by simp
 cases q1:QJ v0 with
 | false=>simp! [true_and];exact up03 x01
 | true =>
  simp! [true_and]
  rw[Q5]
  cases b with
  | name _ _ c=>rw[q1] at c;cases c
  | gap a t e=>exact J0m (t.ex x01) e x01
  | len a b t e=>exact Jrs b (J0n (t.ex x01) e x01)
  | late a b c t e=>exact Jrs b (Ju1 c (J0o (t.ex x01) e x01))
  | due a b c d n t e =>
   rw[eh]
   exact Jrs b (Ju1 c (Jxn d (Jxo (J0p n (t.ex (.cons _ _ _)) e (.cons _ _ _)))))
  | holds a b c d e f q =>
   rw[eh]
   exact Jrs b (Ju1 c (Jxn d (Jxo (J0q e f (J0r (q.kp (Ex.cons _ _ _).kp) (.cons _ _ _))))))
end
abbrev one (c:Nat):Str:=⟨#[c]⟩
theorem Jz (a b:Str):(a++b).cps.toList=a.cps.toList++b.cps.toList:=by rw[Str.cps_append,Array.toList_append]
theorem Q3 (c:Nat):(one c).cps.toList=[c]:=rfl
theorem QL (a b c:Str):a++b++c=a++(b++c):=VU (by simp only[Jz,Zaa])
theorem Jtc {c:Nat}:∀{a b r s:List Nat},c∉a->c∉b->a++c::r=b++c::s->a=b/\r=s
 | [],[],r,s,_,_,e=>⟨rfl,(ZcI e).2⟩
 | [],y::b,r,s,_,hb,e=>absurd (Zt.mpr (.inl (ZcI e).1)) hb
 | x::a,[],r,s,ha,_,e=>absurd (Zt.mpr (.inl (ZcI e).1.symm)) ha
 | x::a,y::b,r,s,ha,hb,e=>by
  obtain⟨e1,e2⟩:=ZcI e
  obtain⟨h1,h2⟩:=Jtc (λ q=>ha (Zs _ q)) (λ q=>hb (Zs _ q)) e2
  exact⟨by rw[e1,h1],h2⟩
theorem JU (y a b:Str)(r:List Str):ZJ y (a::b::r)=a++y++ZJ y (b::r):=rfl
theorem V6 (c:Nat)(a b:Str)(r:List Str):(ZJ (one c) (a::b::r)).cps.toList=a.cps.toList++c::(ZJ (one c) (b::r)).cps.toList:=by
 rw[JU,Jz,Jz,Zaa]
 rfl
theorem Jmr {c:Nat}:∀{ps qs:List Str},ps≠[]->qs≠[]->(∀p∈ps,c∉p.cps.toList)->(∀p∈qs,c∉p.cps.toList)->ZJ (one c) ps=ZJ (one c) qs->ps=qs
 | [],_,h,_,_,_,_=>absurd rfl h
 | _::_,[],_,h,_,_,_=>absurd rfl h
 | [a],[b],_,_,_,_,e=>by rw[show a=b from e]
 | [a],b::b'::t,_,_,ha,_,e=>by
  have e':a.cps.toList=_:=congrArg (λ s:Str=>s.cps.toList) (show a=ZJ (one c) (b::b'::t) from e)
  rw[V6] at e'
  exact absurd (by rw[e'];simp) (ha a (Zv ..))
 | a::a'::r,[b],_,_,_,hb,e=>by
  have e':_=b.cps.toList:=congrArg (λ s:Str=>s.cps.toList) (show ZJ (one c) (a::a'::r)=b from e)
  rw[V6] at e'
  exact absurd (by rw[<- e'];simp) (hb b (Zv ..))
 | a::a'::r,b::b'::t,_,_,ha,hb,e=>by
  have e':(ZJ (one c) (a::a'::r)).cps.toList=(ZJ (one c) (b::b'::t)).cps.toList:=congrArg (λ s:Str=>s.cps.toList) e
  rw[V6,V6] at e'
  obtain⟨h1,h2⟩:=Jtc (ha a (Zv ..)) (hb b (Zv ..)) e'
  rw[VU h1,Jmr (ps:=a'::r) (qs:=b'::t) (by simp) (by simp) (λ p hp=>ha p (Zs _ hp)) (λ p hp=>hb p (Zs _ hp)) (VU h2)]
theorem Jef {c:Nat}{ws:List Str}(hn:ws≠[])(hw:∀p∈ws,c∉p.cps.toList):Zad (ZT (one c) ws) (one c)=ws:=by
 rw[show ZT (one c) ws=ZJ (one c) ws from ZU _ _]
 refine Jmr (λ e=>?_) hn (StrLaws.split_free _ c) hw (Zcp _ _)
 have:=ZdQ (ZJ (one c) ws) (one c)
 rw[e] at this
 exact absurd this (by decide)
theorem Jg5 {c:Nat}{a b:Str}(ha:c∉a.cps.toList):ZC (a++one c++b) (one c)=(a,one c,b):=by
 have hl:(a++one c++b).cps.toList=a.cps.toList++c::b.cps.toList:=by
  rw[Jz,Jz,Zaa]
  rfl
 have hn:(a++one c++b).length=a.cps.toList.length+1+b.cps.toList.length:=by
  show(a++one c++b).cps.size=_
  rw[<- Za1,hl]
  simp
  omega
 have atl:ZdR (a++one c++b) (one c) (a++one c++b).length a.cps.toList.length:=by
  refine(ZbR _ _ _).mpr ?_
  rw[hl]
  simp
 unfold ZC
 rcases StrLaws.occ_head (a++one c++b) (one c) 1 (Zu 1) with⟨h0,q⟩|⟨i,r,h0,hi,q⟩
 ·exact absurd atl (q _)
 ·rw[h0]
  have e:i=a.cps.toList.length:=by
   have h1:¬a.cps.toList.length<i:=λ z=>q _ z atl
   have h2:=(ZbR _ _ _).mp hi
   rw[hl] at h2
   by_cases z:i<a.cps.toList.length
   ·rw[ZF z] at h2
    exact absurd (Za4 h2) ha
   ·omega
  subst e
  have e1:ZaG (a++one c++b) 0 a.cps.toList.length=a:=VU (by
   rw[Zbz,hl]
   simp)
  have e2:ZaG (a++one c++b) (a.cps.toList.length+(one c).length) (a++one c++b).length=b:=VU (by
   rw[Zbz,hl,hn]
   show((a.cps.toList++c::b.cps.toList).drop (a.cps.toList.length+1)).take _=_
   rw[show a.cps.toList++c::b.cps.toList=a.cps.toList++[c]++b.cps.toList by simp,List.drop_left' (by simp)]
   exact ZaT (by show _<=_-(a.cps.toList.length+1);omega))
  show(ZaG _ 0 a.cps.toList.length,one c,ZaG _ (a.cps.toList.length+(one c).length) _)=_
  rw[e1,e2]
def tS (i:Int):Str:=Zb (toString i)
structure Sm (i:Int):Prop where
 lo:0<=i
 hi:i<10^60
theorem Sm.nat {i:Int}(q:Sm i):∃n:Nat,i=n/\n<10^60:=by
 obtain⟨n,rfl⟩:=Int.eq_ofNat_of_zero_le q.lo
 refine⟨n,rfl,?_⟩
 have:=q.hi
 have e:((10^60:Nat):Int)=10^60:=by rw[Int.natCast_pow];rfl
 rw[<- e] at this
 omega
theorem Sm.log {i:Int}(q:Sm i):i.natAbs.log2<1920:=by
 obtain⟨n,rfl,h⟩:=q.nat
 rw[Int.natAbs_natCast]
 by_cases h0:n=0
 ·rw[h0];decide
 ·rw[Nat.log2_lt h0]
  exact Nat.lt_trans h (by decide +kernel)
theorem Jo0:∀(k n:Nat),n<10^(k+1)->(ZcZ 10 n).length<=k+1
 | 0,n,h=>by rw[Zbi (by simpa using h)];exact Zu _
 | k+1,n,h=>by
  by_cases hn:n<10
  ·rw[Zbi hn];exact ZdW _ _
  ·rw[ZbG (by decide) (by omega),ZZ]
   have:=Jo0 k (n/10) (Nat.div_lt_of_lt_mul (by rw[Nat.pow_succ,Nat.mul_comm] at h;exact h))
   simp only[ZdZ]
   omega
theorem Jml:∀n:Nat,n≠0->(ZcZ 10 n)[0]?≠Za '0'
 | n,h=>by
  by_cases hn:n<10
  ·rw[Zbi hn]
   have:∀m<10,m≠0->([Nat.digitChar m]:List Char)[0]?≠Za '0':=by decide
   exact this n hn h
  ·rw[ZbG (by decide) (by omega)]
   have ih:=Jml (n/10) (by omega)
   have pos:0<(ZcZ 10 (n/10)).length:=by
    by_cases h2:n/10<10
    ·rw[Zbi h2];exact Nat.zero_lt_one
    ·rw[ZbG (by decide) (by omega),ZZ];exact ZY Nat.zero_lt_one (ZdW _ _)
   rw[ZF pos]
   exact ih
 termination_by n=>n
 decreasing_by omega
theorem tS_l (n:Nat):(tS n).cps.toList=(ZcZ 10 n).map Char.toNat:=W.KIN.signs_num n
theorem Sm.dig {i:Int}(q:Sm i):∀c∈(tS i).cps.toList,48<=c/\c<=57:=by
 obtain⟨n,rfl,h⟩:=q.nat
 intro c hc
 rw[tS_l] at hc
 obtain⟨ch,hch,e⟩:=ZR.mp hc
 have r:=PyProof.Rows.digit_range (Nat.isDigit_of_mem_toDigits (by decide) (by decide) hch)
 omega
theorem Sm.len {i:Int}(q:Sm i):1<=(tS i).length/\(tS i).length<=60:=by
 obtain⟨n,rfl,h⟩:=q.nat
 have e:(tS n).length=(ZcZ 10 n).length:=by
  show(tS n).cps.size=_
  rw[<- Za1,tS_l,Zo]
 rw[e]
 refine⟨?_,Jo0 59 n h⟩
 by_cases hn:n<10
 ·rw[Zbi hn];exact Zu _
 ·rw[ZbG (by decide) (by omega),ZZ];exact ZdW _ _
theorem Sm.int {i:Int}(q:Sm i):ZbZ (tS i)=Za i:=by
 have hl:=q.len
 have hd:=q.dig
 obtain⟨n,rfl,h⟩:=q.nat
 have hne:(tS n).cps.toList≠[]:=λ e=>by
  have:(tS n).length=(tS n).cps.toList.length:=by show _=(tS n).cps.toList.length;rw[Za1];rfl
  rw[e] at this
  simp at this
  omega
 have e:=PySem.intText_digits (x:=tS n) (λ c hc=>hd c hc) hne (by omega)
 rw[tS_l,W.KIN.val_back] at e
 exact e
theorem Jwh {i:Int}(q:Sm i)(h:¬tS i=Zb "0"):ZbY (tS i) (one 48)=Zc:=by
 obtain⟨n,rfl,_⟩:=q.nat
 have h0:n≠0:=λ e=>h (by rw[e];rfl)
 have hd:=Jml n h0
 unfold ZbY
 rw[<- Bool.not_eq_true,Zl,decide_eq_true_eq]
 intro z
 have z:=(ZbR _ _ _).mp z
 rw[tS_l,Z6] at z
 obtain⟨c,hc,e⟩:=Z7.mp z
 refine hd ?_
 rw[hc]
 congr 1
 exact Char.toNat_inj.mp (by rw[e];rfl)
theorem Jus {c:Nat}(h:48<=c/\c<=57):Zbs (Zb "0123456789") (one c)=Zh:=by
 have:∀c<58,48<=c->Zbs (Zb "0123456789") (one c)=Zh:=by decide +kernel
 exact this c (by omega) h.1
def hT (a:Hd):Str:=a.1++one 58++tS a.2.1++one 45++tS a.2.2
theorem Jm2:Zb " "=one 32:=by decide +kernel
theorem Ji1:Zb ":"=one 58:=by decide +kernel
theorem Jlp:Zb "-"=one 45:=by decide +kernel
theorem Yf:Zb "0"=one 48:=by decide +kernel
theorem Jr2 (sep:Str)(hs:sep.length=1):∀(l:List Str),(∀x∈l,x.length<=140)->(ZT sep l).length<=l.length*141:=by
 intro l hl
 rw[show ZT sep l=ZJ sep l from ZU sep l]
 have h1:=Zc6 sep l
 have h2:(l.map (·.length)).sum<=l.length*140:=by
  clear h1
  induction l with
  | nil=>simp
  | cons x r ih =>
   have:=ih λ y hy=>hl y (Zs _ hy)
   have:=hl x (Zv ..)
   simp only[ZA,Zeu,Z0]
   omega
 rw[hs] at h1
 omega
theorem Jtr {sep:Str}(hs:sep.length=1){l:List Str}(hl:∀x∈l,x.length<=140)(hn:l.length<=20):ZeC sep l=Zh:=by
 have hb:=Jq
 unfold ZeC ZcS
 have key:∀(l:List Str)(a:Nat),(∀x∈l,x.length<=140)->l.foldl (λ a p=>a+p.length+sep.length) a<=a+l.length*141:=by
  intro l
  induction l with
  | nil=>intro a _;simp
  | cons x r ih =>
   intro a hx
   have:=ih (a+x.length+sep.length) λ y hy=>hx y (Zs _ hy)
   have:=hx x (Zv ..)
   simp only[ZdT,Z0]
   omega
 have:=key l 0 hl
 rw[List.foldl_toArray]
 simp only[Zaf,decide_eq_false_iff_not]
 omega
theorem Vd {x:Str}(q:IsNm x):∀c∈x.cps.toList,97<=c/\c<=122:=q.2.2
abbrev sc:Str:=⟨#[59,32]⟩
theorem Yi:Zb "; "=sc:=by decide +kernel
theorem Jol {x:Str}{i:Nat}(h:ZdR x sc x.length i):x.cps.toList[i]?=Za 59:=by
 have e:=h.2
 rw[ZdH] at e
 have e:(x.cps.toList.drop i).take 2=[59,32]:=eq_of_beq e
 have:((x.cps.toList.drop i).take 2)[0]?=Za 59:=by rw[e];rfl
 rw[Zbb (by decide),ZaF] at this
 exact this
theorem Jom {x:Str}{i:Nat}(h:ZdR x sc x.length i):x.cps.toList[i+1]?=Za 32:=by
 have e:=h.2
 rw[ZdH] at e
 have e:(x.cps.toList.drop i).take 2=[59,32]:=eq_of_beq e
 have:((x.cps.toList.drop i).take 2)[1]?=Za 32:=by rw[e];rfl
 rw[Zbb (by decide),ZaF] at this
 exact this
def NoSc (l:List Nat):Prop:=∀i,l[i]?=Za 59->l[i+1]?≠Za 32
theorem NoSc.of {l:List Nat}(h:59∉l):NoSc l:=λ i e=>absurd (Za4 e) h
theorem Jz9 {x:Str}{i:Nat}{r:List Nat}(h:x.cps.toList.drop i=59::32::r):ZdR x sc x.length i:=by
 refine⟨?_,?_⟩
 ·have:=congrArg Zdr h
  rw[ZcA] at this
  have hn:x.cps.toList.length=x.length:=Za1
  show i+2<=x.length
  simp only[Z0] at this
  omega
 ·rw[ZdH,h]
  rfl
theorem Jhd {x:Str}:∀(ps:List Str),ps≠[]->(∀p∈ps,NoSc p.cps.toList)->∀(a:Nat)(cuts:List Nat)(f:Nat),x.cps.toList.drop a=(ZJ sc ps).cps.toList->StrLaws.ChainG x sc x.length a cuts f->(∀k,f<=k->¬ZdR x sc x.length k)->StrLaws.partsFrom x 2 a cuts=ps
 | [],hn,_,_,_,_,_,_,_=>absurd rfl hn
 | [p],_,hp,a,cuts,f,e,ch,hf=>by
  have e:x.cps.toList.drop a=p.cps.toList:=e
  cases cuts with
  | nil =>
   show[ZaG x a x.length]=[p]
   congr 1
   refine VU ?_
   rw[Zbz,<-e]
   refine ZaT ?_
   rw[ZcA,show x.cps.toList.length=x.length from Za1]
   exact Zu _
  | cons d r =>
   have hd:=Jol ch.2.1
   have:(x.cps.toList.drop a)[d-a]?=Za 59:=by
    rw[ZaF,show a+(d-a)=d by have:=ch.1;omega]
    exact hd
   have hd2:=Jom ch.2.1
   have this2:(x.cps.toList.drop a)[d-a+1]?=Za 32:=by
    rw[ZaF,show a+(d-a+1)=d+1 by have:=ch.1;omega]
    exact hd2
   rw[e] at this this2
   exact absurd this2 (hp p (Zv ..) _ this)
 | p::p'::r,_,hp,a,cuts,f,e,ch,hf=>by
  have e:x.cps.toList.drop a=p.cps.toList++59::32::(ZJ sc (p'::r)).cps.toList:=by
   rw[e,JU,Jz,Jz,Zaa]
   rfl
  have da:x.cps.toList.drop (a+p.cps.toList.length)=59::32::(ZJ sc (p'::r)).cps.toList:=by
   rw[<- Zei,e,List.drop_left]
  have at1:=Jz9 da
  cases cuts with
  | nil=>exact absurd at1 (hf _ (by have:f=a:=ch;omega))
  | cons d rr =>
   have hd:=Jol ch.2.1
   have h1:=ch.1
   have ed:d=a+p.cps.toList.length:=by
    by_cases z:d<a+p.cps.toList.length
    ·have:(x.cps.toList.drop a)[d-a]?=Za 59:=by
      rw[ZaF,show a+(d-a)=d by omega]
      exact hd
     have this2:(x.cps.toList.drop a)[d-a+1]?=Za 32:=by
      rw[ZaF,show a+(d-a+1)=d+1 by omega]
      exact Jom ch.2.1
     rw[e,ZF (by omega)] at this
     by_cases z3:d-a+1<p.cps.toList.length
     ·rw[e,ZF z3] at this2
      exact absurd this2 (hp p (Zv ..) _ this)
     ·rw[e,ZI (by omega),show d-a+1-p.cps.toList.length=0 by omega] at this2
      cases this2
    ·by_cases z2:a+p.cps.toList.length<d
     ·exact absurd at1 (ch.2.2.1 _ (by omega) z2)
     ·omega
   subst ed
   show ZaG x a (a+p.cps.toList.length)::StrLaws.partsFrom x 2 (a+p.cps.toList.length+2) rr=_
   rw[Jhd (p'::r) (by simp) (λ q hq=>hp q (Zs _ hq)) (a+p.cps.toList.length+2) rr f (by rw[<- Zei,da];rfl) ch.2.2.2 hf]
   congr 1
   refine VU ?_
   rw[Zbz,e,show a+p.cps.toList.length-a=p.cps.toList.length by omega,List.take_left]
theorem Jf6 {ps:List Str}(hn:ps≠[])(hp:∀p∈ps,NoSc p.cps.toList):Zad (ZT sc ps) sc=ps:=by
 rw[show ZT sc ps=ZJ sc ps from ZU _ _]
 obtain⟨f,ch,hf⟩:=StrLaws.occ_tight (ZJ sc ps) sc (by decide)
 have key:=Jhd (x:=ZJ sc ps) ps hn hp 0 _ f rfl ch hf
 unfold Zad
 split
 ·rename_i hc
  match ps,hn with
  | [p],_=>rfl
  | p::p'::r,_ =>
   exfalso
   rw[Za7,decide_eq_true_eq,decide_eq_true_eq] at hc
   rcases hc with hc|hc
   ·rw[JU,Zx,Zx] at hc
    omega
   ·have e:Builtin.Str.strKind sc=1:=by decide +kernel
    rw[e] at hc
    unfold Builtin.Str.strKind at hc
    split at hc
    ·omega
    ·split at hc<;>omega
 ·split
  ·rename_i hc
   rw[List.isEmpty_iff] at hc
   rw[hc] at key
   rw[<- key]
   show[_]=[ZaG _ 0 _]
   rw[StrLaws.sub_whole,key]
  ·rw[StrLaws.partsBetween_eq]
   exact key
theorem Jkc (sep:Str)(hs:sep.length<=3):∀(l:List Str),(∀x∈l,x.length<=250)->(ZT sep l).length<=l.length*253:=by
 intro l hl
 rw[show ZT sep l=ZJ sep l from ZU sep l]
 have h1:=Zc6 sep l
 have h2:(l.map (·.length)).sum<=l.length*250:=by
  clear h1
  induction l with
  | nil=>simp
  | cons x r ih =>
   have:=ih λ y hy=>hl y (Zs _ hy)
   have:=hl x (Zv ..)
   simp only[ZA,Zeu,Z0]
   omega
 have h3:l.length*sep.length<=l.length*3:=Nat.mul_le_mul_left _ hs
 omega
theorem Jpr {sep:Str}(hs:sep.length<=3){l:List Str}(hl:∀x∈l,x.length<=255)(hn:l.length<=50):ZeC sep l=Zh:=by
 have hb:=Jq
 unfold ZeC ZcS
 have key:∀(l:List Str)(a:Nat),(∀x∈l,x.length<=255)->l.foldl (λ a p=>a+p.length+sep.length) a<=a+l.length*258:=by
  intro l
  induction l with
  | nil=>intro a _;simp
  | cons x r ih =>
   intro a hx
   have:=ih (a+x.length+sep.length) λ y hy=>hx y (Zs _ hy)
   have:=hx x (Zv ..)
   simp only[ZdT,Z0]
   omega
 have:=key l 0 hl
 rw[List.foldl_toArray]
 simp only[Zaf,decide_eq_false_iff_not]
 omega
theorem Jhk {y p:Str}:∀{l:List Str},p∈l->p.length<=(ZJ y l).length
 | [a],h=>by
  rcases Zt.mp h with rfl|h
  ·exact Zu _
  ·cases h
 | a::b::r,h=>by
  rw[JU,Zx,Zx]
  rcases Zt.mp h with rfl|h
  ·omega
  ·have:=Jhk (y:=y) h
   omega
theorem Jm3 {t y p:Str}(h:p∈Zad t y):p.length<=t.length:=by
 have:=Jhk (y:=y) h
 rwa [Zcp] at this
theorem Jf2 {y:Str}(hy:1<=y.length):∀(l:List Str),l.length<=(ZJ y l).length+1
 | []=>Zar _
 | [a]=>by simp
 | a::b::r=>by
  have:=Jf2 hy (b::r)
  rw[JU,Zx,Zx]
  simp only[Z0] at this ⊢
  omega
theorem Jim {t y:Str}(hy:1<=y.length):(Zad t y).length<=t.length+1:=by
 have:=Jf2 hy (Zad t y)
 rwa [Zcp] at this
theorem Jii {c:Nat}:∀{l:List Str},l≠[]->(∀p∈l,c∉p.cps.toList)->(ZJ (one c) l).cps.toList.count c+1=l.length
 | [],h,_=>absurd rfl h
 | [a],_,h=>by
  show a.cps.toList.count c+1=1
  rw[Zdn.mpr (h a (Zv ..))]
 | a::b::r,_,h=>by
  have:=Jii (c:=c) (l:=b::r) (by simp) λ p hp=>h p (Zs _ hp)
  rw[V6,Zb6,List.count_cons,Zdn.mpr (h a (Zv ..))]
  simp only[Z0,beq_self_eq_true,if_true] at this ⊢
  omega
theorem Je1 (t:Str)(c:Nat):(Zad t (one c)).length=t.cps.toList.count c+1:=by
 have hn:Zad t (one c)≠[]:=λ e=>by
  have:=ZdQ t (one c)
  rw[e] at this
  exact absurd this (by decide)
 have:=Jii hn (StrLaws.split_free t c)
 rw[Zcp] at this
 exact this.symm
section
variable {h:IH}
theorem Jzz {it:I1}{n:Nat}{js:List Nat}{g:G1}{t:T1}{e:E1}{σ:ISt}{P:IV->IH->Prop}(w:WR (J7 it n js g t e σ h) P):WR (Qx it n js g t e σ h) P:=by
 rcases Jln (mi:=it) (nl:=n) (js:=js) (g:=g) (mt:=t) (me:=e) σ h with q|q
 ·rw[q] at w;exact Zf w
 ·rw[q] at w;exact w
theorem Jur {h h':IH}(k:∀(j:Nat)(o:IX),h[j]?=Za o->h'[j]?=Za o):Ex h h':=by
 refine⟨h'.drop h.length,?_⟩
 have:h'.take h.length=h:=Zb5 λ j=>by
  by_cases hj:j<h.length
  ·rw[Zbb hj,k j _ (Zn hj),Zn hj]
  ·rw[ZaL (by simp;omega),ZaL (by omega)]
 conv=>lhs;rw[<- List.take_append_drop h.length h',this]
def Exn (c:Str)(h:IH)(n:Nat)(h':IH):Prop:=h'[n]?=Za (.exc c [])/\Ex h h'/\h.length<=n
theorem Exn.ex {c:Str}{h h1 h':IH}{n:Nat}(x:Ex h h1)(b:Exn c h1 n h'):Exn c h n h':=⟨b.1,x.trans b.2.1,Zau x.len b.2.2⟩
theorem Jyf {chk:IH->Prop}{e:E1}{caps:ISt}{bad:IV->Prop}{c:Str}(i0:Nat):∀{xs acc:List IV}{o:Option IV}{h1:IH},h1[i0]?=Za (.lst acc)->(∀h2,(∀j ob,j≠i0->h1[j]?=Za ob->h2[j]?=Za ob)->chk h2)->acc.length+xs.length<sizeLine ->
  (∀x∈xs,∀h2,(∀j ob,j≠i0->h1[j]?=Za ob->h2[j]?=Za ob)->WE (e (Za x::caps) h2) (λ _ h3=>¬bad x/\Ex h2 h3) (Exn c h2))->(∃x∈xs,bad x) ->
  WE (JS chk (gNm 0) JB e i0 xs (o::caps) h1) (λ _ _=>False) λ n h3=>h3[n]?=Za (.exc c [])/\(∀j ob,j≠i0->h1[j]?=Za ob->h3[j]?=Za ob)/\h1.length<=n
 | [],_,_,_,_,_,_,_,hb=>by obtain⟨_,z,_⟩:=hb;cases z
 | x::xs,acc,o,h1,hi,hc,hl,he,hb=>by
  unfold JS
  rw[if_pos (hc h1 λ _ _ _ q=>q)]
  dsimp only[gNm,Za6,JB]
  have w:=he x Zv h1 λ _ _ _ q=>q
  cases ee:e (Za x::caps) h1 with
  | ok v h3 =>
   rw[ee] at w
   obtain⟨nb,x3⟩:=w
   dsimp only
   rw[x3.get hi]
   dsimp only
   have hl':acc.length+xs.length+1<sizeLine:=by simpa [Zd4] using hl
   rw[if_pos (by omega)]
   have k13:∀j ob,j≠i0->h1[j]?=Za ob->(h3.set i0 (.lst (acc++[v])))[j]?=Za ob:=λ j ob n q=>by
    rw[ZP (Zao n)]
    exact x3.get q
   refine WE.mono (Jyf i0 (acc:=acc++[v]) (by rw[Z1 (JF (x3.get hi))]) (λ h4 q=>hc h4 λ j ob n r=>q j ob n (k13 j ob n r)) (by simp;omega) (λ y hy h4 q=>he y (Zs _ hy) h4 λ j ob n r=>q j ob n (k13 j ob n r)) ?_) (λ _ _ z=>z) λ n h4 z=>⟨z.1,λ j ob nj r=>z.2.1 j ob nj (k13 j ob nj r),Zau x3.len (by simpa using z.2.2)⟩
   obtain⟨y,hy,by_⟩:=hb
   rcases Zt.mp hy with rfl|hy
   ·exact absurd by_ nb
   ·exact⟨y,hy,by_⟩
  | exc n h3 =>
   rw[ee] at w
   have w:Exn c h1 n h3:=w
   dsimp only
   rw[w.1]
   exact⟨w.1,λ j ob _ r=>w.2.1.get r,w.2.2⟩
  | stuck=>rw[ee] at w;exact w
theorem Jwn {it:I1}{e:E1}{js:List Nat}{σ:ISt}{xs:List IV}{chk:IH->Prop}{bad:IV->Prop}{c:Str}{h0:IH}(hit:WR (it σ h0) λ J h1=>J.xs=xs/\J.chk=chk/\h1=h)(hl:xs.length<sizeLine)
  (hc:∀h2:IH,(∀(j:Nat)(ob:IX),h[j]?=Za ob->h2[j]?=Za ob)->chk h2)
  (he:∀x∈xs,∀h2:IH,(∀(j:Nat)(ob:IX),h[j]?=Za ob->h2[j]?=Za ob)->WE (e (Za x::js.map λ j=>(σ[j]?).join) h2) (λ _ h3=>¬bad x/\Ex h2 h3) (Exn c h2))(hb:∃x∈xs,bad x) :
  WE (Qx it 1 js (gNm 0) JB e σ h0) (λ _ _=>False) (Exn c h):=by
 obtain⟨J,h1,e1,q1,q2,rfl⟩:=hit.eq
 unfold Qx
 rw[e1]
 show WE (JS J.chk (gNm 0) JB e h1.length J.xs (Ze::js.map λ j=>(σ[j]?).join) (h1++[.lst []])) _ _
 rw[q1,q2]
 have lift:∀{h2:IH},(∀j ob,j≠h1.length->(h1++[IX.lst []])[j]?=Za ob->h2[j]?=Za ob)->∀j ob,h1[j]?=Za ob->h2[j]?=Za ob:=λ q j ob r=>q j ob (ZK (JF r)) (grow r)
 refine WE.mono (Jyf h1.length (acc:=[]) Ji (λ h2 q=>hc h2 (lift q)) (by simpa using hl) (λ x hx h2 q=>he x hx h2 (lift q)) hb) (λ _ _ z=>z) λ n h3 z=>⟨z.1,Jur (lift z.2.1),?_⟩
 have:=z.2.2
 simp at this
 omega
theorem Jyg {α:Type}{chk:IH->Prop}{e:E1}{caps:ISt}{u f:α->IV}(i0:Nat):∀{ys:List α}{acc:List IV}{o:Option IV}{h1:IH},h1[i0]?=Za (.lst acc)->(∀h2,(∀j ob,j≠i0->h1[j]?=Za ob->h2[j]?=Za ob)->chk h2)->acc.length+ys.length<sizeLine ->
  (∀y∈ys,∀h2,(∀j ob,j≠i0->h1[j]?=Za ob->h2[j]?=Za ob)->WR (e (Za (u y)::caps) h2) λ v h3=>v=f y/\Ex h2 h3) ->
  WR (JS chk (gNm 0) JB e i0 (ys.map u) (o::caps) h1) λ v h3=>v=.ref i0/\∃g,h3=h1.set i0 (.lst (acc++ys.map f))++g
 | [],acc,o,h1,hi,hc,_,_=>by
  rw[Zbr]
  unfold JS
  rw[if_pos (hc h1 λ _ _ _ q=>q)]
  refine⟨rfl,[],?_⟩
  simp only[Za2,Zbr]
  refine(Zb5 λ j=>?_)
  by_cases hj:j=i0
  ·subst hj
   rw[hi,Z1 (JF hi)]
  ·rw[ZP (Zao hj)]
 | y::ys,acc,o,h1,hi,hc,hl,he=>by
  rw[ZA]
  unfold JS
  rw[if_pos (hc h1 λ _ _ _ q=>q)]
  dsimp only[gNm,Za6,JB]
  have hl':acc.length+ys.length+1<sizeLine:=by simpa [Zd4] using hl
  obtain⟨v,h3,e3,rfl,x3⟩:=(he y Zv h1 λ _ _ _ q=>q).eq
  rw[e3]
  dsimp only
  rw[x3.get hi]
  dsimp only
  rw[if_pos (by omega)]
  have k13:∀j ob,j≠i0->h1[j]?=Za ob->(h3.set i0 (.lst (acc++[f y])))[j]?=Za ob:=λ j ob n q=>by
   rw[ZP (Zao n)]
   exact x3.get q
  refine WR.mono (Jyg i0 (acc:=acc++[f y]) (by rw[Z1 (JF (x3.get hi))]) (λ h4 q=>hc h4 λ j ob n r=>q j ob n (k13 j ob n r)) (by simp;omega) λ z hz h4 q=>he z (Zs _ hz) h4 λ j ob n r=>q j ob n (k13 j ob n r)) λ v h4 ⟨ev,g,eg⟩=>⟨ev,?_⟩
  obtain⟨g3,q3⟩:=x3
  refine⟨g3++g,?_⟩
  rw[eg,q3,ZaE (h:=JF hi),ZaE (h:=by rw[Zbj];exact JF hi),Ze9]
  simp
theorem Jud {α:Type}{it:I1}{e:E1}{js:List Nat}{σ:ISt}{ys:List α}{u f:α->IV}{chk:IH->Prop}{h0:IH}(hit:WR (it σ h0) λ J h1=>J.xs=ys.map u/\J.chk=chk/\h1=h)(hl:ys.length<sizeLine)
  (hc:∀h2:IH,(∀(j:Nat)(ob:IX),h[j]?=Za ob->h2[j]?=Za ob)->chk h2)
  (he:∀y∈ys,∀h2:IH,(∀(j:Nat)(ob:IX),h[j]?=Za ob->h2[j]?=Za ob)->WR (e (Za (u y)::js.map λ j=>(σ[j]?).join) h2) λ v h3=>v=f y/\Ex h2 h3) :
  WR (Qx it 1 js (gNm 0) JB e σ h0) λ v h3=>v=.ref h.length/\∃g,h3=h++.lst (ys.map f)::g:=by
 obtain⟨J,h1,e1,q1,q2,rfl⟩:=hit.eq
 unfold Qx
 rw[e1]
 show WR (JS J.chk (gNm 0) JB e h1.length J.xs (Ze::js.map λ j=>(σ[j]?).join) (h1++[.lst []])) _
 rw[q1,q2]
 have lift:∀{h2:IH},(∀j ob,j≠h1.length->(h1++[IX.lst []])[j]?=Za ob->h2[j]?=Za ob)->∀j ob,h1[j]?=Za ob->h2[j]?=Za ob:=λ q j ob r=>q j ob (ZK (JF r)) (grow r)
 refine WR.mono (Jyg (f:=f) h1.length (acc:=[]) Ji (λ h2 q=>hc h2 (lift q)) (by simpa using hl) λ x hx h2 q=>he x hx h2 (lift q)) λ v h3 ⟨ev,g,eg⟩=>⟨ev,g,?_⟩
 rw[eg]
 simp
end
section
variable {k:Nat}{h:IH}{Q:IV->IH->Prop}{σ:ISt}
theorem Jix:bmOf "str" "split" 1=Za Ni:=by kernel_rfl
theorem Jiw:bmOf "str" "partition" 1=Za Nb:=by kernel_rfl
theorem Jrd:bmOf "str" "startswith" 1=Za Jmf:=by kernel_rfl
theorem Jjo {x y:Str}(hy:(y.length==0)=Zc)(hz:x.length+2<=sizeLine):WR (Ni (.str x) [.str y] h) Q=Q (.ref h.length) (h++[.lst ((Zad x y).map .str)]):=by
 have e:Ni (.str x) [.str y] h=.ok (.ref h.length) (h++[.lst ((Zad x y).map .str)]):=if_pos ⟨hy,hz⟩
 rw[e,Q0]
theorem Jjn {x y:Str}(hy:(y.length==0)=Zc)(hz:x.length<=sizeLine):WR (Nb (.str x) [.str y] h) Q=Q (.tup [.str (ZC x y).1,.str (ZC x y).2.1,.str (ZC x y).2.2]) h:=by
 have e:Nb (.str x) [.str y] h=.ok (.tup [.str (ZC x y).1,.str (ZC x y).2.1,.str (ZC x y).2.2]) h:=if_pos ⟨hy,hz⟩
 rw[e,Q0]
theorem Js5 (x y:Str):WR (Jmf (.str x) [.str y] h) Q=Q (.bl (ZbY x y)) h:=rfl
theorem Jz1 (x y:Str):WR (cInT (.str x) (.str y) h) Q=Q (.bl (Zbs y x)) h:=rfl
theorem Vv {x:Str}{n:Int}(e:ZbZ x=Za n)(hl:x.length<=640):WR (Q8 (.str x) h) Q=Q (.int n) h:=by
 have e:Q8 (.str x) h=.ok (.int n) h:=by
  show(if x.length<=640 then(match ZbZ x with|some n=>Res.ok (IV.int n) h|none=>.stuck) else .stuck)=_
  rw[if_pos hl,e]
 rw[e,Q0]
theorem Xl (i:Int):Zb (toString i)=tS i:=rfl
theorem Jjc (c:Nat):(one c).length=1:=rfl
def figB (c:Nat):Bool:=Zbs (Zb "0123456789") (one c)
def numB (w:Str):Bool:=decide (1<=w.length)&&decide (w.length<=60)&&w.cps.toList.all figB&&(decide (w=Zb "0")||!Txt.startswith w (one 48))
theorem Yg {w:Str}(hz':w.length<=sizeLine):WR (XM (k+1) [.str w] h) λ v h'=>v=.bl (numB w)/\Ex h h':=by
 have hb:=Jq
 rw[Jj4]
 by_cases a1:1<=w.length/\w.length<=60
 ·have a2:(1:Int)<=w.length:=by omega
  have a3:(w.length:Int)<=60:=by omega
  simp! [Jcy,hz',a2,a3,decide_true]
  refine WR.mono (QP (xs:=Qs w) (chk:=λ _=>True) (f:=λ v=>.bl (match v with|.str x=>Zbs (Zb "0123456789") x|_=>Zh)) (h:=h) ?_ ?_ (λ _ _=>trivial) ?_) ?_
  ·exact⟨rfl,rfl,rfl⟩
  ·have:(Qs w).length=w.length:=by simp[Qs,ZcB]
   omega
  ·intro v hv h2 _
   obtain⟨c,hc,rfl⟩:=ZR.mp hv
   simp! [Jdy,Jz1]
   exact .refl _
  rintro _ _ ⟨rfl,g,rfl⟩
  rw[all_map (f:=λ v=>(match v with|.str x=>Zbs (Zb "0123456789") x|_=>Zh)) JI,Q0]
  have al:((Qs w).all λ v=>(match v with|.str x=>Zbs (Zb "0123456789") x|_=>Zh))=w.cps.toList.all figB:=by
   unfold Qs
   rw[ZdN]
   rfl
  rw[al]
  have x1:Ex h (h++IX.lst ((Qs w).map λ v=>.bl (match v with|.str x=>Zbs (Zb "0123456789") x|_=>Zh))::g):=.cons _ _ _
  generalize h++IX.lst ((Qs w).map λ v=>IV.bl (match v with|.str x=>Zbs (Zb "0123456789") x|_=>Zh))::g=h1 at x1 ⊢
  have en:numB w=(w.cps.toList.all figB&&(decide (w=Zb "0")||!Txt.startswith w (one 48))):=by
   unfold numB
   rw[decide_eq_true a1.1,decide_eq_true a1.2]
   rfl
  rw[en]
  cases w.cps.toList.all figB with
  | false =>
   simp! [true_and]
   simpa using x1
  | true =>
   simp! [Jfb,decide_eq_true_eq,decide_eq_false_iff_not]
   by_cases hz':w=Zb "0"
   ·simp! [hz',decide_true]
    simpa using x1
   ·refine⟨λ e=>absurd e hz',λ _=>?_⟩
    rw[Qz (x:=w) (h1:=h1) rfl Jrd]
    simp! [Js5,Yf,hz',decide_false,Bool.false_or]
    have hz2:¬w=one 48:=Yf▸hz'
    exact⟨by simp[hz2],x1⟩
 ·have en:numB w=Zc:=by
   unfold numB
   rcases Classical.not_and_iff_not_or_not.mp a1 with z|z
   ·rw[decide_eq_false z];rfl
   ·rw[decide_eq_false z];simp
  rw[en]
  simp! [Jcy,hz']
  have a2:¬((1:Int)<=w.length/\(w.length:Int)<=60):=λ ⟨x,y⟩=>a1 ⟨by omega,by omega⟩
  by_cases a3:(1:Int)<=w.length
  ·have a4:¬(w.length:Int)<=60:=λ z=>a2 ⟨a3,z⟩
   simp[a3,a4,QW,Jlb,Jhw,Jld,Y0,Jhy,Jhx,Yz,Jk7,Jk9,Jhv,Jlc,Jk8,QK,Jr,Q0,Xr,X5,YM,Yt,Jq4,Nn,NR,Nz,NY,Jk5,NZ,Jht,XF,VD,Vg,Yy,XG,Np,NI,Nq,NP,NB,NQ,NS,Yx,Nv,Nl,NX,NM,NK,Nu,NJ,NU,Qy,NH,NF,Nx,Yv,Nr,NL,Nt,XH,No,Jhu,NN,Yu,NO,Ny,NA,Yw,NV,NC,NE,ND,NW,NG,Zby,Za6,Za2,Za3,ZaM,exists_eq_left,exists_eq_left',IV.bl.injEq,IV.int.injEq,IV.ref.injEq,IV.str.injEq,IX.lst.injEq,IV.tup.injEq,ZH,ZW,ZV,reduceCtorEq,eq_self,true_implies,false_implies,implies_true,and_true,true_and,and_false,false_and,ZQ,ZL,ZD,Qk,Qg,Ql,Qh,Qi,Qj,JM,JL,J6,JH,JT,JP,JY,Qn,JQ,JN,JO,JR,JW,Qq,Qo,Qp,Ex.refl]
  ·simp[a3,QW,Jlb,Jhw,Jld,Y0,Jhy,Jhx,Yz,Jk7,Jk9,Jhv,Jlc,Jk8,QK,Jr,Q0,Xr,X5,YM,Yt,Jq4,Nn,NR,Nz,NY,Jk5,NZ,Jht,XF,VD,Vg,Yy,XG,Np,NI,Nq,NP,NB,NQ,NS,Yx,Nv,Nl,NX,NM,NK,Nu,NJ,NU,Qy,NH,NF,Nx,Yv,Nr,NL,Nt,XH,No,Jhu,NN,Yu,NO,Ny,NA,Yw,NV,NC,NE,ND,NW,NG,Zby,Za6,Za2,Za3,ZaM,exists_eq_left,exists_eq_left',IV.bl.injEq,IV.int.injEq,IV.ref.injEq,IV.str.injEq,IX.lst.injEq,IV.tup.injEq,ZH,ZW,ZV,reduceCtorEq,eq_self,true_implies,false_implies,implies_true,and_true,true_and,and_false,false_and,ZQ,ZL,ZD,Qk,Qg,Ql,Qh,Qi,Qj,JM,JL,J6,JH,JT,JP,JY,Qn,JQ,JN,JO,JR,JW,Qq,Qo,Qp,Ex.refl]
theorem VS {i:Int}(q:Sm i):numB (tS i)=Zh:=by
 have l:=q.len
 unfold numB
 rw[decide_eq_true l.1,decide_eq_true l.2,show((tS i).cps.toList.all figB)=Zh from Zab.mpr λ c hc=>Jus (q.dig c hc)]
 by_cases z:tS i=Zb "0"
 ·rw[decide_eq_true z];rfl
 ·rw[decide_eq_false z,Jwh q z];rfl
end
section
variable {k:Nat}{h:IH}
theorem upN {N:ISt->IH->Prop}{R:IV->IH->Prop}{σ:ISt}{h1:IH}{t c:Str}(x:Ex h h1):WSE (JZ c (Ja (eC (.str t)) Jd) σ h1) N R λ n _ h'=>(∃c fs,h'[n]?=Za (.exc c fs))/\Exn c h n h':=by
 have hb:=Jq
 rw[Jhz,QA,we_c,Vf]
 exact⟨by simp;omega,⟨_,_,Ji⟩,Ji,x.trans (.one _ _),x.len⟩
theorem Jmx (x y:Str):(ZC x y).1.length<=x.length/\(ZC x y).2.2.length<=x.length:=by
 have e:∀i j,(ZaG x i j).length<=x.length:=λ i j=>by
  show(ZaG x i j).cps.size<=x.cps.size
  rw[<- Za1,<-Za1,Zbz]
  simp
  omega
 unfold ZC
 split
 ·exact⟨e _ _,e _ _⟩
 ·exact⟨Zu _,Zar _⟩
def Vp (r:Str):Bool:=numB (ZC r (one 45)).1&&numB (ZC r (one 45)).2.2
def QE (w:Str):Bool:=Vp (ZC w (one 58)).2.2
theorem Jpi {w:Str}(hz:w.length<=1000)(e:QE w=Zc):WE (Jcx (k+2) [.str w] h) (λ _ _=>False) (Exn "NoText" h):=by
 have hb:=Jq
 have p1:=Jmx w (one 58)
 have p2:=Jmx (ZC w (one 58)).2.2 (one 45)
 rw[Jgr]
 refine QV ?_
 rw[Jc2,Jw,Xv]
 refine WE.of ?_
 rw[Qz (x:=w) (h1:=h) rfl Jiw]
 simp! [Ji1]
 rw[Jjn (by rfl) (by omega),Jc3,Jw,Xv]
 refine WE.of ?_
 rw[Qz (x:=(ZC w (one 58)).2.2) (h1:=h) (by rfl) Jiw]
 simp! [Jlp]
 rw[Jjn (by rfl) (by omega),Jc4,Jw,JG]
 refine WE.of ?_
 simp! [true_and]
 refine WR.mono (Yg (k:=k) (by omega)) ?_
 rintro _ h1 ⟨rfl,x1⟩
 unfold QE Vp at e
 cases q:numB (ZC (ZC w (one 58)).2.2 (one 45)).1 with
 | false =>
  simp! [true_and]
  exact upN x1
 | true =>
  simp! [true_and]
  refine WR.mono (Yg (k:=k) (by omega)) ?_
  rintro _ h2 ⟨rfl,x2⟩
  rw[q,Zev] at e
  rw[e]
  simp! [true_and]
  exact upN (x1.trans x2)
structure HdW (a:Hd):Prop where
 nc:58∉a.1.cps.toList
 nb:32∉a.1.cps.toList
 le:a.1.length<=16
 lo:Sm a.2.1
 hi:Sm a.2.2
theorem HdW.len {a:Hd}(q:HdW a):(hT a).length<=138:=by
 have a1:=q.le
 have a2:=q.lo.len
 have a3:=q.hi.len
 unfold hT
 rw[Zx,Zx,Zx,Zx,Jjc,Jjc]
 omega
theorem Juy (a:Hd):hT a=a.1++one 58++(tS a.2.1++one 45++tS a.2.2):=by
 unfold hT
 simp only[QL]
theorem HdW.free {a:Hd}(q:HdW a):32∉(hT a).cps.toList:=by
 unfold hT
 simp only[Jz,Q3,Zr,Z3]
 rintro((((z|z)|z)|z)|z)
 ·exact q.nb z
 ·omega
 ·have:=q.lo.dig _ z;omega
 ·omega
 ·have:=q.hi.dig _ z;omega
theorem Jmo {a:Hd}(q:HdW a):WR (Jcx (k+2) [.str (hT a)] h) λ v h'=>v=tupH a/\Ex h h':=by
 have hb:=Jq
 have hl:=q.len
 have a2:=q.lo.len
 have a3:=q.hi.len
 have l2:(tS a.2.1++one 45++tS a.2.2).length<=sizeLine:=by
  rw[Zx,Zx,Jjc]
  omega
 have e1:ZC (hT a) (one 58)=(a.1,one 58,tS a.2.1++one 45++tS a.2.2):=by rw[Juy];exact Jg5 q.nc
 have e2:ZC (tS a.2.1++one 45++tS a.2.2) (one 45)=(tS a.2.1,one 45,tS a.2.2):=Jg5 λ z=>by have:=q.lo.dig _ z;omega
 rw[Jgr]
 simp! [Jc2]
 rw[Qz (x:=hT a) (h1:=h) rfl Jiw]
 simp! [Ji1]
 rw[Jjn (by rfl) (by omega),e1]
 simp! [Jc3]
 rw[Qz (x:=tS a.2.1++one 45++tS a.2.2) (h1:=h) (by rfl) Jiw]
 simp! [Jlp]
 rw[Jjn (by rfl) l2,e2]
 simp! [Jc4]
 refine WR.mono (Yg (k:=k) (by omega)) ?_
 rintro _ h1 ⟨rfl,x1⟩
 rw[VS q.lo]
 simp! [true_and]
 refine WR.mono (Yg (k:=k) (by omega)) ?_
 rintro _ h2 ⟨rfl,x2⟩
 rw[VS q.hi]
 simp! [Jfo]
 rw[Vv q.lo.int (by omega),Vv q.hi.int (by omega)]
 simp! [Z0,Zal,tupH]
 exact⟨by omega,x1.trans x2⟩
end
section
variable {k:Nat}{h:IH}{ws:List Str}
structure Ws (ws:List Str):Prop where
 ne:ws≠[]
 free:∀p∈ws,32∉p.cps.toList
 len:∀p∈ws,p.length<=140
 few:ws.length<=20
def TW (ws:List Str):Str:=ZT (one 32) ws
theorem Jws (q:Ws ws):Y8 (k+1) [.str (TW ws)] h=.ok (.ref h.length) (h++[.lst (ws.map .str)]):=by
 refine Qt ?_
 have hb:=Jq
 have jl:=Jr2 (one 32) rfl ws q.len
 have:=q.few
 rw[Jhh]
 simp! [Jdx]
 rw[Qz (x:=TW ws) (h1:=h) rfl Jix]
 simp! [Jm2]
 rw[Jjo (by rfl) (by show(ZT (one 32) _).length+2<=_;omega),show Zad (TW ws) (one 32)=ws from Jef q.ne q.free]
 exact⟨rfl,rfl⟩
theorem _root_.L4.WSE.imp {r:SRes}{N:ISt->IH->Prop}{R:IV->IH->Prop}{Y Y':Nat->ISt->IH->Prop}(w:WSE r N R Y)(hy:∀n σ h,Y n σ h->Y' n σ h):WSE r N R Y':=by
 cases r with
 | exc n σ h=>exact hy _ _ _ w
 | _=>exact w
theorem Jtv {it:I1}{σ:ISt}{h0:IH}{e:E1}{js:List Nat}{xs:List Str}{O:Nat}(hl:∀p∈xs,p.length<=sizeLine)(hf:xs.length<sizeLine)(hO:h[O]?=Za (.lst (xs.map .str)))
  (hit:WR (it σ h0) λ J h1=>J.xs=xs.map .str/\(J.chk=λ h'=>h'[O]?=Za (.lst (xs.map .str)))/\h1=h)(he:∀(w:Str)(h2:IH),w.length<=sizeLine->WR (e (Za (.str w)::js.map λ j=>(σ[j]?).join) h2) λ v h3=>v=.bl (numB w)/\Ex h2 h3) :
  WR (J7 it 1 js (gNm 0) JB e σ h0) λ v h'=>allI v h'=.ok (.bl (xs.all numB)) h'/\Ex h h':=by
 refine WR.mono (QP (h:=h) (xs:=xs.map .str) (chk:=λ h'=>h'[O]?=Za (.lst (xs.map .str))) (f:=λ v=>.bl (match v with|.str w=>numB w|_=>Zh)) hit (by rwa [Zo]) (λ h' z=>z _ _ hO) ?_) ?_
 ·intro v hv h2 _
  obtain⟨w,hw,rfl⟩:=ZR.mp hv
  exact he w h2 (hl w hw)
 rintro _ _ ⟨rfl,g,rfl⟩
 refine⟨(all_map (f:=λ v=>(match v with|.str w=>numB w|_=>Zh)) JI).trans ?_,.cons _ _ _⟩
 rw[ZdN]
 rfl
def topB (ws:List Str):Bool:=decide (5<=ws.length)&&((ws.take 5).drop 1).all numB
theorem Jna (q:Ws ws){N:ISt->IH->Prop}{R:IV->IH->Prop}{Z:Nat->ISt->IH->Prop}(no:topB ws=Zc->∀n σ h',((∃c fs,h'[n]?=Za (.exc c fs))/\Exn "NoText" h n h')->Z n σ h')
  (yes:topB ws=Zh->∀W h2,Ex h h2->h2[W]?=Za (.lst (ws.map .str))->WSE (Ja8 (k+5) [Za (.str (TW ws)),Za (.ref W),Ze] h2) N R Z) :
  WSE (Ja7 (k+5) [Za (.str (TW ws)),Ze,Ze] h) N R Z:=by
 have hb:=Jq
 have few:=q.few
 rw[Ja7,Jw,JG]
 refine WE.of ?_
 simp! [true_and]
 rw[Q5,Jfp,Jw,Xv]
 refine WE.of ?_
 simp! [Jws q]
 have x1:Ex h (h++[IX.lst (ws.map .str)]):=.one _ _
 have g1:(h++[IX.lst (ws.map .str)])[h.length]?=Za (.lst (ws.map .str)):=Ji
 generalize h++[IX.lst (ws.map .str)]=h1 at x1 g1 ⊢
 generalize h.length=W at g1 ⊢
 rw[Jfq,Jw,JG]
 refine WE.of ?_
 simp! [VE,g1,Zo]
 by_cases hl:ws.length<5
 ·rw[decide_eq_true (by omega:(ws.length:Int)<5)]
  refine⟨λ _=>?_,λ e=>by cases e⟩
  exact WSE.imp (upN x1) (no (by unfold topB;rw[decide_eq_false (by omega)];rfl))
 ·rw[decide_eq_false (by omega:¬(ws.length:Int)<5)]
  refine⟨λ e=>(Zy e).elim,λ _=>?_⟩
  have ec:cutI (ws.map IV.str) (Za 1) (Za 5)=((ws.take 5).drop 1).map IV.str:=by
   rw[show(Za (1:Int))=Za ((1:Nat):Int) from rfl,show(Za (5:Int))=Za ((5:Nat):Int) from rfl,Jum,ZbO,Zb9]
  have sub:∀p∈(ws.take 5).drop 1,p∈ws:=λ p hp=>Za5 (ZaR hp)
  refine WR.mono (Jtv (h:=h1++[IX.lst (((ws.take 5).drop 1).map IV.str)]) (xs:=(ws.take 5).drop 1) (O:=h1.length) (λ p hp=>by have:=q.len p (sub p hp);omega) (by simp;omega) Ji ?_ ?_) ?_
  ·simp! [Vw,g1,ec,QB,Ji]
  ·intro w h2 hw
   simp! [Jd2]
   exact Yg (k:=k+4) (by omega)
  rintro v h2 ⟨ea,x2⟩
  rw[ea,Q0]
  have x2:Ex h1 h2:=(Ex.one _ _).trans x2
  have et:topB ws=((ws.take 5).drop 1).all numB:=by
   unfold topB
   rw[decide_eq_true (by omega)]
   rfl
  rw[et] at no yes
  cases eb:((ws.take 5).drop 1).all numB with
  | false =>
   simp! [true_and]
   exact WSE.imp (upN (x1.trans x2)) (no eb)
  | true =>
   simp! [true_and]
   rw[Q5]
   exact yes eb W h2 (x1.trans x2) (x2.get g1)
theorem Jwt (q:Ws ws)(b:topB ws=Zc∨((∃w∈ws.drop 5,QE w=Zc)/\∀w∈ws.drop 5,QE w=Zc∨∃a,HdW a/\w=hT a)) :
  WE (Xz (k+6) [.str (TW ws)] h) (λ _ _=>False) (Exn "NoText" h):=by
 have hb:=Jq
 have few:=q.few
 rw[Jd7]
 refine QV ?_
 refine Jna q (λ _ _ _ _ z=>z) λ ht W h2 x2 gW=>?_
 rcases b with b|⟨⟨w,hw,bw⟩,bh⟩
 ·rw[ht] at b;cases b
 rw[Ja8,Jw,Xv]
 have e5:cutI (ws.map IV.str) (Za 5) Ze=(ws.drop 5).map IV.str:=by
  rw[show(Za (5:Int))=Za ((5:Nat):Int) from rfl,XU,ZbO]
 refine WE.mono (Jwn (h:=h2++[IX.lst ((ws.drop 5).map IV.str)]) (xs:=(ws.drop 5).map IV.str) (chk:=λ h'=>h'[h2.length]?=Za (.lst ((ws.drop 5).map IV.str))) (bad:=λ v=>∀w,v=.str w->QE w=Zc) (c:="NoText") ?_ (by simp;omega) (λ h' z=>z _ _ Ji) ?_ ⟨.str w,ZR.mpr ⟨w,hw,rfl⟩,λ w' e=>by cases e;exact bw⟩) (λ _ _ z=>z.elim) ?_
 ·simp! [Vw,gW,e5,QB,Ji]
 ·intro v hv h3 _
  obtain⟨w,hw,rfl⟩:=ZR.mp hv
  have lw:w.length<=140:=q.len w (ZaR hw)
  rw[Jbn,Xq,QA]
  refine WE.of ?_
  simp! [true_and]
  rw[Vf]
  rcases bh w hw with e|⟨a,qa,rfl⟩
  ·exact WE.mono (Jpi (k:=k+3) (by omega) e) (λ _ _ z=>z.elim) λ _ _ z=>z
  ·cases e:QE (hT a) with
   | false=>exact WE.mono (Jpi (k:=k+3) (by omega) e) (λ _ _ z=>z.elim) λ _ _ z=>z
   | true=>exact WE.of (WR.mono (Jmo (k:=k+3) qa) λ _ _ z=>⟨λ y=>(by rw[y _ rfl] at e;cases e),z.2⟩)
 ·intro n h3 z
  have z:Exn "NoText" h n h3:=(z.ex (.one _ _)).ex x2
  exact⟨⟨_,_,z.1⟩,z⟩
def wsX (name:Str)(gap len due late:Int)(hs:List Hd):List Str:=name::tS gap::tS len::tS due::tS late::hs.map hT
structure WkX (name:Str)(gap len due late:Int)(hs:List Hd):Prop where
 nb:32∉name.cps.toList
 nl:name.length<=20
 g:Sm gap
 l:Sm len
 d:Sm due
 t:Sm late
 hw:∀a∈hs,HdW a
 few:hs.length<=10
theorem WkX.ok {name:Str}{gap len due late:Int}{hs:List Hd}(q:WkX name gap len due late hs):Ws (wsX name gap len due late hs):=by
 have nf:∀{i:Int},Sm i->32∉(tS i).cps.toList:=λ q z=>by have:=q.dig _ z;omega
 have nl:∀{i:Int},Sm i->(tS i).length<=140:=λ q=>by have:=q.len;omega
 refine⟨by simp[wsX],λ p hp=>?_,λ p hp=>?_,by have:=q.few;simp[wsX];omega⟩
 ·simp only[wsX,Zt] at hp
  rcases hp with rfl|rfl|rfl|rfl|rfl|hp
  ·exact q.nb
  ·exact nf q.g
  ·exact nf q.l
  ·exact nf q.d
  ·exact nf q.t
  ·obtain⟨a,ha,rfl⟩:=ZR.mp hp
   exact(q.hw a ha).free
 ·simp only[wsX,Zt] at hp
  rcases hp with rfl|rfl|rfl|rfl|rfl|hp
  ·have:=q.nl;omega
  ·exact nl q.g
  ·exact nl q.l
  ·exact nl q.d
  ·exact nl q.t
  ·obtain⟨a,ha,rfl⟩:=ZR.mp hp
   have:=(q.hw a ha).len;omega
theorem Jk3 {name:Str}{gap len due late:Int}{hs:List Hd}(q:WkX name gap len due late hs){Q:IV->IH->Prop}{Z:Nat->IH->Prop}
  (fin:∀O h3,Ex h h3->h3[O]?=Za (.lst (hs.map tupH))->WE (VY (k+5) [.ref h3.length,.str name,.int gap,.int len,.int due,.int late,.ref O] (h3++[.ins "Work" []])) (λ r h'=>r=.non/\Q (.ref h3.length) h') λ n h'=>(∃c fs,h'[n]?=Za (.exc c fs))/\Z n h') :
  WE (Xz (k+6) [.str (TW (wsX name gap len due late hs))] h) Q Z:=by
 have hb:=Jq
 have few:=q.few
 rw[Jd7]
 refine QV ?_
 have ht:topB (wsX name gap len due late hs)=Zh:=by
  unfold topB
  rw[decide_eq_true (by simp[wsX])]
  simp[wsX,VS q.g,VS q.l,VS q.d,VS q.t]
 refine Jna q.ok (λ e=>by rw[ht] at e;cases e) λ _ W h2 x2 gW=>?_
 rw[Ja8,Jw,Xv]
 refine WE.of ?_
 have e5:cutI ((wsX name gap len due late hs).map IV.str) (Za 5) Ze=hs.map λ a=>IV.str (hT a):=by
  rw[show(Za (5:Int))=Za ((5:Nat):Int) from rfl,XU]
  show(hs.map hT).map IV.str=_
  rw[ZdS]
  rfl
 refine WR.mono (Jud (h:=h2++[IX.lst (hs.map λ a=>IV.str (hT a))]) (ys:=hs) (u:=λ a=>IV.str (hT a)) (f:=tupH) (chk:=λ h'=>h'[h2.length]?=Za (.lst (hs.map λ a=>IV.str (hT a)))) ?_ (by omega) (λ h' z=>z _ _ Ji) ?_) ?_
 ·simp! [Vw,gW,e5,QB,Ji]
 ·intro a ha h3 _
  simp! [Jbn]
  exact Jmo (k:=k+3) (q.hw a ha)
 rintro _ _ ⟨rfl,g3,rfl⟩
 have x3:Ex h2 (h2++[IX.lst (hs.map λ a=>IV.str (hT a))]++IX.lst (hs.map tupH)::g3):=(Ex.one _ _).trans (.cons _ _ _)
 have g3':(h2++[IX.lst (hs.map λ a=>IV.str (hT a))]++IX.lst (hs.map tupH)::g3)[(h2++[IX.lst (hs.map λ a=>IV.str (hT a))]).length]?=Za (.lst (hs.map tupH)):=JI
 generalize (h2++[IX.lst (hs.map λ a=>IV.str (hT a))]).length=O at g3' ⊢
 generalize h2++[IX.lst (hs.map λ a=>IV.str (hT a))]++IX.lst (hs.map tupH)::g3=h3 at x3 g3' ⊢
 have gW3:=x3.get gW
 have w0:atI ((wsX name gap len due late hs).map IV.str) 0=Za (.str name):=JQ
 have w1:atI ((wsX name gap len due late hs).map IV.str) 1=Za (.str (tS gap)):=JN
 have w2:atI ((wsX name gap len due late hs).map IV.str) 2=Za (.str (tS len)):=JO
 have w3:atI ((wsX name gap len due late hs).map IV.str) 3=Za (.str (tS due)):=JR
 have w4:atI ((wsX name gap len due late hs).map IV.str) 4=Za (.str (tS late)):=JW
 have n1:=λ (h:IH)(Q:IV->IH->Prop)=>Vv (h:=h) (Q:=Q) q.g.int (by have:=q.g.len;omega)
 have n2:=λ (h:IH)(Q:IV->IH->Prop)=>Vv (h:=h) (Q:=Q) q.l.int (by have:=q.l.len;omega)
 have n3:=λ (h:IH)(Q:IV->IH->Prop)=>Vv (h:=h) (Q:=Q) q.d.int (by have:=q.d.len;omega)
 have n4:=λ (h:IH)(Q:IV->IH->Prop)=>Vv (h:=h) (Q:=Q) q.t.int (by have:=q.t.len;omega)
 rw[Jfr,Jh0,Jwp]
 refine WE.of ?_
 simp! [J4,gW3,w0,w1,w2,w3,w4,n1,n2,n3,n4]
 exact fin O h3 (x2.trans x3) g3'
end
section
variable {k:Nat}{h:IH}
theorem Jwr {p:Str}(hz:p.length+2<=sizeLine):Y8 (k+1) [.str p] h=.ok (.ref h.length) (h++[.lst ((Zad p (one 32)).map .str)]):=by
 refine Qt ?_
 rw[Jhh]
 simp! [Jdx]
 rw[Qz (x:=p) (h1:=h) rfl Jix]
 simp! [Jm2]
 rw[Jjo (by rfl) hz]
 exact⟨rfl,rfl⟩
def Qu (p:Str):Bool:=decide ((Zad p (one 32)).length=4)&&((Zad p (one 32)).drop 1).all numB
theorem Jmj {p:Str}(hz:p.length+2<=sizeLine):WE (Jas (k+2) [.str p] h) (λ v h'=>Qu p=Zh/\v=.ref h.length/\h'[h.length]?=Za (.lst ((Zad p (one 32)).map .str))/\Ex h h') (λ n h'=>Qu p=Zc/\Exn "NoText" h n h'):=by
 have hb:=Jq
 have sl:∀w∈Zad p (one 32),w.length<=p.length:=λ w hw=>Jm3 hw
 have sm:=Jim (t:=p) (y:=one 32) (Zu 1)
 rw[Jf1]
 refine QV ?_
 rw[Jbi,Jw,Xv]
 refine WE.of ?_
 simp! [Jwr hz]
 unfold Qu
 generalize Zad p (one 32)=ws at sl sm ⊢
 have x1:Ex h (h++[IX.lst (ws.map .str)]):=.one _ _
 have g1:(h++[IX.lst (ws.map .str)])[h.length]?=Za (.lst (ws.map .str)):=Ji
 generalize h++[IX.lst (ws.map .str)]=h1 at x1 g1 ⊢
 rw[Jbj,Jw,JG]
 refine WE.of ?_
 simp! [VE,g1,Zo]
 have up:∀{N:ISt->IH->Prop}{R:IV->IH->Prop}{σ:ISt}{h1:IH}{t:Str},Ex h h1->(decide (ws.length=4)&&(ws.drop 1).all numB)=Zc->WSE (JZ "NoText" (Ja (eC (.str t)) Jd) σ h1) N R λ n _ h'=>(∃c fs,h'[n]?=Za (.exc c fs))/\(decide (ws.length=4)&&(ws.drop 1).all numB)=Zc/\Exn "NoText" h n h' :=
  λ x e=>WSE.imp (upN x) λ n σ h' z=>⟨z.1,e,z.2⟩
 by_cases hl:ws.length=4
 ·rw[decide_eq_true (by omega:(ws.length:Int)=4)]
  refine⟨λ e=>by simp at e,λ _=>?_⟩
  have ec:cutI (ws.map IV.str) (Za 1) Ze=(ws.drop 1).map IV.str:=by
   rw[show(Za (1:Int))=Za ((1:Nat):Int) from rfl,XU,ZbO]
  refine WR.mono (Jtv (h:=h1++[IX.lst ((ws.drop 1).map IV.str)]) (xs:=ws.drop 1) (O:=h1.length) (λ p hp=>by have:=sl p (ZaR hp);omega) (by simp;omega) Ji ?_ ?_) ?_
  ·simp! [Vw,g1,ec,QB,Ji]
  ·intro w h2 hw
   simp! [Jaz]
   exact Yg (k:=k) hw
  rintro v h2 ⟨ea,x2⟩
  rw[ea,Q0]
  have x2:Ex h1 h2:=(Ex.one _ _).trans x2
  rw[decide_eq_true hl,Zev] at up
  rw[decide_eq_true hl,Zev]
  cases eb:(ws.drop 1).all numB with
  | false =>
   simp! [true_and]
   exact upN (x1.trans x2)
  | true =>
   simp! [true_and]
   rw[Q5,Jbk,Jh0]
   refine WE.of ?_
   simp! [true_and]
   exact⟨x2.get g1,x1.trans x2⟩
 ·rw[decide_eq_false (by omega:¬(ws.length:Int)=4)]
  refine⟨λ _=>?_,λ e=>by simp at e⟩
  refine up x1 ?_
  rw[decide_eq_false hl]
  rfl
theorem Jl5 {D:Nat}{t:Str}(hn:¬t=Zb ""){N:ISt->IH->Prop}{R:IV->IH->Prop}{Z:Nat->ISt->IH->Prop}(go:WSE (YE (k+3) [Za (.ref D),Za (.str t),Ze] h) N R Z):WSE (YD (k+3) [Za (.ref D),Za (.str t),Ze] h) N R Z:=by
 rw[YD,Jw,JG]
 refine WE.of ?_
 simp! [true_and]
 rw[Q5,Jdw,Jw,JG]
 refine WE.of ?_
 simp! [decide_eq_true_eq,decide_eq_false_iff_not]
 refine⟨λ e=>absurd e hn,λ _=>?_⟩
 rw[Q5]
 exact go
theorem Jt1 {D:Nat}{t:Str}(hz:t.length+2<=sizeLine):WR (iAny (Jp (pg (k+3)) "split" 1 (Jb 1) (Ja (eC (.str "; ")) Jd)) [Za (.ref D),Za (.str t),Ze] h) λ J h1=>J.xs=(Zad t sc).map IV.str/\(J.chk=λ h'=>h'[h.length]?=Za (.lst ((Zad t sc).map IV.str)))/\h1=h++[IX.lst ((Zad t sc).map IV.str)]:=by
 simp! [true_and]
 rw[Qz (x:=t) (h1:=h) rfl Jix]
 simp! [Yi]
 rw[Jjo (by rfl) hz]
 simp only[QB,Ji,exists_eq_left,exists_eq_left',IV.bl.injEq,IV.int.injEq,IV.ref.injEq,IV.str.injEq,IX.lst.injEq,IV.tup.injEq,ZH,ZW,ZV,reduceCtorEq,eq_self,true_implies,false_implies,implies_true,and_true,true_and,and_false,false_and,ZQ,ZL,ZD,Qk,Qg,Ql,Qh,Qi,Qj,JM,JL,J6,JH,JT,JP,JY,Qn,JQ,JN,JO,JR,JW,Qq,Qo,Qp]
theorem Jy9 {D:Nat}{t:Str}(hn:¬t=Zb "")(hz:t.length+2<=100000)(b:∃p∈Zad t sc,Qu p=Zc):WE (VF (k+4) [.ref D,.str t] h) (λ _ _=>False) (Exn "NoText" h):=by
 have hb:=Jq
 have sm:=Jim (t:=t) (y:=sc) (by decide)
 rw[YO]
 refine QV (Jl5 hn ?_)
 rw[YE,Jw,Xv]
 obtain⟨p,hp,bp⟩:=b
 refine WE.mono (Jwn (bad:=λ v=>∀p,v=.str p->Qu p=Zc) (c:="NoText") (Jt1 (by omega)) (by rw[Zo];omega) (λ h' z=>z _ _ Ji) ?_ ⟨.str p,ZR.mpr ⟨p,hp,rfl⟩,λ p' e=>by cases e;exact bp⟩) (λ _ _ z=>z.elim) ?_
 ·intro v hv h3 _
  obtain⟨w,hw,rfl⟩:=ZR.mp hv
  have:=Jm3 hw
  rw[Jci,Xq,QA]
  refine WE.of ?_
  simp! [true_and]
  rw[Vf]
  exact WE.mono (Jmj (k:=k+1) (by omega)) (λ _ _ z=>⟨λ y=>(by have:=y _ rfl;rw[z.1] at this;cases this),z.2.2.2⟩) λ _ _ z=>z.2
 ·intro n h3 z
  have z:Exn "NoText" h n h3:=z.ex (.one _ _)
  exact⟨⟨_,_,z.1⟩,z⟩
def Du (h:IH)(D:Nat)(ds:List WD):Prop:=∃vs,h[D]?=Za (.ins "Duty" (dfs vs))/\AllW h vs ds
theorem Du.kp {h h':IH}{D:Nat}{ds:List WD}(k:Kp h h')(w:Du h D ds):Du h' D ds:=let ⟨vs,a,b⟩:=w;⟨vs,k _ _ a,b.kp k⟩
theorem dln {a:IV}:(([("works",a)]:List (Str×IV))).lookup ("number_of":Str)=Ze:=by kernel_rfl
theorem Jl3 {D:Nat}{x:Str}{ds:List WD}(hd:Du h D ds):WE (Ja0 (k+1) [.ref D,.str x] h) (λ _ h'=>(∃d∈ds,d.name=x)/\Ex h h') (λ n h'=>(∀d∈ds,d.name≠x)/\Exn "NoName" h n h'):=by
 have hb:=Jq
 obtain⟨vs,gD,w⟩:=hd
 have wl:=w.len
 rw[Jgd]
 refine QV ?_
 rw[Jbq,Jw,JG]
 refine WE.of ?_
 simp! [true_and]
 rw[Jw0]
 refine WE.of ?_
 simp! [QI gD,dl0,Js4]
 refine Js7 (λ m σ h'=>h=h'/\(∀j (hj:j<ds.length),j<m->(ds[j]).name≠x)/\∃a2 a3,σ=[Za (.ref D),Za (.str x),a2,a3]) (λ _ _ _ _=>trivial) ?_ ?_ ⟨rfl,λ _ _ z=>absurd z (Nat.not_lt_zero _),_,_,rfl⟩
 ·rintro m hm _ _ ⟨rfl,ma,a2,a3,rfl⟩
  rw[V3] at hm
  rw[Jlr]
  have hm':m<ds.length:=by omega
  obtain⟨j,hs,ej,gj⟩:=w.at_ m _ _ (Zn hm) (Zn hm')
  simp! [Jla,Jq5,Jq6,Z0,Zal]
  rw[Jbo,JG]
  refine WE.of ?_
  simp! [ej,QI gj,fl0,decide_eq_true_eq,decide_eq_false_iff_not]
  refine⟨λ e=>?_,λ e=>?_⟩
  ·rw[Jh0]
   refine WE.of ?_
   simp! [true_and]
   exact⟨⟨ds[m],ZS hm',e⟩,.refl _⟩
  ·rw[Q5]
   refine⟨rfl,λ j hj jm=>?_,_,_,rfl⟩
   by_cases z:j=m
   ·subst z
    exact e
   ·exact ma j hj (by omega)
 ·rintro _ _ ⟨rfl,ma,a2,a3,rfl⟩
  rw[V3] at ma
  rw[Jbr]
  refine WSE.imp (upN (.refl _)) λ n σ h' z=>⟨z.1,λ d hd=>?_,z.2⟩
  obtain⟨i,hi,rfl⟩:=ZaB.mp hd
  exact ma i hi (by omega)
structure PQ where
 name:Str
 come:Int
 late:Int
 len:Int
structure PQ.Ok (c:PQ):Prop where
 nb:32∉c.name.cps.toList
 ns:59∉c.name.cps.toList
 nl:c.name.length<=20
 sc:Sm c.come
 st:Sm c.late
 sl:Sm c.len
def wQ (c:PQ):List Str:=[c.name,tS c.come,tS c.late,tS c.len]
def pQ (c:PQ):Str:=TW (wQ c)
theorem PQ.Ok.w {c:PQ}(q:c.Ok):Ws (wQ c):=by
 have nf:∀{i:Int},Sm i->32∉(tS i).cps.toList:=λ q z=>by have:=q.dig _ z;omega
 have nl:∀{i:Int},Sm i->(tS i).length<=140:=λ q=>by have:=q.len;omega
 refine⟨by simp[wQ],λ p hp=>?_,λ p hp=>?_,by simp[wQ]⟩
 ·simp only[wQ,Zt,Z9,or_false] at hp
  rcases hp with rfl|rfl|rfl|rfl
  ·exact q.nb
  ·exact nf q.sc
  ·exact nf q.st
  ·exact nf q.sl
 ·simp only[wQ,Zt,Z9,or_false] at hp
  rcases hp with rfl|rfl|rfl|rfl
  ·have:=q.nl;omega
  ·exact nl q.sc
  ·exact nl q.st
  ·exact nl q.sl
theorem PQ.Ok.split {c:PQ}(q:c.Ok):Zad (pQ c) (one 32)=wQ c:=Jef q.w.ne q.w.free
theorem PQ.Ok.good {c:PQ}(q:c.Ok):Qu (pQ c)=Zh:=by
 unfold Qu
 rw[q.split]
 simp[wQ,VS q.sc,VS q.st,VS q.sl]
theorem PQ.Ok.len {c:PQ}(q:c.Ok):(pQ c).length<=250:=by
 have a1:=q.nl
 have a2:=q.sc.len
 have a3:=q.st.len
 have a4:=q.sl.len
 show(ZT (one 32) (wQ c)).length<=250
 rw[show ZT (one 32) (wQ c)=ZJ (one 32) (wQ c) from ZU _ _]
 unfold wQ
 rw[JU,JU,JU]
 show(c.name++one 32++(tS c.come++one 32++(tS c.late++one 32++tS c.len))).length<=250
 simp only[Zx,Jjc]
 omega
theorem pQ_l (c:PQ):(pQ c).cps.toList=c.name.cps.toList++32::((tS c.come).cps.toList++32::((tS c.late).cps.toList++32::(tS c.len).cps.toList)):=by
 show(ZT (one 32) (wQ c)).cps.toList=_
 rw[show ZT (one 32) (wQ c)=ZJ (one 32) (wQ c) from ZU _ _]
 unfold wQ
 rw[V6,V6,V6]
 rfl
theorem PQ.Ok.noSc {c:PQ}(q:c.Ok):59∉(pQ c).cps.toList:=by
 rw[pQ_l]
 simp only[Zr,Zt]
 rintro(z|z|z|z|z|z|z)
 ·exact q.ns z
 ·omega
 ·have:=q.sc.dig _ z;omega
 ·omega
 ·have:=q.st.dig _ z;omega
 ·omega
 ·have:=q.sl.dig _ z;omega
def tQ (cs:List PQ):Str:=ZT sc (cs.map pQ)
theorem Jsy {cs:List PQ}(q:∀c∈cs,c.Ok)(hn:cs≠[]):Zad (tQ cs) sc=cs.map pQ :=
 Jf6 (by simpa using hn) λ p hp=>by obtain⟨c,hc,rfl⟩:=ZR.mp hp;exact .of (q c hc).noSc
theorem Jkl {D:Nat}{cs:List PQ}(q:∀c∈cs,c.Ok)(hn:cs≠[])(hl:cs.length<=40){N:ISt->IH->Prop}{R:IV->IH->Prop}{Z:Nat->ISt->IH->Prop}
  (go:∀W ys h3,Ex h h3->h3[W]?=Za (.lst ys)->(∀v∈ys,∃c∈cs,∃r:Nat,v=.ref r/\h3[r]?=Za (.lst ((wQ c).map .str)))->(∀c∈cs,∃r:Nat,.ref r∈ys/\h3[r]?=Za (.lst ((wQ c).map .str)))->ys.length<=40 ->
   WSE (Jcb (k+3) [Za (.ref D),Za (.str (tQ cs)),Za (.ref W)] h3) N R Z) :
  WSE (YE (k+3) [Za (.ref D),Za (.str (tQ cs)),Ze] h) N R Z:=by
 have hb:=Jq
 have tl:(tQ cs).length<=cs.length*253:=by
  have:=Jkc sc (by decide) (cs.map pQ) λ x hx=>by obtain⟨c,hc,rfl⟩:=ZR.mp hx;exact(q c hc).len
  rwa [Zo] at this
 have hit:=Jt1 (k:=k) (h:=h) (D:=D) (t:=tQ cs) (by omega)
 rw[Jsy q hn] at hit
 rw[YE,Jw,Xv]
 refine WE.of ?_
 refine WR.mono (Jzz (Jnb (λ x y h'=>∀p,x=IV.str p->∃r:Nat,y=IV.ref r/\r≠(h++[IX.lst ((cs.map pQ).map IV.str)]).length/\h'[r]?=Za (.lst ((Zad p (one 32)).map .str))) hit (by rw[Zo,Zo];omega) ?_ (λ h2 z=>z _ _ Ji) ?_)) ?_
 ·intro x y h2 h3 kb dd p e
  obtain⟨i,e1,e2,e3⟩:=dd p e
  exact⟨i,e1,e2,kb _ _ e2 e3⟩
 ·intro x hx h2 k2 l2
  obtain⟨t,ht,rfl⟩:=ZR.mp hx
  obtain⟨c,hc,rfl⟩:=ZR.mp ht
  simp! [Jci]
  have pl:=(q c hc).len
  refine WE.wr (WE.mono (Jmj (k:=k+1) (by omega)) ?_ λ _ _ z=>by rw[(q c hc).good] at z;cases z.1)
  rintro _ h3 ⟨_,rfl,g3,x3⟩
  exact⟨x3,λ p e=>⟨_,rfl,by omega,by cases e;exact g3⟩⟩
 rintro _ h3 ⟨rfl,ys,gy,ly,k3,dv⟩
 rw[Zo,Zo] at ly
 have dv:∀(i:Nat)(hi:i<cs.length)(hy:i<ys.length),∃r:Nat,ys[i]=.ref r/\h3[r]?=Za (.lst ((wQ cs[i]).map .str)):=λ i hi hy=>by
  obtain⟨r,e1,_,g⟩:=dv i (IV.str (pQ cs[i])) ys[i] (by rw[Z6,Z6,Zn hi];rfl) (Zn hy) _ rfl
  rw[(q _ (ZS hi)).split] at g
  exact⟨r,e1,g⟩
 refine go _ ys h3 ((Ex.one _ _).trans (Jur k3)) gy (λ v hv=>?_) (λ c hc=>?_) (by omega)
 ·obtain⟨i,hi,rfl⟩:=ZaB.mp hv
  have hi':i<cs.length:=by omega
  obtain⟨r,e,g⟩:=dv i hi' hi
  exact⟨_,ZS hi',r,e,g⟩
 ·obtain⟨i,hi,rfl⟩:=ZaB.mp hc
  have hi':i<ys.length:=by omega
  obtain⟨r,e,g⟩:=dv i hi hi'
  exact⟨r,e▸ZS hi',g⟩
theorem Jty {D r:Nat}{ds:List WD}{c:PQ}(q:c.Ok)(hd:Du h D ds)(g:h[r]?=Za (.lst ((wQ c).map .str))) :
  WE (Jcj (k+3) [Za (.ref r),Za (.ref D)] h) (λ v h'=>(∃d∈ds,d.name=c.name)/\Ex h h') (λ n h'=>(∀d∈ds,d.name≠c.name)/\Exn "NoName" h n h'):=by
 have hb:=Jq
 obtain⟨vs,gD,w⟩:=id hd
 have w0:atI ((wQ c).map IV.str) 0=Za (.str c.name):=JQ
 have w1:atI ((wQ c).map IV.str) 1=Za (.str (tS c.come)):=JN
 have w2:atI ((wQ c).map IV.str) 2=Za (.str (tS c.late)):=JO
 have w3:atI ((wQ c).map IV.str) 3=Za (.str (tS c.len)):=JR
 have n1:=λ (h:IH)(Q:IV->IH->Prop)=>Vv (h:=h) (Q:=Q) q.sc.int (by have:=q.sc.len;omega)
 have n2:=λ (h:IH)(Q:IV->IH->Prop)=>Vv (h:=h) (Q:=Q) q.st.int (by have:=q.st.len;omega)
 have n3:=λ (h:IH)(Q:IV->IH->Prop)=>Vv (h:=h) (Q:=Q) q.sl.int (by have:=q.sl.len;omega)
 rw[Jcj]
 unfold JE
 rw[Xp,QA,Jwo (i:=D) (h1:=h) rfl gD dln (Jgc _),QA]
 refine WE.of ?_
 simp! [J4,g,w0]
 rw[Vf]
 refine WE.mono (Jl3 (k:=k+2) hd) ?_ λ _ _ z=>z
 rintro v h1 ⟨e,x1⟩
 refine WE.of ?_
 simp! [J4,x1.get g,w1,w2,w3,n1,n2,n3,Z0,Zal]
 rw[if_pos (by omega),Jzy]
 exact⟨e,x1⟩
theorem Jsh {D:Nat}{ds:List WD}{cs:List PQ}(hd:Du h D ds)(q:∀c∈cs,c.Ok)(hn:cs≠[])(hl:cs.length<=40)(ht:¬tQ cs=Zb "")(b:∃c∈cs,∀d∈ds,d.name≠c.name):WE (VF (k+4) [.ref D,.str (tQ cs)] h) (λ _ _=>False) (Exn "NoName" h):=by
 have hb:=Jq
 rw[YO]
 refine QV (Jl5 ht (Jkl q hn hl λ W ys h3 x3 gW h1 h2 ly=>?_))
 rw[Jcb,Jh0]
 obtain⟨c,hc,bc⟩:=b
 obtain⟨r,hr,gr⟩:=h2 c hc
 have d3:=hd.kp λ _ _ y=>x3.get y
 refine WE.mono (Jwn (h:=h3) (xs:=ys) (chk:=λ h'=>h'[W]?=Za (.lst ys)) (bad:=λ v=>∀r c,v=.ref r->c.Ok->h3[r]?=Za (.lst ((wQ c).map .str))->∀d∈ds,d.name≠c.name) (c:="NoName") ?_ (by omega) (λ h' z=>z _ _ gW) ?_ ⟨.ref r,hr,?_⟩) (λ _ _ z=>z.elim) ?_
 ·simp! [QB,gW]
 ·intro v hv h4 z
  obtain⟨c,hc,r,rfl,g⟩:=h1 v hv
  refine WE.mono (Jty (k:=k) (q c hc) (d3.kp z) (z _ _ g)) ?_ λ _ _ z=>z.2
  rintro _ h5 ⟨⟨d,hd,e⟩,x5⟩
  exact⟨λ y=>y r c rfl (q c hc) g d hd e,x5⟩
 ·intro r' c' e q' g'
  cases e
  rw[gr] at g'
  have e:wQ c=wQ c':=by
   have:=IX.lst.inj (Zaw g')
   exact(List.map_inj_right λ _ _ e=>IV.str.inj e).mp this
  have e:c.name=c'.name:=(ZcI e).1
  rw[<- e]
  exact bc
 ·intro n h4 z
  have z:Exn "NoName" h n h4:=z.ex x3
  exact⟨⟨_,_,z.1⟩,z⟩
theorem Jv3 {D:Nat}{ds:List WD}{cs:List PQ}(hd:Du h D ds)(q:∀c∈cs,c.Ok)(hn:cs≠[])(hl:cs.length<=40)(ht:¬tQ cs=Zb "")(b:∀c∈cs,∃d∈ds,d.name=c.name):WR (VF (k+4) [.ref D,.str (tQ cs)] h) λ _ h'=>Ex h h':=by
 have hb:=Jq
 refine WE.wr ?_
 rw[YO]
 refine QV (Jl5 ht (Jkl q hn hl λ W ys h3 x3 gW h1 h2 ly=>?_))
 rw[Jcb,Jh0]
 have d3:=hd.kp λ _ _ y=>x3.get y
 refine WE.of (WR.mono (Jzz (Jnb (h:=h3) (xs:=ys) (chk:=λ h'=>h'[W]?=Za (.lst ys)) (λ _ _ _=>True) ?_ (by omega) (λ _ _ _ _ _ _=>trivial) (λ h' z=>z _ _ gW) ?_)) ?_)
 ·simp! [QB,gW]
 ·intro v hv h4 z _
  obtain⟨c,hc,r,rfl,g⟩:=h1 v hv
  refine WE.wr (WE.mono (Jty (k:=k) (q c hc) (d3.kp z) (z _ _ g)) (λ _ _ z=>⟨z.2,trivial⟩) λ _ _ z=>?_)
  obtain⟨d,hd,e⟩:=b c hc
  exact z.1 d hd e
 ·rintro _ h4 ⟨rfl,ys',_,_,k4,_⟩
  exact x3.trans (Jur k4)
structure Cl (c:Str)(b0 b1 b2:Bool):Prop where
 x0:Jlg c=Za b0
 x1:Jip c=Za b1
 x2:Jlf c=Za b2
 x3:Jio c=Za Zc
 x4:Jis c=Za Zc
 x5:Jle c=Za Zc
 x6:Jen c=Za Zc
 x7:Jir c=Za Zc
 x8:Jiq c=Za Zc
 x9:Jng c=Za Zc
 xv:Jf9 c=Za Zh
 xd:Jcg c=Za Zh
theorem clT:Cl "NoText" Zh Zc Zc:=⟨by kernel_rfl,by kernel_rfl,by kernel_rfl,by kernel_rfl,by kernel_rfl,by kernel_rfl,by kernel_rfl,by kernel_rfl,by kernel_rfl,by kernel_rfl,by kernel_rfl,by kernel_rfl⟩
theorem clW:Cl "BadWork" Zc Zh Zc:=⟨by kernel_rfl,by kernel_rfl,by kernel_rfl,by kernel_rfl,by kernel_rfl,by kernel_rfl,by kernel_rfl,by kernel_rfl,by kernel_rfl,by kernel_rfl,by kernel_rfl,by kernel_rfl⟩
theorem clN:Cl "NoName" Zc Zc Zh:=⟨by kernel_rfl,by kernel_rfl,by kernel_rfl,by kernel_rfl,by kernel_rfl,by kernel_rfl,by kernel_rfl,by kernel_rfl,by kernel_rfl,by kernel_rfl,by kernel_rfl,by kernel_rfl⟩
abbrev tens (b0 b1 b2:Bool):List Bool:=[b0,b1,b2,Zc,Zc,Zc,Zc,Zc,Zc,Zc]
structure One (b0 b1 b2:Bool)(j:Nat)(w:Str):Prop where
 f:(((tens b0 b1 b2).map IV.bl).filter (λ v=>match v with|.bl b=>b|_=>Zc))=[IV.bl Zh]
 i:(tens b0 b1 b2).findIdx? (· ==Zh)=Za j
 w:([IV.str "text",.str "work",.str "name",.str "",.str "",.str "",.str "",.str "",.str "",.str ""]:List IV)[j]?=Za (.str w)
theorem J1q {c w:Str}{b0 b1 b2:Bool}{j n i:Nat}(q:Cl c b0 b1 b2)(o:One b0 b1 b2 j w)(e:h[n]?=Za (.hld c []))(hi:h[i]?=Za (.lst ((tens b0 b1 b2).map .bl))):WS (Jdv k [Za (.ref n),Za (.ref i)] h) (λ _ _=>False) λ v h'=>v=.str w/\Ex h h':=by
 have hb:=Jq
 simp! [Jdv,Jm7 e,QC,q.xv]
 refine WR.mono (Jqz (h:=h) (xs:=(tens b0 b1 b2).map .bl) (chk:=λ h'=>h'[i]?=Za (.lst ((tens b0 b1 b2).map .bl))) (p:=λ v=>match v with|.bl b=>b|_=>Zc) (f:=λ v=>v) ?_ (by simp;omega) (λ h2 q=>q _ _ hi) ?_ ?_) ?_
 ·simp! [Jwu,hi]
 ·intro v hv h2 q
  obtain⟨b,_,rfl⟩:=ZR.mp hv
  simp! [Jej]
  exact .refl _
 ·intro v hv _ h2 q
  simp! [Jei]
  exact .refl _
 ·rintro _ _ ⟨rfl,g,rfl⟩
  have x1:Ex h (h++IX.lst ((((tens b0 b1 b2).map IV.bl).filter (λ v=>match v with|.bl b=>b|_=>Zc)).map λ v=>v)::g):=.cons _ _ _
  rw[o.f] at x1 ⊢
  have g1:(h++IX.lst ([IV.bl Zh].map λ v=>v)::g)[h.length]?=Za (.lst ([IV.bl Zh].map λ v=>v)):=JI
  have hi1:=x1.get hi
  generalize h++IX.lst ([IV.bl Zh].map λ v=>v)::g=h1 at x1 g1 hi1 ⊢
  simp! [VE,g1,Z0,Zal,Zo]
  refine⟨λ q=>absurd q (by decide),λ _=>?_⟩
  simp! [Jgp]
  refine⟨by simp;omega,?_⟩
  rw[Jz0]
  simp! [true_and]
  refine⟨?_,?_⟩
  ·unfold tyOk
   dsimp only
   rw[grow hi1]
   rfl
  ·rw[Jq1 (grow hi1) o.i,J4]
   refine⟨_,Ji,_,VI o.w,rfl,?_⟩
   exact x1.trans (Ex.one _ _)
theorem Jme {c w:Str}{b0 b1 b2:Bool}{j n:Nat}(q:Cl c b0 b1 b2)(o:One b0 b1 b2 j w)(e:h[n]?=Za (.hld c [])):WR (Y7 (k+1) [.ref n] h) λ v h'=>v=.str w/\Ex h h':=by
 have hb:=Jq
 rw[Jlt]
 simp! [Jgm,Jm7 e,QC,q.x0,q.x1,q.x2,q.x3]
 refine⟨by simp;omega,?_⟩
 have x1:Ex h (h++[IX.lst [.bl b0,.bl b1,.bl b2,.bl Zc]]):=.one _ _
 simp! [Jgn,Jm7 (x1.get e),QC,q.x4,q.x5,q.x6,Vh,grow Ji,Ji]
 refine⟨by simp;omega,by simp;omega,?_⟩
 have x2:Ex h (h++[IX.lst [IV.bl b0,IV.bl b1,IV.bl b2,IV.bl Zc]]++[IX.lst [IV.bl Zc,IV.bl Zc,IV.bl Zc]]++[IX.lst [IV.bl b0,IV.bl b1,IV.bl b2,IV.bl Zc,IV.bl Zc,IV.bl Zc,IV.bl Zc]]):=x1.trans ((Ex.one _ _).trans (.one _ _))
 have g2:=Ji (h:=h++[IX.lst [IV.bl b0,IV.bl b1,IV.bl b2,IV.bl Zc]]++[IX.lst [IV.bl Zc,IV.bl Zc,IV.bl Zc]]) (o:=IX.lst [IV.bl b0,IV.bl b1,IV.bl b2,IV.bl Zc,IV.bl Zc,IV.bl Zc,IV.bl Zc])
 generalize Zdr (h++[IX.lst [IV.bl b0,IV.bl b1,IV.bl b2,IV.bl Zc]]++[IX.lst [IV.bl Zc,IV.bl Zc,IV.bl Zc]])=i at g2 ⊢
 generalize h++[IX.lst [IV.bl b0,IV.bl b1,IV.bl b2,IV.bl Zc]]++[IX.lst [IV.bl Zc,IV.bl Zc,IV.bl Zc]]++[IX.lst [IV.bl b0,IV.bl b1,IV.bl b2,IV.bl Zc,IV.bl Zc,IV.bl Zc,IV.bl Zc]]=h2 at x2 g2 ⊢
 simp! [Jgo,Jm7 (x2.get e),QC,q.x7,q.x8,q.x9,Vh,grow g2,Ji]
 refine⟨by simp;omega,by simp;omega,?_⟩
 refine WS.mono (J1q q o (grow (grow (x2.get e))) Ji) (λ _ _ z=>z) ?_
 rintro v h3 ⟨rfl,x⟩
 exact⟨rfl,x2.trans ((Ex.one _ _).trans ((Ex.one _ _).trans x))⟩
inductive Told:Str->Str->Prop
 | text:Told "NoText" "text"
 | work:Told "BadWork" "work"
 | name:Told "NoName" "name"
theorem Told.go {c w:Str}(t:Told c w):Jcg c=Za Zh/\∀{k n:Nat}{h:IH},h[n]?=Za (.hld c [])->WR (Y7 (k+1) [.ref n] h) λ v h'=>v=.str w/\Ex h h':=by
 cases t with
 | text=>exact⟨clT.xd,λ e=>Jme clT (j:=0) ⟨by kernel_rfl,by kernel_rfl,rfl⟩ e⟩
 | work=>exact⟨clW.xd,λ e=>Jme clW (j:=1) ⟨by kernel_rfl,by kernel_rfl,rfl⟩ e⟩
 | name=>exact⟨clN.xd,λ e=>Jme clN (j:=2) ⟨by kernel_rfl,by kernel_rfl,rfl⟩ e⟩
theorem Jtj {c:Str}{h1:IH}{n:Nat}(e:Exn c h n h1):(h1.set n (.hld c []))[n]?=Za (.hld c [])/\Ex h (h1.set n (.hld c [])):=by
 obtain⟨e,⟨g,rfl⟩,ln⟩:=e
 refine⟨Z1 (JF e),?_⟩
 rw[Zah _ _ ln]
 exact⟨_,rfl⟩
theorem Jd8 {c w:Str}{v:IV}(t:Told c w)(b:WE (Xz (k+6) [v] h) (λ _ _=>False) (Exn c h)):WR (Y6 (k+7) [v] h) λ v h'=>v=.str w/\Ex h h':=by
 obtain⟨xd,wd⟩:=t.go
 rw[Jdk]
 simp! [Jau,Jav]
 refine Jne _ _ ?_
 rw[Jg9,Xq,QA]
 refine WE.of ?_
 simp! [true_and]
 rw[Vf]
 refine WE.mono b (λ _ _ z=>z.elim) ?_
 intro n h1 z
 obtain⟨a1,a2⟩:=Jtj z
 refine⟨c,[],z.1,?_⟩
 rw[Jz2 xd,Jnd (n:=n) (c:=c) (fs:=[]) rfl z.1]
 refine WR.mono (wd a1) ?_
 rintro _ h2 ⟨rfl,x3⟩
 simp! [Jaw,VT]
 exact a2.trans x3
theorem Jjg {v:IV}(b:WR (Xz (k+6) [v] h) λ _ h'=>Ex h h'):WR (Y6 (k+7) [v] h) λ v h'=>v=.str "read"/\Ex h h':=by
 rw[Jdk]
 simp! [Jau,Jav]
 refine Jne _ _ ?_
 rw[Jg9,Xq,QA]
 refine WE.of ?_
 simp! [true_and]
 rw[Vf]
 refine WE.of (WR.mono b λ _ h1 z=>?_)
 simp! [Jaw]
 exact z
theorem Je0 {c w:Str}{d v:IV}(t:Told c w)(b:WE (VF (k+6) [d,v] h) (λ _ _=>False) (Exn c h)):WR (Y5 (k+7) [d,v] h) λ v h'=>v=.str w/\Ex h h':=by
 obtain⟨xd,wd⟩:=t.go
 rw[Jd5]
 simp! [Ja1,Ja2]
 refine Jne _ _ ?_
 rw[Jg9,Xq,QA]
 refine WE.of ?_
 simp! [true_and]
 rw[QA]
 refine WE.of ?_
 simp! [true_and]
 rw[Vf]
 refine WE.mono b (λ _ _ z=>z.elim) ?_
 intro n h1 z
 obtain⟨a1,a2⟩:=Jtj z
 refine⟨c,[],z.1,?_⟩
 rw[Jz2 xd,Jnd (n:=n) (c:=c) (fs:=[]) rfl z.1]
 refine WR.mono (wd a1) ?_
 rintro _ h2 ⟨rfl,x3⟩
 simp! [Ja3,VT]
 exact a2.trans x3
theorem Jgu {d v:IV}(b:WR (VF (k+6) [d,v] h) λ _ h'=>Ex h h'):WR (Y5 (k+7) [d,v] h) λ v h'=>v=.str "read"/\Ex h h':=by
 rw[Jd5]
 simp! [Ja1,Ja2]
 refine Jne _ _ ?_
 rw[Jg9,Xq,QA]
 refine WE.of ?_
 simp! [true_and]
 rw[QA]
 refine WE.of ?_
 simp! [true_and]
 rw[Vf]
 refine WE.of (WR.mono b λ _ h1 z=>?_)
 simp! [Ja3]
 exact z
theorem Js3 {v:IV}(t:(tyI v h).bind J6=Za Zc):WE (Xz (k+6) [v] h) (λ _ _=>False) (Exn "NoText" h):=by
 rw[Jd7]
 refine QV ?_
 rw[Ja7,Jw,JG]
 refine WE.of ?_
 simp! [t]
 exact upN (.refl _)
theorem Jv2 {d v:IV}(t:(tyI v h).bind J6=Za Zc):WE (VF (k+6) [d,v] h) (λ _ _=>False) (Exn "NoText" h):=by
 rw[YO]
 refine QV ?_
 rw[YD,Jw,JG]
 refine WE.of ?_
 simp! [t]
 exact upN (.refl _)
theorem Jqh {d:IV}:WR (VF (k+6) [d,.str (Zb "")] h) λ _ h'=>Ex h h':=by
 rw[YO]
 simp! [YD,Jdw,decide_true,Zal,Zar]
 exact .one _ _
structure NoNum (w:Str):Prop where
 n:numB w=Zc
 b:32∉w.cps.toList
 s:59∉w.cps.toList∨w=one 59
 l:w.length<=62
 d:Vp (w++one 45++one 51)=Zc
def noA:List Str:=[Zb "",Zb "00",Zb "01",Zb "-1",Zb "-0",Zb "+1",Zb "1.0",Zb "1_0",Zb "a",Zb "1a",Zb "0x1",Zb "1,0",Zb "1\n",Zb "\t1",Zb "None",Zb "True"]
def noB (c:Int):List Str:=[Zb "0"++tS (c%10^30),Zb "1"++Zc5 (Zb "0") 60,tS (c/20%10^50)++Zb "l",Zb ";"]
theorem Jp5:∀w∈noA,NoNum w:=by
 have key:noA.all (λ w=>!numB w&&w.cps.toList.all (λ c=>c != 32&&c != 59)&&decide (w.length<=62)&&!Vp (w++one 45++one 51))=Zh:=by decide +kernel
 intro w hw
 have:=Zab.mp key w hw
 simp only[Zl,Zaf,decide_eq_true_eq,Zab,bne_iff_ne] at this
 obtain⟨⟨⟨a,b⟩,c⟩,d⟩:=this
 exact⟨a,λ z=>(b 32 z).1 rfl,.inl λ z=>(b 59 z).2 rfl,c,d⟩
theorem Ji3 {w r:Str}(hw:45∉w.cps.toList):Vp (w++one 45++r)=(numB w&&numB r):=by
 unfold Vp
 rw[Jg5 hw]
theorem Jym (c:Int):∀w∈noB c,NoNum w:=by
 have s1:Sm (c%10^30):=⟨Zw _ (by decide),Zcq (Zq _ (by decide)) (by decide)⟩
 have s2:Sm (c/20%10^50):=⟨Zw _ (by decide),Zcq (Zq _ (by decide)) (by decide)⟩
 have l1:=s1.len
 have l2:=s2.len
 intro w hw
 simp only[noB,Zt,Z9,or_false] at hw
 rcases hw with rfl|rfl|rfl|rfl
 ·have hs:ZbY (Zb "0"++tS (c%10^30)) (one 48)=Zh:=by
   unfold ZbY
   refine(Bool.and_eq_true_iff).mpr ?_
   have:=(ZbR (Zb "0"++tS (c%10^30)) 48 0).mpr (by rw[Yf,Jz];rfl)
   exact⟨decide_eq_true this.1,this.2⟩
  have hd:=s1.dig
  have n0:numB (Zb "0"++tS (c%10^30))=Zc:=by
   have hl:(Zb "0"++tS (c%10^30))≠Zb "0":=λ e=>by
    have:=congrArg ZcB e
    rw[Yf,Zx] at this
    have e1:(one 48).length=1:=rfl
    omega
   unfold numB
   rw[decide_eq_false hl,hs]
   simp
  have mem:∀x,x∈(Zb "0"++tS (c%10^30)).cps.toList->48<=x/\x<=57:=λ x hx=>by
   rw[Yf,Jz,Q3] at hx
   rcases Zr.mp hx with z|z
   ·have:x=48:=by simpa using z
    omega
   ·exact hd x z
  refine⟨n0,λ z=>by have:=mem _ z;omega,.inl λ z=>by have:=mem _ z;omega,?_,?_⟩
  ·rw[Yf,Zx]
   have e1:(one 48).length=1:=rfl
   omega
  ·rw[Ji3 λ z=>by have:=mem _ z;omega,n0]
   rfl
 ·have key:(!numB (Zb "1"++Zc5 (Zb "0") 60)&&(Zb "1"++Zc5 (Zb "0") 60).cps.toList.all (λ c=>c != 32&&c != 59)&&decide ((Zb "1"++Zc5 (Zb "0") 60).length<=62)&&!Vp ((Zb "1"++Zc5 (Zb "0") 60)++one 45++one 51))=Zh:=by decide +kernel
  simp only[Zl,Zaf,decide_eq_true_eq,Zab,bne_iff_ne] at key
  obtain⟨⟨⟨a,b⟩,c⟩,d⟩:=key
  exact⟨a,λ z=>(b 32 z).1 rfl,.inl λ z=>(b 59 z).2 rfl,c,d⟩
 ·have hd:=s2.dig
  have el:Zb "l"=one 108:=by decide +kernel
  have n0:numB (tS (c/20%10^50)++Zb "l")=Zc:=by
   have:((tS (c/20%10^50)++Zb "l").cps.toList.all figB)=Zc:=by
    rw[el,Jz,Q3,List.all_append,show([108].all figB)=Zc from by decide +kernel,ZbB]
   unfold numB
   rw[this]
   simp
  have mem:∀x,x∈(tS (c/20%10^50)++Zb "l").cps.toList->48<=x/\x<=57∨x=108:=λ x hx=>by
   rw[el,Jz,Q3] at hx
   rcases Zr.mp hx with z|z
   ·exact .inl (hd x z)
   ·exact .inr (by simpa using z)
  refine⟨n0,λ z=>by have:=mem _ z;omega,.inl λ z=>by have:=mem _ z;omega,?_,?_⟩
  ·rw[el,Zx]
   have e1:(one 108).length=1:=rfl
   omega
  ·rw[Ji3 λ z=>by have:=mem _ z;omega,n0]
   rfl
 ·exact⟨by decide +kernel,by decide +kernel,.inr (by decide +kernel),by decide +kernel,by decide +kernel⟩
theorem Jww {Q:IV->IH->Prop}(x:Str)(n:Int)(e:MulS x n=Zh):WR (Vt (.str x) (.int n) h) Q=Q (.str (Zc5 x n)) h:=by
 have:Vt (.str x) (.int n) h=.ok (.str (Zc5 x n)) h:=if_pos e
 rw[this,Q0]
theorem Jcf (c:Int):WR (XO (k+1) [.int c] h) λ v h'=>∃w,v=.str w/\NoNum w/\Ex h h':=by
 have hb:=Jq
 have s1:Sm (c%10^30):=⟨Zw _ (by decide),Zcq (Zq _ (by decide)) (by decide)⟩
 have s2:Sm (c/20%10^50):=⟨Zw _ (by decide),Zcq (Zq _ (by decide)) (by decide)⟩
 have l1:=s1.len
 have l2:=s2.len
 have z1:(Zb "0").length=1:=by decide +kernel
 have z2:(Zb "1").length=1:=by decide +kernel
 have z3:(Zb "l").length=1:=by decide +kernel
 have z4:(Zc5 (Zb "0") 60).length=60:=by decide +kernel
 have e30:ZbH 30=30:=rfl
 have e50:ZbH 50=50:=rfl
 rw[Jgv]
 simp! [Jcl,Jcm]
 refine⟨by simp;omega,⟨by decide,by decide,by decide⟩,by decide,?_⟩
 rw[e30,e50]
 simp! [VX,Qy,Jww _ _ (show MulS (Zb "0") 60=Zh by decide +kernel),s1.log,s2.log,Xl,Zx,z1,z2,z3,z4]
 refine⟨by omega,by omega,⟨by decide,by decide⟩,⟨by decide,by decide,by decide⟩,by decide,by omega,by simp;omega,?_⟩
 rw[show[IV.str (Zb "0"++tS (c%10^30)),IV.str (Zb "1"++Zc5 (Zb "0") 60),IV.str (tS (c/20%10^50)++Zb "l"),IV.str (Zb ";")]=(noB c).map IV.str from rfl]
 have e1:[IV.str (Zb ""),IV.str (Zb "00"),IV.str (Zb "01"),IV.str (Zb "-1"),IV.str (Zb "-0"),IV.str (Zb "+1"),IV.str (Zb "1.0"),IV.str (Zb "1_0"),IV.str (Zb "a"),IV.str (Zb "1a"),IV.str (Zb "0x1"),IV.str (Zb "1,0"),IV.str (Zb "1\n"),IV.str (Zb "\t1"),IV.str (Zb "None"),IV.str (Zb "True")]=noA.map IV.str:=rfl
 rw[e1]
 rw[Vh]
 refine⟨_,grow Ji,_,Ji,?_,?_⟩
 ·simp[noA,noB];omega
 rw[Jcn]
 simp! [true_and]
 refine⟨by decide,?_⟩
 rw[J4]
 refine⟨_,Ji,?_⟩
 have h0:=Zw c (b:=20) (by decide)
 have h1:=Zq c (b:=20) (by decide)
 rw[<- Zam]
 have hl:(c%20).toNat<(noA++noB c).length:=by
  show _<20
  omega
 refine⟨.str (noA++noB c)[(c%20).toNat],Vl h0 (by rw[Z6,Zn hl];rfl),_,rfl,?_,?_⟩
 ·rcases Zr.mp (ZS hl) with z|z
  ·exact Jp5 _ z
  ·exact Jym c _ z
 ·exact(Ex.one _ _).trans ((Ex.one _ _).trans (Ex.one _ _))
end
section
variable {k:Nat}{h:IH}{x:Str}
structure NoHold (w:Str):Prop where
 n:QE w=Zc
 b:32∉w.cps.toList
 l:w.length<=140
theorem Jqb {x:Str}{c:Nat}(hx:c∉x.cps.toList):ZC x (one c)=(x,Zd7,Zd7):=by
 unfold ZC
 rcases StrLaws.occ_head x (one c) 1 (Zu 1) with⟨h0,q⟩|⟨i,r,h0,hi,q⟩
 ·rw[h0]
 ·exact absurd (Za4 ((ZbR _ _ _).mp hi)) hx
theorem Jo9 {w:Str}(hw:58∉w.cps.toList):QE w=Zc:=by
 unfold QE
 rw[Jqb hw]
 show Vp Zd7=Zc
 decide +kernel
theorem Jxk {r:Str}(hx:58∉x.cps.toList):QE (x++one 58++r)=Vp r:=by
 unfold QE
 rw[Jg5 hx]
theorem NoHold.of {s r:Str}(q:IsNm x)(e:s=one 58++r)(n:Vp r=Zc)(b:32∉r.cps.toList)(l:r.length<=100):NoHold (x++s):=by
 have lo:=Vd q
 have ln:=q.2.1
 subst e
 refine⟨?_,?_,?_⟩
 ·rw[<- QL,Jxk λ z=>by have:=lo _ z;omega]
  exact n
 ·rw[Jz,Jz,Q3]
  simp only[Zr,Z3]
  rintro(z|z|z)
  ·have:=lo _ z;omega
  ·omega
  ·exact b z
 ·have e1:(one 58).length=1:=rfl
  rw[Zx,Zx]
  omega
def hdL (x:Str):List Str:=[Zb "",x,x++Zb ":1",x++Zb ":1-",x++Zb ":-2",x++Zb ":1-2-3",x++Zb ":01-2"]
def hdM (x:Str):List Str:=[x++Zb ":1:2-3",x++Zb "1-2",x++Zb ":1-02",x++Zb "::1-2",x++Zb ":1--2"]
def hdN (x w:Str):List Str:=[x++Zb ":1;2",x++Zb ":"++w++Zb "-3"]
def hdO (x w:Str):List Str:=[x++Zb ":1-"++w]
theorem V9 {s:Str}(q:IsNm x)(r:Str)(e:decide (s=one 58++r)&&!Vp r&&r.cps.toList.all (λ c=>c != 32)&&decide (r.length<=100)):NoHold (x++s):=by
 simp only[Zl,Zaf,decide_eq_true_eq,Zab,bne_iff_ne] at e
 obtain⟨⟨⟨a,b⟩,c⟩,d⟩:=e
 exact .of q a b (λ z=>c 32 z rfl) d
theorem Jp6 {w w':Str}(q:IsNm x)(n:NoNum w)(n':NoNum w'):∀y∈hdL x++hdM x++hdN x w++hdO x w',NoHold y:=by
 have lo:=Vd q
 have ln:=q.2.1
 have l1:=n.l
 have l2:=n'.l
 intro y hy
 simp only[hdL,hdM,hdN,hdO,Za3,ZaM,Zt,Z9,or_false] at hy
 rcases hy with rfl|rfl|rfl|rfl|rfl|rfl|rfl|rfl|rfl|rfl|rfl|rfl|rfl|rfl|rfl
 ·exact⟨by decide +kernel,by decide +kernel,by decide +kernel⟩
 ·exact⟨Jo9 λ z=>by have:=lo _ z;omega,λ z=>by have:=lo _ z;omega,by omega⟩
 ·exact V9 q (Zb "1") (by decide +kernel)
 ·exact V9 q (Zb "1-") (by decide +kernel)
 ·exact V9 q (Zb "-2") (by decide +kernel)
 ·exact V9 q (Zb "1-2-3") (by decide +kernel)
 ·exact V9 q (Zb "01-2") (by decide +kernel)
 ·exact V9 q (Zb "1:2-3") (by decide +kernel)
 ·have e:∀c∈(Zb "1-2").cps.toList,c<58/\c≠32:=by decide +kernel
  have m:∀c∈(x++Zb "1-2").cps.toList,c≠58/\c≠32:=λ c hc=>by
   rw[Jz] at hc
   rcases Zr.mp hc with z|z
   ·have:=lo _ z;omega
   ·have:=e _ z;omega
  refine⟨Jo9 λ z=>(m _ z).1 rfl,λ z=>(m _ z).2 rfl,?_⟩
  rw[Zx,show(Zb "1-2").length=3 by decide +kernel]
  omega
 ·exact V9 q (Zb "1-02") (by decide +kernel)
 ·exact V9 q (Zb ":1-2") (by decide +kernel)
 ·exact V9 q (Zb "1--2") (by decide +kernel)
 ·exact V9 q (Zb "1;2") (by decide +kernel)
 ·have e:x++Zb ":"++w++Zb "-3"=x++(one 58++(w++one 45++one 51)):=by
   rw[show Zb ":"=one 58 by decide +kernel,show Zb "-3"=one 45++one 51 by decide +kernel]
   simp only[QL]
  rw[e]
  refine .of q rfl n.d ?_ ?_
  ·simp only[Jz,Q3,Zr,Z3]
   rintro((z|z)|z)
   ·exact n.b z
   ·omega
   ·omega
  ·simp only[Zx,show ∀c,(one c).length=1 from λ _=>rfl]
   omega
 ·have e:x++Zb ":1-"++w'=x++(one 58++(one 49++one 45++w')):=by
   rw[show Zb ":1-"=one 58++(one 49++one 45) by decide +kernel]
   simp only[QL]
  rw[e]
  refine .of q rfl ?_ ?_ ?_
  ·rw[Ji3 (by decide),n'.n,ZbB]
  ·simp only[Jz,Q3,Zr,Z3]
   rintro((z|z)|z)
   ·omega
   ·omega
   ·exact n'.b z
  ·simp only[Zx,show ∀c,(one c).length=1 from λ _=>rfl]
   omega
theorem Jnv (c:Int)(q:IsNm x):WR (Jcw (k+2) [.int c,.str x] h) λ v h'=>∃w,v=.str w/\NoHold w/\Ex h h':=by
 have hb:=Jq
 have ln:=q.2.1
 have zz:∀s∈[Zb ":1",Zb ":1-",Zb ":-2",Zb ":1-2-3",Zb ":01-2",Zb ":1:2-3",Zb "1-2",Zb ":1-02",Zb "::1-2",Zb ":1--2",Zb ":1;2",Zb ":",Zb "-3"],s.length<=10:=by decide +kernel
 simp only[Zt,Z9,or_false,forall_eq_or_imp,forall_eq] at zz
 obtain⟨z1,z2,z3,z4,z5,z6,z7,z8,z9,z10,z11,z12,z13⟩:=zz
 have ad:∀{s:Str}(h:IH)(Q:IV->IH->Prop),s.length<=10->WR (Jf (.str x) (.str s) h) Q=Q (.str (x++s)) h:=λ {s} h Q l=>by
  rw[Qy]
  exact propext ⟨λ z=>z.2,λ z=>⟨by omega,z⟩⟩
 rw[Jh3]
 simp! [Jdn,Jdo,Jdp,ad _ _ z1,ad _ _ z2,ad _ _ z3,ad _ _ z4,ad _ _ z5,ad _ _ z6,ad _ _ z7,ad _ _ z8,ad _ _ z9,ad _ _ z10,ad _ _ z11,ad _ _ z12]
 have eL:[IV.str (Zb ""),IV.str x,IV.str (x++Zb ":1"),IV.str (x++Zb ":1-"),IV.str (x++Zb ":-2"),IV.str (x++Zb ":1-2-3"),IV.str (x++Zb ":01-2")]=(hdL x).map IV.str:=rfl
 have eM:[IV.str (x++Zb ":1:2-3"),IV.str (x++Zb "1-2"),IV.str (x++Zb ":1-02"),IV.str (x++Zb "::1-2"),IV.str (x++Zb ":1--2")]=(hdM x).map IV.str:=rfl
 have l7:(hdL x).length=7:=rfl
 have l5:(hdM x).length=5:=rfl
 rw[eL,eM]
 refine⟨by rw[Zo];omega,by rw[Zo];omega,?_⟩
 rw[Vh]
 refine⟨_,grow Ji,_,Ji,by rw[Zo,Zo];omega,⟨by decide,by decide⟩,?_⟩
 rw[<- Zam]
 have x1:Ex h (h++[IX.lst ((hdL x).map IV.str)]++[IX.lst ((hdM x).map IV.str)]++[IX.lst ((hdL x++hdM x).map IV.str)]):=(Ex.one _ _).trans ((Ex.one _ _).trans (.one _ _))
 have g1:=Ji (h:=h++[IX.lst ((hdL x).map IV.str)]++[IX.lst ((hdM x).map IV.str)]) (o:=IX.lst ((hdL x++hdM x).map IV.str))
 generalize Zdr (h++[IX.lst ((hdL x).map IV.str)]++[IX.lst ((hdM x).map IV.str)])=i at g1 ⊢
 generalize h++[IX.lst ((hdL x).map IV.str)]++[IX.lst ((hdM x).map IV.str)]++[IX.lst ((hdL x++hdM x).map IV.str)]=h1 at x1 g1 ⊢
 refine WR.mono (Jcf (c/15)) ?_
 rintro _ h2 ⟨w,rfl,n,x2⟩
 have lw:=n.l
 simp only[Qy,Zx]
 refine⟨by omega,by omega,by simp;omega,?_⟩
 rw[show[IV.str (x++Zb ":1;2"),IV.str (x++Zb ":"++w++Zb "-3")]=(hdN x w).map IV.str from rfl,Vh]
 refine⟨_,grow (x2.get g1),_,Ji,by simp[hdL,hdM,hdN];omega,?_⟩
 rw[<- Zam]
 have x3:Ex h (h2++[IX.lst ((hdN x w).map IV.str)]++[IX.lst ((hdL x++hdM x++hdN x w).map IV.str)]):=(x1.trans x2).trans ((Ex.one _ _).trans (.one _ _))
 have g3:=Ji (h:=h2++[IX.lst ((hdN x w).map IV.str)]) (o:=IX.lst ((hdL x++hdM x++hdN x w).map IV.str))
 generalize Zdr (h2++[IX.lst ((hdN x w).map IV.str)])=j at g3 ⊢
 generalize h2++[IX.lst ((hdN x w).map IV.str)]++[IX.lst ((hdL x++hdM x++hdN x w).map IV.str)]=h3 at x3 g3 ⊢
 rw[Jdq]
 simp! [ad _ _ z2]
 refine⟨⟨by decide,by decide⟩,?_⟩
 refine WR.mono (Jcf (c/15)) ?_
 rintro _ h4 ⟨w',rfl,n',x4⟩
 have lw':=n'.l
 simp only[Qy,Zx]
 refine⟨by omega,by simp;omega,?_⟩
 rw[show[IV.str (x++Zb ":1-"++w')]=(hdO x w').map IV.str from rfl,Vh]
 refine⟨_,grow (x4.get g3),_,Ji,by simp[hdL,hdM,hdN,hdO];omega,by decide,?_⟩
 rw[<- Zam,J4]
 refine⟨_,Ji,?_⟩
 have h0:=Zw c (b:=15) (by decide)
 have h1:=Zq c (b:=15) (by decide)
 have hl:(c%15).toNat<(hdL x++hdM x++hdN x w++hdO x w').length:=by
  show _<15
  omega
 refine⟨.str (hdL x++hdM x++hdN x w++hdO x w')[(c%15).toNat],Vl h0 (by rw[Z6,Zn hl];rfl),_,rfl,Jp6 q n n' _ (ZS hl),?_⟩
 exact(x3.trans x4).trans ((Ex.one _ _).trans (.one _ _))
end
section
variable {x:Str}
theorem J1n:∀c∈List.range' 97 26,ZbN c=[c-32]:=by decide +kernel
theorem up_l (q:IsNm x):(Zb1 x).cps.toList=x.cps.toList.map (· - 32):=by
 show((x.cps.mapIdx λ _ c=>(ZbN c).toArray).flatten).toList=_
 rw[Array.toList_flatten,Array.toList_mapIdx,show ∀l:List Nat,l.mapIdx (λ _ a=>(ZbN a).toArray)=l.map (λ a=>(ZbN a).toArray) from λ l=>Zb5 λ i=>by simp,ZdS]
 have:∀(l:List Nat),(∀c∈l,97<=c/\c<=122)->(l.map (Ze3∘λ c=>(ZbN c).toArray)).flatten=l.map (· - 32):=by
  intro l
  induction l with
  | nil=>intro _;rfl
  | cons c r ih =>
   intro hl
   have:=hl c (Zv ..)
   rw[ZA,ZA,Zbf,ih λ d hd=>hl d (Zs _ hd)]
   show(ZbN c).toArray.toList++_=_
   rw[J1n c (by rw[Zdw];omega)]
   rfl
 exact this _ q.2.2
theorem Jt9 (q:IsNm x):∀c∈(Zb1 x).cps.toList,65<=c/\c<=90:=λ c hc=>by
 rw[up_l q] at hc
 obtain⟨d,hd,rfl⟩:=ZR.mp hc
 have:=q.2.2 d hd
 omega
theorem X6 (x:Str):x.length=x.cps.toList.length:=Za1.symm
theorem Jt8 (q:IsNm x):(Zb1 x).length=x.length:=by
 rw[X6,X6,up_l q,Zo]
theorem Jxf:∀c∈List.range' 65 58,figB c=Zc:=by decide +kernel
theorem Jtu {w:Str}{c:Nat}(hc:c∈w.cps.toList)(e:figB c=Zc):numB w=Zc:=by
 have:w.cps.toList.all figB=Zc:=Zat.mpr λ z=>by rw[Zab.mp z c hc] at e;cases e
 unfold numB
 rw[this]
 simp
theorem Jp7 {w:Str}(h1:1<=w.length)(hc:∀c∈w.cps.toList,65<=c/\c<=122):numB w=Zc:=by
 rw[X6] at h1
 have m:=ZS (l:=w.cps.toList) (n:=0) h1
 exact Jtu m (Jxf _ (by rw[Zdw];have:=hc _ m;omega))
structure Odd (w:Str):Prop where
 n:QJ (.str w)=Zc
 f:numB w=Zc
 b:32∉w.cps.toList
 c:58∉w.cps.toList∨58∈w.cps.toList
 l:w.length<=16
def oddL (x:Str):List Str:=[Zb "",Zb "A",Zb "a1",Zb "abcdefghi",x++Zb ":",Zb1 x,Zb "-"]
theorem YX {w:Str}(e: !QJ (.str w)&&!numB w&&w.cps.toList.all (λ c=>c != 32)&&decide (w.length<=16)):Odd w:=by
 simp only[Zl,Zaf,decide_eq_true_eq,Zab,bne_iff_ne] at e
 obtain⟨⟨⟨a,b⟩,c⟩,d⟩:=e
 exact⟨a,b,λ z=>c 32 z rfl,ZcY _ |>.symm,d⟩
theorem Jyr (q:IsNm x):∀w∈oddL x,Odd w:=by
 have lo:=Vd q
 have l1:=q.1
 have l2:=q.2.1
 intro w hw
 simp only[oddL,Zt,Z9,or_false] at hw
 rcases hw with rfl|rfl|rfl|rfl|rfl|rfl|rfl
 ·exact YX (by decide +kernel)
 ·exact YX (by decide +kernel)
 ·exact YX (by decide +kernel)
 ·exact YX (by decide +kernel)
 ·rw[Ji1]
  have m:58∈(x++one 58).cps.toList:=by rw[Jz,Q3];simp
  refine⟨?_,Jtu m (by decide +kernel),?_,ZcY _ |>.symm,?_⟩
  ·have:(x++one 58).cps.toList.all Xh=Zc:=Zat.mpr λ z=>absurd (Zab.mp z 58 m) (by decide)
   simp only[QJ,this,ZbB]
  ·rw[Jz,Q3]
   intro z
   rcases Zr.mp z with z|z
   ·have:=lo _ z;omega
   ·simp at z
  ·rw[Zx,show(one 58).length=1 from rfl]
   omega
 ·have um:=Jt9 q
  have ul:=Jt8 q
  refine⟨?_,Jp7 (by omega) λ c hc=>by have:=um c hc;omega,λ z=>by have:=um _ z;omega,ZcY _ |>.symm,by omega⟩
  have h1:0<(Zb1 x).cps.toList.length:=by rw[<- X6];omega
  have m:=ZS h1
  have:(Zb1 x).cps.toList.all Xh=Zc:=Zat.mpr λ z=>by
   have:=Zab.mp z _ m
   have:=um _ m
   simp only[Xh,Zl,decide_eq_true_eq] at *
   omega
  simp only[QJ,this,ZbB]
 ·exact YX (by decide +kernel)
structure Gw (name:Str)(gap len due late:Int)(hs:List Hd):Prop where
 w:WkX name gap len due late hs
 n:IsNm name
 g:1<=gap
 gm:gap<10^52
 l:1<=len
 lm:len<10^52
 d:1<=due/\due<=gap
 t:0<=late
 o:HsOk len hs
 l3:3<=len
def BadX (name:Str)(gap len due late:Int)(hs:List Hd):Prop:=∀(h:IH)(O:Nat),h[O]?=Za (.lst (hs.map tupH))->BadW h (.str name) (.int gap) (.int len) (.int due) (.int late) (.ref O)
structure BadR (name:Str)(gap len due late:Int)(hs:List Hd):Prop where
 w:WkX name gap len due late hs
 f:numB name=Zc
 x:BadX name gap len due late hs
theorem IsNm.num {x:Str}(q:IsNm x):numB x=Zc:=Jp7 q.1 λ c hc=>by have:=Vd q c hc;omega
variable {name:Str}{gap len due late:Int}{hs:List Hd}
theorem sm0:Sm 0:=⟨Int.le_refl _,by decide⟩
theorem Gw.odd (G:Gw name gap len due late hs){w:Str}(o:Odd w):BadR w gap len due late hs:=by
 have:=o.l
 exact⟨⟨o.b,by omega,G.w.g,G.w.l,G.w.d,G.w.t,G.w.hw,G.w.few⟩,o.f,λ h O e=>.name .str (λ y z=>by cases z;have:=Jq;omega) o.n⟩
theorem Gw.gap0 (G:Gw name gap len due late hs):BadR name 0 len due late hs :=
 ⟨⟨G.w.nb,G.w.nl,sm0,G.w.l,G.w.d,G.w.t,G.w.hw,G.w.few⟩,IsNm.num G.n,λ h O e=>.gap G.n .int rfl⟩
theorem Gw.len0 (G:Gw name gap len due late hs):BadR name gap 0 due late hs :=
 ⟨⟨G.w.nb,G.w.nl,G.w.g,sm0,G.w.d,G.w.t,G.w.hw,G.w.few⟩,IsNm.num G.n,λ h O e=>.len G.n G.g .int rfl⟩
theorem Gw.due0 (G:Gw name gap len due late hs){d:Int}(s:Sm d)(b:d<1∨gap<d):BadR name gap len d late hs :=
 ⟨⟨G.w.nb,G.w.nl,G.w.g,G.w.l,s,G.w.t,G.w.hw,G.w.few⟩,IsNm.num G.n,λ h O e=>.due G.n G.g G.l G.t nofun .int (b.imp (λ z=>decide_eq_false (by omega)) λ z=>⟨_,rfl,z⟩)⟩
theorem Gw.more (G:Gw name gap len due late hs){a:Hd}(w:HdW a)(b:Qd len (tupH a)=Zc):BadR name gap len due late (hs++[a]):=by
 have few:=G.o.few
 have hb:=Jq
 refine⟨⟨G.w.nb,G.w.nl,G.w.g,G.w.l,G.w.d,G.w.t,λ c hc=>?_,by simp;omega⟩,IsNm.num G.n,λ h O e=>.holds G.n G.g G.l G.t G.d.1 G.d.2 ?_⟩
 ·rcases Zr.mp hc with z|z
  ·exact G.w.hw c z
  ·rw[Z3.mp z];exact w
 ·by_cases z:(hs++[a]).length<=6
  ·refine .odd e (by rw[Zo];exact z) (λ v hv=>?_) ?_
   ·obtain⟨c,hc,rfl⟩:=ZR.mp hv
    have cl:c.1.length<=16:=by
     rcases Zr.mp hc with z|z
     ·exact(G.w.hw c z).le
     ·rw[Z3.mp z];exact w.le
    refine⟨.tup,λ n s e' q=>?_⟩
    simp only[tupH,IV.tup.injEq,Zcn,and_true] at q
    obtain⟨rfl,rfl,rfl⟩:=q
    exact⟨.str,.int,.int,λ y q=>by cases q;omega⟩
   ·rw[Zam,List.all_append]
    simp[b]
  ·exact .many e (by rw[Zo];omega)
theorem Gw.many (G:Gw name gap len due late hs){l:List Hd}(w:∀a∈l,HdW a)(h6:6<l.length)(h7:l.length<=10):BadR name gap len due late l :=
 ⟨⟨G.w.nb,G.w.nl,G.w.g,G.w.l,G.w.d,G.w.t,w,h7⟩,IsNm.num G.n,λ h O e=>.holds G.n G.g G.l G.t G.d.1 G.d.2 (.many e (by rw[Zo];omega))⟩
theorem Gw.twice (G:Gw name gap len due late hs){x:Str}(q:IsNm x){j:Int}(h0:0<=j)(h1:j<2):BadR name gap len due late [(x,0,2),(x,j,2)]:=by
 have s:∀{i:Int},0<=i->i<=2->Sm i:=λ a b=>⟨a,by omega⟩
 have lo:=Vd q
 have ln:=q.2.1
 have l3:=G.l3
 have w:∀{i:Int},0<=i->i<2->HdW (x,i,2):=λ {i} a b=>⟨λ z=>by have:=lo _ z;omega,λ z=>by have:=lo _ z;omega,by show x.length<=16;omega,show Sm i from s a (by omega),show Sm 2 from s (by decide) (by decide)⟩
 refine⟨⟨G.w.nb,G.w.nl,G.w.g,G.w.l,G.w.d,G.w.t,λ c hc=>?_,by simp⟩,IsNm.num G.n,λ h O e=>.holds G.n G.g G.l G.t G.d.1 G.d.2 ?_⟩
 ·simp only[Zt,Z9,or_false] at hc
  rcases hc with rfl|rfl
  ·exact w (by decide) (by decide)
  ·exact w h0 h1
 ·have ok:∀{i:Int},0<=i->i<2->HdOk len (x,i,2):=λ a b=>⟨q,a,b,by show(2:Int)<len;omega⟩
  refine .cross (hs:=[(x,0,2),(x,j,2)]) (m:=0) (n:=1) (by decide) (by simp) e (by simp) (λ c hc=>?_) ?_
  ·simp only[Zt,Z9,or_false] at hc
   rcases hc with rfl|rfl
   ·exact ok (by decide) (by decide)
   ·exact ok h0 h1
  ·show decide ((2:Int)<=0∨2<=j∨(x≠x/\_))=Zc
   refine decide_eq_false ?_
   rintro(z|z|⟨z,_⟩)
   ·omega
   ·omega
   ·exact z rfl
end
section
variable {k:Nat}{h:IH}{name:Str}{gap len due late:Int}{hs:List Hd}{W N:Nat}{c c0:Int}
abbrev nmL (c0:Int):List IV:=(ZaO 7).map λ j=>.str (nm c0 j)
theorem Vc {c0:Int}{j:Int}(h0:0<=j)(h1:j<7):atI (nmL c0) j=Za (.str (nm c0 j.toNat)) :=
 Vl h0 (by rw[Z6,Zce (by omega)];rfl)
theorem YQ (x:Str)(a b:Int):x++Zb ":"++tS a++Zb "-"++tS b=hT (x,a,b):=by
 rw[Ji1,Jlp]
 rfl
theorem Jm1 {a:Hd}:(wsX name gap len due late hs).map IV.str++[.str (hT a)]=(wsX name gap len due late (hs++[a])).map IV.str:=by
 simp[wsX]
theorem hdw {x:Str}{a b:Int}(q:IsNm x)(sa:Sm a)(sb:Sm b):HdW (x,a,b):=by
 have lo:=Vd q
 have ln:=q.2.1
 exact⟨λ z=>by have:=lo _ z;omega,λ z=>by have:=lo _ z;omega,by show x.length<=16;omega,sa,sb⟩
def thL:List Str:=[Zb "",Zb "A",Zb "a1",Zb "abcdefghi",Zb "a-",Zb "a_"]
theorem Jzt:∀x∈thL,HdW (x,0,1)/\QJ (.str x)=Zc:=by
 have key:thL.all (λ w=>w.cps.toList.all (λ c=>c != 32&&c != 58)&&decide (w.length<=16)&&!QJ (.str w))=Zh:=by decide +kernel
 intro w hw
 have:=Zab.mp key w hw
 simp only[Zl,Zaf,decide_eq_true_eq,Zab,bne_iff_ne] at this
 obtain⟨⟨b,c⟩,d⟩:=this
 exact⟨⟨λ z=>(b 58 z).2 rfl,λ z=>(b 32 z).1 rfl,c,sm0,show Sm 1 from⟨by decide,by decide⟩⟩,d⟩
def BW (h:IH)(v:IV)(h':IH):Prop:=∃(i:Nat)(n':Str)(g' l' d' t':Int)(hs':List Hd),v=.ref i/\h'[i]?=Za (.lst ((wsX n' g' l' d' t' hs').map .str))/\BadR n' g' l' d' t' hs'/\Ex h h'
theorem Jlk (G:Gw name gap len due late hs)(gW:h[W]?=Za (.lst ((wsX name gap len due late hs).map .str)))(gN:h[N]?=Za (.lst (nmL c0))) :
  WR (Jch (k+1) [.ref W,.int c,.ref N] h) (BW h):=by
 have hb:=Jq
 have few:=G.o.few
 have m0:=Zw c (b:=10) (by decide)
 have m1:=Zq c (b:=10) (by decide)
 have q0:=Q9 c0 0
 have q6:=Q9 c0 6
 rw[Jhg]
 simp! [Jdg,Jdh,Jjm,gW]
 refine⟨by decide,?_⟩
 have x1:Ex h (h++[IX.lst ((wsX name gap len due late hs).map .str)]):=.one _ _
 have g1:(h++[IX.lst ((wsX name gap len due late hs).map .str)])[h.length]?=Za (.lst ((wsX name gap len due late hs).map .str)):=Ji
 have gN1:=x1.get gN
 have put:∀{h2:IH}{n':Str}{g' l' d' t':Int}{hs':List Hd},Ex (h++[IX.lst ((wsX name gap len due late hs).map .str)]) h2->BadR n' g' l' d' t' hs'->BW h (.ref h.length) (h2.set h.length (.lst ((wsX n' g' l' d' t' hs').map .str))):=λ {h2 n' g' l' d' t' hs'} x b=>by
  obtain⟨g,rfl⟩:=x
  refine⟨_,n',g',l',d',t',hs',rfl,Z1 (by simp),b,?_⟩
  rw[Zaa,Zah _ _ (Zu _)]
  exact⟨_,rfl⟩
 have lt1:=JF g1
 have lN:=JF gN
 generalize h++[IX.lst ((wsX name gap len due late hs).map .str)]=h1 at x1 g1 gN1 put lt1 ⊢
 generalize h.length=i at g1 put lt1 lN ⊢
 generalize hw:c%10=w at m0 m1 ⊢
 have cs:=(by decide:∀n:Nat,n<10->(n:Int)=0∨(n:Int)=1∨(n:Int)=2∨(n:Int)=3∨(n:Int)=4∨(n:Int)=5∨(n:Int)=6∨(n:Int)=7∨(n:Int)=8∨(n:Int)=9) w.toNat (by omega)
 rw[ZcT m0] at cs
 have a0:atI (nmL c0) 0=Za (.str (nm c0 0)):=Vc (j:=0) (by decide) (by decide)
 have a6:atI (nmL c0) 6=Za (.str (nm c0 6)):=Vc (j:=6) (by decide) (by decide)
 have z1:(Zb ":").length=1:=by decide +kernel
 have z2:(Zb "-").length=1:=by decide +kernel
 have ix:∀n:Nat,n<5->ixN ((wsX name gap len due late hs).map IV.str).length (n:Int)=Za n:=λ n hn=>by simp[ixN,wsX];omega
 rw[Jdi]
 rcases cs with rfl|rfl|rfl|rfl|rfl|rfl|rfl|rfl|rfl|rfl
 ·refine xseq (xift rfl ?_)
  simp! [J4,gN1,a0,Qy]
  have l0:=q0.2.1
  refine⟨by omega,?_⟩
  rw[Qz (x:=nm c0 0) (h1:=h1) (by refine Qt ?_;simp! [J4,gN1,a0]) Jmg]
  simp! [Jnc,J4,Ji]
  refine⟨by omega,by simp;omega,⟨by decide,by decide⟩,by decide,?_⟩
  have h0:=Zw (c/10) (b:=7) (by decide)
  have h1':=Zq (c/10) (b:=7) (by decide)
  have hl:(c/10%7).toNat<(oddL (nm c0 0)).length:=by
   show _<7
   omega
  refine⟨.str (oddL (nm c0 0))[(c/10%7).toNat],Vl h0 (by rw[show[IV.str (Zb ""),IV.str (Zb "A"),IV.str (Zb "a1"),IV.str (Zb "abcdefghi"),IV.str (nm c0 0++Zb ":"),IV.str (Zb1 (nm c0 0)),IV.str (Zb "-")]=(oddL (nm c0 0)).map IV.str from rfl,Z6,Zn hl];rfl),?_⟩
  rw[XI]
  simp! [XJ]
  refine⟨_,grow g1,0,ix 0 (by decide),?_⟩
  simp! [Vm]
  exact put (.one _ _) (G.odd (Jyr q0 _ (ZS hl)))
 ·refine xseq (xiff rfl (xift rfl ?_))
  simp! [true_and]
  rw[XI]
  simp! [XJ]
  refine⟨_,g1,1,ix 1 (by decide),?_⟩
  simp! [Vm]
  exact put (.refl _) G.gap0
 ·refine xseq (xiff rfl (xift rfl ?_))
  simp! [true_and]
  rw[XI]
  simp! [XJ]
  refine⟨_,g1,2,ix 2 (by decide),?_⟩
  simp! [Vm]
  exact put (.refl _) G.len0
 ·refine xseq (xiff rfl (xift rfl ?_))
  simp! [true_and]
  rw[XI]
  simp! [XJ]
  refine⟨_,g1,3,ix 3 (by decide),?_⟩
  simp! [Vm]
  exact put (.refl _) (G.due0 sm0 (.inl (by decide)))
 ·have w1:atI ((wsX name gap len due late hs).map IV.str) 1=Za (.str (tS gap)):=JN
  have n1:=λ (h:IH)(Q:IV->IH->Prop)=>Vv (h:=h) (Q:=Q) G.w.g.int (by have:=G.w.g.len;omega)
  have r0:=Zw (c/10) (b:=100000000000000000000) (by decide)
  have r1:=Zq (c/10) (b:=100000000000000000000) (by decide)
  have e20:(10:Int)^ZbH 20=100000000000000000000:=by decide +kernel
  have s:Sm (gap+1+c/10%100000000000000000000):=⟨by have:=G.g;omega,by have:=G.gm;omega⟩
  refine xseq (xiff rfl (xiff rfl (xift rfl ?_)))
  simp! [J4,g1,w1,n1,e20,VX,s.log,Xl]
  refine⟨⟨by decide,by decide⟩,⟨by decide,by decide,by decide⟩,by decide,?_⟩
  rw[XI]
  simp! [XJ]
  refine⟨_,g1,3,ix 3 (by decide),?_⟩
  simp! [Vm]
  exact put (.refl _) (G.due0 s (.inr (by omega)))
 ·have w2:atI ((wsX name gap len due late hs).map IV.str) 2=Za (.str (tS len)):=JO
  have n2:=λ (h:IH)(Q:IV->IH->Prop)=>Vv (h:=h) (Q:=Q) G.w.l.int (by have:=G.w.l.len;omega)
  have s:Sm (len+1):=⟨by have:=G.l;omega,by have:=G.lm;omega⟩
  have l1:=G.w.l.len
  have l2:=s.len
  have l6:=q6.2.1
  refine xseq (xiff rfl (xiff rfl (xiff rfl (xift rfl ?_))))
  simp! [Vm]
  rw[Vi (i:=i) (h1:=h1) rfl g1 V2]
  simp! [J4,gN1,a6,g1,w2,n2,Qy,VX,s.log,Xl,Zx,z1,z2]
  refine⟨by omega,by omega,by omega,by omega,?_⟩
  simp only[VW,g1,exists_eq_left,exists_eq_left',IV.bl.injEq,IV.int.injEq,IV.ref.injEq,IV.str.injEq,IX.lst.injEq,IV.tup.injEq,ZH,ZW,ZV,reduceCtorEq,eq_self,true_implies,false_implies,implies_true,and_true,true_and,and_false,false_and,ZQ,ZL,ZD,Qk,Qg,Ql,Qh,Qi,Qj,JM,JL,J6,JH,JT,JP,JY,Qn,JQ,JN,JO,JR,JW,Qq,Qo,Qp]
  refine⟨by simp[wsX];omega,?_⟩
  rw[YQ,Jm1]
  refine put (.refl _) (G.more (hdw q6 G.w.l s) ?_)
  simp[Qd,tupH]
  omega
 ·have r0:=Zw (c/10) (b:=5) (by decide)
  have r1:=Zq (c/10) (b:=5) (by decide)
  have l6:=q6.2.1
  refine xseq (xiff rfl (xiff rfl (xiff rfl (xiff rfl (xift rfl ?_)))))
  simp! [Vm]
  generalize c/10%5=s at r0 r1 ⊢
  have e0:=Zw (c/50) (b:=1+s) (by omega)
  have e1:=Zq (c/50) (b:=1+s) (by omega)
  have s1:Sm s:=⟨r0,by omega⟩
  have s2:Sm (c/50%(1+s)):=⟨e0,by omega⟩
  have l1:=s1.len
  have l2:=s2.len
  refine⟨by decide,?_⟩
  rw[Vi (i:=i) (h1:=h1) rfl g1 V2]
  simp! [J4,gN1,a6,Qy,VX,s1.log,s2.log,Xl,Zx,z1,z2]
  refine⟨by decide,by omega,by omega,by omega,⟨by decide,by decide⟩,by omega,by omega,?_⟩
  simp only[VW,g1,exists_eq_left,exists_eq_left',IV.bl.injEq,IV.int.injEq,IV.ref.injEq,IV.str.injEq,IX.lst.injEq,IV.tup.injEq,ZH,ZW,ZV,reduceCtorEq,eq_self,true_implies,false_implies,implies_true,and_true,true_and,and_false,false_and,ZQ,ZL,ZD,Qk,Qg,Ql,Qh,Qi,Qj,JM,JL,J6,JH,JT,JP,JY,Qn,JQ,JN,JO,JR,JW,Qq,Qo,Qp]
  refine⟨by simp[wsX];omega,?_⟩
  rw[YQ,Jm1]
  refine put (.refl _) (G.more (hdw q6 s1 s2) ?_)
  simp[Qd,tupH]
  omega
 ·have r0:=Zw (c/10) (b:=6) (by decide)
  have r1:=Zq (c/10) (b:=6) (by decide)
  refine xseq (xiff rfl (xiff rfl (xiff rfl (xiff rfl (xiff rfl (xift rfl ?_))))))
  simp! [Vm]
  rw[Vi (i:=i) (h1:=h1) rfl g1 V2]
  simp! [true_and]
  refine⟨by simp;omega,⟨by decide,by decide⟩,by decide,?_⟩
  have hl:(c/10%6).toNat<thL.length:=by
   show _<6
   omega
  obtain⟨t1,t2⟩:=Jzt _ (ZS hl)
  rw[show[IV.str (Zb ""),IV.str (Zb "A"),IV.str (Zb "a1"),IV.str (Zb "abcdefghi"),IV.str (Zb "a-"),IV.str (Zb "a_")]=thL.map IV.str from rfl,J4]
  refine⟨_,Ji,.str thL[(c/10%6).toNat],Vl r0 (by rw[Z6,Zn hl];rfl),?_⟩
  generalize thL[(c/10%6).toNat]=x at t1 t2
  have lx:=t1.le
  simp only[Qy,show(Zb ":0-1").length=4 by decide +kernel]
  refine⟨by show x.length+4<=_;have:x.length<=16:=lx;omega,?_⟩
  simp only[VW,grow g1,exists_eq_left,exists_eq_left',IV.bl.injEq,IV.int.injEq,IV.ref.injEq,IV.str.injEq,IX.lst.injEq,IV.tup.injEq,ZH,ZW,ZV,reduceCtorEq,eq_self,true_implies,false_implies,implies_true,and_true,true_and,and_false,false_and,ZQ,ZL,ZD,Qk,Qg,Ql,Qh,Qi,Qj,JM,JL,J6,JH,JT,JP,JY,Qn,JQ,JN,JO,JR,JW,Qq,Qo,Qp]
  refine⟨by simp[wsX];omega,?_⟩
  rw[show x++Zb ":0-1"=hT (x,0,1) by rw[show Zb ":0-1"=one 58++(tS 0++one 45++tS 1) by decide +kernel,<-QL,Juy],Jm1]
  refine put (.one _ _) (G.more t1 ?_)
  simp[Qd,tupH,t2]
 ·refine xseq (xiff rfl (xiff rfl (xiff rfl (xiff rfl (xiff rfl (xiff rfl (xift rfl ?_)))))))
  simp! [Vm]
  have gh:(h1++[IX.lst (cutI ((wsX name gap len due late hs).map IV.str) Ze (Za 5))])[N]?=Za (.lst (nmL c0)):=grow gN1
  simp only[Vw,g1,exists_eq_left,exists_eq_left',IV.bl.injEq,IV.int.injEq,IV.ref.injEq,IV.str.injEq,IX.lst.injEq,IV.tup.injEq,ZH,ZW,ZV,reduceCtorEq,eq_self,true_implies,false_implies,implies_true,and_true,true_and,and_false,false_and,ZQ,ZL,ZD,Qk,Qg,Ql,Qh,Qi,Qj,JM,JL,J6,JH,JT,JP,JY,Qn,JQ,JN,JO,JR,JW,Qq,Qo,Qp]
  refine WR.mono (QP (h:=h1++[IX.lst (cutI ((wsX name gap len due late hs).map IV.str) Ze (Za 5))]) (xs:=rngI 0 7) (chk:=λ _=>True) (f:=λ v=>match v with|.int j=>.str (hT (nm c0 (j%3).toNat,j,j+1))|_=>.non) ?_ (by show 7<sizeLine;omega) (λ _ _=>trivial) ?_) ?_
  ·simp! [Yw]
   decide
  ·intro v hv h2 kp
   obtain⟨j,hj,rfl⟩:=ZR.mp hv
   have hj:j<7:=ZbT.mp hj
   have j0:=Zw (0+(j:Int)) (b:=3) (by decide)
   have j1:=Zq (0+(j:Int)) (b:=3) (by decide)
   have s1:Sm (0+(j:Int)):=⟨by omega,by omega⟩
   have s2:Sm (0+(j:Int)+1):=⟨by omega,by omega⟩
   have l1:=s1.len
   have l2:=s2.len
   have ln:=(Q9 c0 ((0+(j:Int))%3).toNat).2.1
   simp! [Jcc,ZA,Zbr,Zap,ZaA,ZbF,J4,kp _ _ gh,Vc j0 (by omega:(0+(j:Int))%3<7),Qy,VX,s1.log,s2.log,Xl,Zx,z1,z2]
   refine⟨by decide,by omega,by omega,by omega,by omega,?_⟩
   rw[YQ]
   exact⟨rfl,.refl _⟩
  ·rintro _ _ ⟨rfl,g,rfl⟩
   rw[Vh]
   refine⟨_,(Ex.cons _ _ _).get Ji,_,JI,?_,?_⟩
   ·rw[show(Za (5:Int))=Za ((5:Nat):Int) from rfl,VL]
    simp[wsX,rngI]
    omega
   ·have e:cutI ((wsX name gap len due late hs).map IV.str) Ze (Za 5)++(rngI 0 7).map (λ v=>match v with|.int j=>.str (hT (nm c0 (j%3).toNat,j,j+1))|_=>.non)=(wsX name gap len due late ((ZaO 7).map λ (j:Nat)=>(nm c0 ((0+(j:Int))%3).toNat,0+(j:Int),0+(j:Int)+1))).map IV.str:=by
     rw[show(Za (5:Int))=Za ((5:Nat):Int) from rfl,VL]
     simp[wsX,rngI,Zdv]
    rw[e]
    refine⟨_,_,_,_,_,_,_,rfl,Ji,G.many (λ a ha=>?_) (by simp) (by simp),?_⟩
    ·obtain⟨j,hj,rfl⟩:=ZR.mp ha
     have hj:j<7:=ZbT.mp hj
     exact hdw (Q9 _ _) ⟨by omega,by omega⟩ ⟨by omega,by omega⟩
    ·exact x1.trans ((Ex.one _ _).trans ((Ex.cons _ _ _).trans (.one _ _)))
 ·refine xseq (xiff rfl (xiff rfl (xiff rfl (xiff rfl (xiff rfl (xiff rfl (xiff rfl ?_)))))))
  simp! [Vm]
  have r0:=Zw (c/10) (b:=2) (by decide)
  have r1:=Zq (c/10) (b:=2) (by decide)
  generalize c/10%2=s at r0 r1 ⊢
  have s1:Sm s:=⟨r0,by omega⟩
  have l1:=s1.len
  have l0:=q0.2.1
  have gh:(h1++[IX.lst (cutI ((wsX name gap len due late hs).map IV.str) Ze (Za 5))])[N]?=Za (.lst (nmL c0)):=grow gN1
  simp only[Vw,g1,exists_eq_left,exists_eq_left',IV.bl.injEq,IV.int.injEq,IV.ref.injEq,IV.str.injEq,IX.lst.injEq,IV.tup.injEq,ZH,ZW,ZV,reduceCtorEq,eq_self,true_implies,false_implies,implies_true,and_true,true_and,and_false,false_and,ZQ,ZL,ZD,Qk,Qg,Ql,Qh,Qi,Qj,JM,JL,J6,JH,JT,JP,JY,Qn,JQ,JN,JO,JR,JW,Qq,Qo,Qp,J4,gh,a0,Qy,VX,s1.log,Xl,Zx,z1,show(Zb ":0-2").length=4 by decide +kernel,show(Zb "-2").length=2 by decide +kernel,Vh,Ji,grow Ji]
  refine⟨by omega,by omega,⟨by decide,by decide⟩,by decide,by omega,by omega,by simp;omega,?_,?_⟩
  ·rw[show(Za (5:Int))=Za ((5:Nat):Int) from rfl,VL]
   simp[wsX]
   omega
  ·have e:cutI ((wsX name gap len due late hs).map IV.str) Ze (Za 5)++[IV.str (nm c0 0++Zb ":0-2"),IV.str (nm c0 0++Zb ":"++tS s++Zb "-2")]=(wsX name gap len due late [(nm c0 0,0,2),(nm c0 0,s,2)]).map IV.str:=by
    have e1:nm c0 0++Zb ":0-2"=hT (nm c0 0,0,2):=by rw[show Zb ":0-2"=one 58++(tS 0++one 45++tS 2) by decide +kernel,<-QL,Juy]
    have e2:nm c0 0++Zb ":"++tS s++Zb "-2"=hT (nm c0 0,s,2):=by rw[show Zb "-2"=Zb "-"++tS 2 by decide +kernel,<-QL,YQ]
    rw[show(Za (5:Int))=Za ((5:Nat):Int) from rfl,VL,e1,e2]
    simp[wsX]
   rw[e]
   refine⟨_,_,_,_,_,_,_,rfl,Ji,G.twice q0 r0 r1,?_⟩
   exact x1.trans ((Ex.one _ _).trans ((Ex.one _ _).trans (.one _ _)))
end
section
variable {name:Str}{gap len due late:Int}{hs:List Hd}
structure NoTx (ws:List Str):Prop where
 l:∀p∈ws,p.length<=140
 n:ws.length<=20
 x:∃ws',Ws ws'/\ZT (one 32) ws=TW ws'/\(topB ws'=Zc∨((∃w∈ws'.drop 5,QE w=Zc)/\∀w∈ws'.drop 5,QE w=Zc∨∃a,HdW a/\w=hT a))
theorem NoTx.of {ws:List Str}(q:Ws ws)(b:topB ws=Zc∨((∃w∈ws.drop 5,QE w=Zc)/\∀w∈ws.drop 5,QE w=Zc∨∃a,HdW a/\w=hT a)):NoTx ws:=⟨q.len,q.few,ws,q,rfl,b⟩
theorem Jqu {ws:List Str}{w:Str}{j:Nat}(e:ws[j]?=Za w)(h1:1<=j)(h5:j<5)(n:numB w=Zc):topB ws=Zc:=by
 have m:w∈(ws.take 5).drop 1:=Za4 (i:=j-1) (by rw[ZaF,show 1+(j-1)=j by omega,Zbb h5,e])
 have:((ws.take 5).drop 1).all numB=Zc:=Zat.mpr λ z=>by rw[Zab.mp z w m] at n;cases n
 unfold topB
 rw[this,ZbB]
theorem Jzj (q:WkX name gap len due late hs){w:Str}(n:NoNum w){j:Nat}(hj:j<4):NoTx ((wsX name gap len due late hs).set (j+1) w):=by
 have k:=q.ok
 have ln:=n.l
 have hl:j+1<(wsX name gap len due late hs).length:=by simp[wsX];omega
 have m:∀{P:Str->Prop},(∀p∈wsX name gap len due late hs,P p)->P w->∀p∈(wsX name gap len due late hs).set (j+1) w,P p:=λ a b p hp=>(Zcd hp).elim (a p) λ z=>z▸b
 refine .of ⟨λ z=>by simp[wsX] at z,m k.free n.b,m k.len (by omega),by rw[Zbj];exact k.few⟩ (.inl (Jqu (Z1 hl) (by omega) (by omega) n.n))
theorem Jw8 (q:WkX name gap len due late hs){m:Nat}(hm:m<5):NoTx ((wsX name gap len due late hs).take m):=by
 have k:=q.ok
 have sub:∀p∈(wsX name gap len due late hs).take m,p∈wsX name gap len due late hs:=λ p hp=>Za5 hp
 have tf:∀{ws:List Str},ws.length<5->topB ws=Zc:=λ h=>by
  unfold topB
  rw[decide_eq_false (by omega)]
  rfl
 cases m with
 | zero=>exact⟨by simp,by simp,[Zb ""],⟨by simp,by decide +kernel,by decide +kernel,by simp⟩,show ZT (one 32) []=TW [Zb ""] by decide +kernel,.inl (tf (by simp))⟩
 | succ m=>exact .of ⟨by simp[wsX],λ p hp=>k.free p (sub p hp),λ p hp=>k.len p (sub p hp),by rw[ZaH];have:=k.few;omega⟩ (.inl (tf (by rw[ZaH];omega)))
theorem Jtm (q:WkX name gap len due late hs)(f:numB name=Zc){w:Str}(n:NoHold w){p:Nat}(hp:p<=5+hs.length)(hn:p<5->numB w=Zc):NoTx ((wsX name gap len due late hs).take p++w::(wsX name gap len due late hs).drop p):=by
 have k:=q.ok
 have few:=q.few
 have hl:(wsX name gap len due late hs).length=5+hs.length:=by simp[wsX];omega
 have m:∀{P:Str->Prop},(∀p∈wsX name gap len due late hs,P p)->P w->∀y∈(wsX name gap len due late hs).take p++w::(wsX name gap len due late hs).drop p,P y:=λ a b y hy=>by
  rcases Zr.mp hy with z|z
  ·exact a y (Za5 z)
  ·rcases Zt.mp z with rfl|z
   ·exact b
   ·exact a y (ZaR z)
 refine .of ⟨by simp,m k.free n.b,m k.len n.l,by rw[ZZ,ZaH,Z0,ZcA];omega⟩ ?_
 by_cases h5:p<5
 ·refine .inl ?_
  by_cases h0:p=0
  ·subst h0
   exact Jqu (j:=1) (w:=name) rfl (by decide) (by decide) f
  ·exact Jqu (j:=p) (w:=w) (by rw[ZI (by rw[ZaH];omega),ZaH,hl,show p-min p (5+hs.length)=0 by omega];rfl) (by omega) h5 (hn h5)
 ·refine .inr ?_
  have e:((wsX name gap len due late hs).take p++w::(wsX name gap len due late hs).drop p).drop 5=((wsX name gap len due late hs).take p).drop 5++w::(wsX name gap len due late hs).drop p :=
   List.drop_append_of_le_length (by rw[ZaH];omega)
  have d5:(wsX name gap len due late hs).drop 5=hs.map hT:=rfl
  rw[e]
  refine⟨⟨w,by simp,n.n⟩,λ y hy=>?_⟩
  have old:y∈hs.map hT->QE y=Zc∨∃a,HdW a/\y=hT a:=λ z=>by
   obtain⟨a,ha,rfl⟩:=ZR.mp z
   exact .inr ⟨a,q.hw a ha,rfl⟩
  rcases Zr.mp hy with z|z
  ·rw[List.drop_take,d5] at z
   exact old (Za5 z)
  ·rcases Zt.mp z with rfl|z
   ·exact .inl n.n
   ·rw[show p=5+(p-5) by omega,<-Zei,d5] at z
    exact old (ZaR z)
end
section
variable {k:Nat}{h:IH}{name:Str}{gap len due late:Int}{hs:List Hd}{W N:Nat}{c c0:Int}
def NT (h:IH)(v:IV)(h':IH):Prop:=∃(i:Nat)(ws:List Str),v=.ref i/\h'[i]?=Za (.lst (ws.map .str))/\NoTx ws/\Ex h h'
theorem Jnw (q:WkX name gap len due late hs)(f:numB name=Zc)(gW:h[W]?=Za (.lst ((wsX name gap len due late hs).map .str)))(gN:h[N]?=Za (.lst (nmL c0))) :
  WR (Y4 (k+3) [.ref W,.int c,.ref N] h) (NT h):=by
 have hb:=Jq
 have few:=q.few
 have m0:=Zw c (b:=5) (by decide)
 have m1:=Zq c (b:=5) (by decide)
 have q6:=Q9 c0 6
 have hl:((wsX name gap len due late hs).map IV.str).length=5+hs.length:=by simp[wsX];omega
 rw[Jh4]
 simp! [Jdr,Jds,Jdt,Jjm,gW]
 have x1:Ex h (h++[IX.lst ((wsX name gap len due late hs).map .str)]):=.one _ _
 have g1:(h++[IX.lst ((wsX name gap len due late hs).map .str)])[h.length]?=Za (.lst ((wsX name gap len due late hs).map .str)):=Ji
 have gN1:=x1.get gN
 have put:∀{h2:IH}{ws:List Str},Ex (h++[IX.lst ((wsX name gap len due late hs).map .str)]) h2->NoTx ws->NT h (.ref h.length) (h2.set h.length (.lst (ws.map .str))):=λ {h2 ws} x b=>by
  obtain⟨g,rfl⟩:=x
  refine⟨_,ws,rfl,Z1 (by simp),b,?_⟩
  rw[Zaa,Zah _ _ (Zu _)]
  exact⟨_,rfl⟩
 generalize h++[IX.lst ((wsX name gap len due late hs).map .str)]=h1 at x1 g1 gN1 put ⊢
 generalize h.length=i at g1 put ⊢
 simp! [VE,g1,hl]
 generalize hw:c%5=w at m0 m1 ⊢
 have cs:=(by decide:∀n:Nat,n<5->(n:Int)=0∨(n:Int)=1∨(n:Int)=2∨(n:Int)=3∨(n:Int)=4) w.toNat (by omega)
 rw[ZcT m0] at cs
 refine⟨by decide,⟨by decide,by decide⟩,by omega,?_⟩
 have r0:=Zw (c/5) (b:=(↑(5+hs.length)+1:Int)) (by omega)
 have r1:=Zq (c/5) (b:=(↑(5+hs.length)+1:Int)) (by omega)
 generalize c/5%(↑(5+hs.length)+1:Int)=p at r0 r1 ⊢
 have a6:atI (nmL c0) 6=Za (.str (nm c0 6)):=Vc (j:=6) (by decide) (by decide)
 have ix:∀n:Nat,n<5->ixN ((wsX name gap len due late hs).map IV.str).length (n:Int)=Za n:=λ n hn=>by simp[ixN,wsX];omega
 have e0:NoHold (Zb ""):=Jp6 (w:=Zb "a") (w':=Zb "a") q6 (Jp5 _ (by decide +kernel)) (Jp5 _ (by decide +kernel)) _ (by simp[hdL])
 have blank:WR (Jp (pg (k+2)) "insert" 2 (Jb 3) (Ja (Jb 5) (Ja (eC (.str "")) Jd)) [Za (IV.ref W),Za (IV.int c),Za (IV.ref N),Za (IV.ref i),Za (IV.int w),Za (IV.int p)] h1) λ _ h'=>WS (XT (k+2) [Za (IV.ref W),Za (IV.int c),Za (IV.ref N),Za (IV.ref i),Za (IV.int w),Za (IV.int p)] h') (λ _ h'=>NT h .non h') (NT h):=by
  rw[Vi (i:=i) (h1:=h1) rfl g1 Jjt]
  simp! [true_and]
  rw[Jk4 g1 r0 (by omega) (by omega)]
  simp! [XT]
  rw[<- Zb9,<-ZbO,<-ZA,<-Zam]
  exact put (.refl _) (Jtm q f e0 (by omega) λ _=>by decide +kernel)
 rw[Jdu]
 rcases cs with rfl|rfl|rfl|rfl|rfl
 ·refine xseq (xift rfl ?_)
  simp! [true_and]
  refine⟨by decide,?_⟩
  refine WR.mono (Jcf (c/20)) ?_
  rintro _ h2 ⟨w,rfl,n,x2⟩
  have s0:=Zw (c/5) (b:=4) (by decide)
  have s1:=Zq (c/5) (b:=4) (by decide)
  obtain⟨j,ej,hj⟩:∃j:Nat,1+c/5%4=((j+1:Nat):Int)/\j<4:=⟨(c/5%4).toNat,by omega,by omega⟩
  rw[XI]
  simp! [XJ,ej]
  refine⟨⟨by decide,by decide⟩,by decide,_,x2.get g1,j+1,ix (j+1) (by omega),?_⟩
  simp! [XT]
  rw[<- List.map_set]
  exact put x2 (Jzj q n hj)
 ·refine xseq (xiff rfl (xift rfl ?_))
  simp! [true_and]
  rw[Vi (i:=i) (h1:=h1) rfl g1 Jjt]
  simp! [VE,g1,hl,J4,gN1,a6]
  have s0:=Zw (c/75) (b:=(↑(5+hs.length)-4:Int)) (by omega)
  have s1:=Zq (c/75) (b:=(↑(5+hs.length)-4:Int)) (by omega)
  generalize c/75%(↑(5+hs.length)-4:Int)=p2 at s0 s1 ⊢
  refine⟨⟨by decide,by decide⟩,by omega,⟨by decide,by decide⟩,?_⟩
  refine WR.mono (Jnv (k:=k) (c/5) q6) ?_
  rintro _ h2 ⟨w,rfl,n,x2⟩
  rw[Jk4 (x2.get g1) (by omega) (by omega) (by omega)]
  simp! [XT]
  rw[<- Zb9,<-ZbO,<-ZA,<-Zam]
  exact put x2 (Jtm q f n (by omega) λ z=>absurd z (by omega))
 ·refine xseq (xiff rfl (xiff rfl (xift rfl ?_)))
  simp! [Vw,g1]
  refine⟨⟨by decide,by decide⟩,by decide,?_⟩
  have s0:=Zw (c/5) (b:=5) (by decide)
  have s1:=Zq (c/5) (b:=5) (by decide)
  obtain⟨j,ej,hj⟩:∃j:Nat,c/5%5=(j:Int)/\j<5:=⟨(c/5%5).toNat,by omega,by omega⟩
  rw[ej,VL,<-Zb9]
  simp! [XT]
  exact⟨_,_,rfl,Ji,Jw8 q hj,x1.trans (.one _ _)⟩
 ·refine xseq (xiff rfl (xiff rfl (xiff rfl ?_)))
  simp! [true_and]
  exact blank
 ·refine xseq (xiff rfl (xiff rfl (xiff rfl ?_)))
  simp! [true_and]
  exact blank
end
section
variable {h:IH}{name:Str}{gap len due late:Int}{hs:List Hd}
def QQ (h:IH)(v:IV)(w:Str):Prop:=∀(k:Nat)(h':IH),Ex h h'->WR (Y6 (k+7) [v] h') λ r h3=>r=.str w/\Ex h' h3
theorem QQ.ex {h1:IH}{v:IV}{w:Str}(s:QQ h v w)(x:Ex h h1):QQ h1 v w:=λ k h' x'=>s k h' (x.trans x')
theorem Jqk (G:Gw name gap len due late hs):QQ h (.str (TW (wsX name gap len due late hs))) "read":=λ k h' _ =>
 Jjg (WE.wr (Jk3 G.w λ O h3 x3 gO=>WE.of (WR.mono (Jl0 (k:=k) (hs:=hs.map tupH) G.n G.g G.l G.t (λ _=>Jil G.d.1 G.d.2) λ h1 z=>Jki (z _ _ gO) G.o) (by
  rintro _ h4 ⟨rfl,g4,rfl⟩
  exact⟨rfl,x3.trans (.cons _ _ _)⟩))))
theorem Jqm (B:BadR name gap len due late hs):QQ h (.str (TW (wsX name gap len due late hs))) "work":=λ k h' _ =>
 Jd8 .work (Jk3 B.w λ O h3 x3 gO=>WE.mono (Jvc (k:=k) (B.x h3 O gO)) (λ _ _ z=>z.elim) λ n h4 z =>
  have z:Exn "BadWork" h' n h4:=Exn.ex x3 z
  ⟨⟨_,_,z.1⟩,z⟩)
theorem Jql {ws:List Str}(n:NoTx ws):QQ h (.str (ZT (one 32) ws)) "text":=λ k h' _=>by
 obtain⟨ws',q,e,b⟩:=n.x
 rw[e]
 exact Jd8 .text (Jwt q b)
theorem Jg6 {v:IV}(t:∀h',Ex h h'->(tyI v h').bind J6=Za Zc):QQ h v "text":=λ k h' x=>Jd8 .text (Js3 (t h' x))
def hdW (c0 b:Int)(k:Nat):Hd:=(nm c0 ((k:Int)%3).toNat,2*(k:Int),2*(k:Int)+1+b)
def hsW (c0 b:Int)(m:Nat):List Hd:=(ZaO m).map (hdW c0 b)
theorem drawn (c0:Int){b size more:Int}{m:Nat}(hb0:0<=b)(hb1:b<2)(hm:m<=6)(s0:20<=size)(s1:size<10^51)(r0:0<=more)(r1:more<10^50) :
  Gw (nm c0 6) (size+more) size (size/2) (size/3) (hsW c0 b m):=by
 have q6:=Q9 c0 6
 have lo:=Vd q6
 have ln:=q6.2.1
 have at_:∀{a},a∈hsW c0 b m->∃j,j<m/\a=hdW c0 b j:=λ ha=>by
  obtain⟨j,hj,rfl⟩:=ZR.mp ha
  exact⟨j,ZbT.mp hj,rfl⟩
 refine⟨⟨λ z=>by have:=lo _ z;omega,by omega,⟨by omega,by omega⟩,⟨by omega,by omega⟩,⟨by omega,by omega⟩,⟨by omega,by omega⟩,λ a ha=>?_,by simp[hsW];omega⟩,q6,by omega,by omega,by omega,by omega,⟨by omega,by omega⟩,by omega,⟨by simp[hsW];omega,λ a ha=>?_,λ x y hx hy=>.inr (.inl ?_)⟩,by omega⟩
 ·obtain⟨j,hj,rfl⟩:=at_ ha
  exact hdw (Q9 _ _) ⟨by omega,by omega⟩ ⟨by omega,by omega⟩
 ·obtain⟨j,hj,rfl⟩:=at_ ha
  exact⟨Q9 _ _,by show 0<=2*(j:Int);omega,by show 2*(j:Int)<2*(j:Int)+1+b;omega,by show 2*(j:Int)+1+b<size;omega⟩
 ·have e:∀(z:Nat)(hz:z<(hsW c0 b m).length),(hsW c0 b m)[z]=hdW c0 b z:=λ z hz=>by simp[hsW]
  rw[e,e]
  show 2*(x:Int)+1+b<=2*(y:Int)
  omega
end
section
variable {k:Nat}{h:IH}{N:Nat}{c0:Int}
theorem Joc (c0:Int)(ns:List Int)(gN:h[N]?=Za (.lst (nmL c0))){Q:IV->IH->Prop}
  (go:∀(W:Nat)(name:Str)(gap len due late:Int)(hs:List Hd)(h1:IH)(a2 a3 a6 a7:Option IV)(c:Int),Gw name gap len due late hs->h1[W]?=Za (.lst ((wsX name gap len due late hs).map .str))->Ex h h1 ->
   WS (Jan (k+4) [Za (.rol (ns.map .int)),Za (.ref N),a2,a3,Za (.ref W),Za (.int c),a6,a7,Ze,Ze] h1) (λ _ h'=>Q .non h') Q) :
  WR (Jah (k+5) [.rol (ns.map .int),.ref N] h) Q:=by
 have hb:=Jq
 have c1:=λ (h:IH)=>Xa (k:=k+3) (h:=h) ns 1 (by decide)
 have c2:=λ (h:IH)=>Xa (k:=k+3) (h:=h) ns 2 (by decide)
 have c3:=λ (h:IH)=>Xa (k:=k+3) (h:=h) ns 3 (by decide)
 have a6:atI (nmL c0) 6=Za (.str (nm c0 6)):=Vc (j:=6) (by decide) (by decide)
 have e50:ZbH 50=50:=rfl
 rw[Jge]
 simp! [Jb2,Jb3,Jb4,Jb5,Jb6,c1,c2,c3,J4,gN,a6,e50]
 generalize ns.getD (ZbH 1) 0=y1
 generalize ns.getD (ZbH 2) 0=y2
 generalize ns.getD (ZbH 3) 0=y3
 have p0:=Zw y1 (b:=(10:Int)^50) (by decide)
 have p1:=Zq y1 (b:=(10:Int)^50) (by decide)
 have r0:=Zw y2 (b:=(10:Int)^50) (by decide)
 have r1:=Zq y2 (b:=(10:Int)^50) (by decide)
 have m0:=Zw y3 (b:=7) (by decide)
 have m1:=Zq y3 (b:=7) (by decide)
 have b0:=Zw (y3/7) (b:=2) (by decide)
 have b1:=Zq (y3/7) (b:=2) (by decide)
 refine⟨⟨by decide,by decide,by decide⟩,by decide,⟨by decide,by decide,by decide⟩,by decide,?_⟩
 generalize hs:20+y1%10^50=size
 generalize y2%10^50=more at r0 r1 ⊢
 have s0:20<=size:=by omega
 have s1:size<10^51:=by omega
 obtain⟨m,em,hm⟩:∃m:Nat,y3%7=(m:Int)/\m<=6:=⟨(y3%7).toNat,by omega,by omega⟩
 have G:=λ {n:Nat}(hn:n<=6)=>drawn c0 (m:=n) b0 b1 hn s0 s1 r0 r1
 have G0:=G (Zar 6)
 simp only[VX,G0.w.g.log,G0.w.l.log,G0.w.d.log,G0.w.t.log,Xl,exists_eq_left,exists_eq_left',IV.bl.injEq,IV.int.injEq,IV.ref.injEq,IV.str.injEq,IX.lst.injEq,IV.tup.injEq,ZH,ZW,ZV,reduceCtorEq,eq_self,true_implies,false_implies,implies_true,and_true,true_and,and_false,false_and,ZQ,ZL,ZD,Qk,Qg,Ql,Qh,Qi,Qj,JM,JL,J6,JH,JT,JP,JY,Qn,JQ,JN,JO,JR,JW,Qq,Qo,Qp,em]
 refine⟨⟨by decide,by decide⟩,⟨by decide,by decide⟩,by simp;omega,by decide,⟨by omega,by omega⟩,?_⟩
 have e0:[IV.str (nm c0 6),IV.str (tS (size+more)),IV.str (tS size),IV.str (tS (size/2)),IV.str (tS (size/3))]=(wsX (nm c0 6) (size+more) size (size/2) (size/3) (hsW c0 (y3/7%2) 0)).map IV.str:=rfl
 rw[e0]
 have z1:(Zb ":").length=1:=by decide +kernel
 have z2:(Zb "-").length=1:=by decide +kernel
 refine Xu (λ n σ h'=>∃a6 a7,σ=[Za (.rol (ns.map .int)),Za (.ref N),Za (.int size),Za (.int (size+more)),Za (.ref h.length),Za (.int y3),a6,a7,Ze,Ze]/\h'=h++[IX.lst ((wsX (nm c0 6) (size+more) size (size/2) (size/3) (hsW c0 (y3/7%2) n)).map IV.str)]) (λ _ _ _ _=>trivial) ?_ ?_ ⟨_,_,rfl,rfl⟩
 ·rintro n hn _ _ ⟨a6',a7',rfl,rfl⟩
  have hn:n<m:=by simpa [rngI] using hn
  have en:(rngI 0 (m:Int))[n]=.int (n:Int):=by simp[rngI]
  rw[en]
  have n0:=Zw (n:Int) (b:=3) (by decide)
  have n1:=Zq (n:Int) (b:=3) (by decide)
  have t1:Sm (2*(n:Int)):=⟨by omega,by omega⟩
  have t2:Sm (2*(n:Int)+1+y3/7%2):=⟨by omega,by omega⟩
  have l1:=t1.len
  have l2:=t2.len
  have ln:=(Q9 c0 ((n:Int)%3).toNat).2.1
  simp! [Jbp]
  have gw:=Ji (h:=h) (o:=IX.lst ((wsX (nm c0 6) (size+more) size (size/2) (size/3) (hsW c0 (y3/7%2) n)).map IV.str))
  have gn:(h++[IX.lst ((wsX (nm c0 6) (size+more) size (size/2) (size/3) (hsW c0 (y3/7%2) n)).map IV.str)])[N]?=_:=grow gN
  refine⟨.inl (by decide),⟨by decide,by decide⟩,by decide,?_⟩
  rw[Vi (i:=h.length) (h1:=h++[IX.lst ((wsX (nm c0 6) (size+more) size (size/2) (size/3) (hsW c0 (y3/7%2) n)).map IV.str)]) rfl gw V2]
  simp! [J4,gn,Vc n0 (by omega:(n:Int)%3<7),Qy,VX,t1.log,t2.log,Xl,Zx,z1,z2]
  refine⟨by decide,by omega,.inl (by decide),by omega,by omega,by omega,?_⟩
  simp only[VW,gw,exists_eq_left,exists_eq_left',IV.bl.injEq,IV.int.injEq,IV.ref.injEq,IV.str.injEq,IX.lst.injEq,IV.tup.injEq,ZH,ZW,ZV,reduceCtorEq,eq_self,true_implies,false_implies,implies_true,and_true,true_and,and_false,false_and,ZQ,ZL,ZD,Qk,Qg,Ql,Qh,Qi,Qj,JM,JL,J6,JH,JT,JP,JY,Qn,JQ,JN,JO,JR,JW,Qq,Qo,Qp]
  refine⟨by simp[wsX,hsW];omega,_,_,rfl,?_⟩
  rw[YQ,Jm1,Zah _ _ (Zu _),show hsW c0 (y3/7%2) n++[(nm c0 ((n:Int)%3).toNat,2*(n:Int),2*(n:Int)+1+y3/7%2)]=hsW c0 (y3/7%2) (n+1) by simp[hsW,ZcO,hdW]]
  simp
 ·rintro _ _ ⟨a6',a7',rfl,rfl⟩
  have hl:(rngI 0 (m:Int)).length=m:=by simp[rngI]
  rw[hl]
  exact go _ _ _ _ _ _ _ _ _ _ _ _ _ (G hm) Ji (.one _ _)
abbrev pr (p:IV×Str):IV:=.tup [p.1,.str p.2]
def WT (h:IH)(v:IV)(h':IH):Prop:=∃(i:Nat)(ts:List (IV×Str)),v=.ref i/\h'[i]?=Za (.lst (ts.map pr))/\ts.length<=5/\(∀p∈ts,QQ h' p.1 p.2)/\Ex h h'
theorem Jjk (c0:Int)(ns:List Int)(gN:h[N]?=Za (.lst (nmL c0))):WR (Jah (k+5) [.rol (ns.map .int),.ref N] h) (WT h):=by
 have hb:=Jq
 refine Joc c0 ns gN λ W name gap len due late hs h1 a2 a3 a6 a7 c G gW x1=>?_
 have c4:=λ (h:IH)=>Xa (k:=k+3) (h:=h) ns 4 (by decide)
 have c5:=λ (h:IH)=>Xa (k:=k+3) (h:=h) ns 5 (by decide)
 simp! [Jan,Jb7,c4,c5]
 generalize ns.getD (ZbH 4) 0=y4
 generalize ns.getD (ZbH 5) 0=y5
 refine WR.mono (Jlk (k:=k+3) G gW (x1.get gN)) ?_
 rintro _ h2 ⟨B,n',g',l',d',t',hs',rfl,gB,bad,x2⟩
 have gW2:=x2.get gW
 have gN2:=(x1.trans x2).get gN
 have x2:=x1.trans x2
 have jo:∀{h:IH}{i:Nat}{ws:List Str}{Q:IV->IH->Prop},h[i]?=Za (.lst (ws.map .str))->(∀p∈ws,p.length<=140)->ws.length<=20->Q (.str (ZT (one 32) ws)) h->WR (Xf (.str (Zb " ")) [.ref i] h) Q:=λ g l n q=>by
  rw[Jjl,Jm2]
  exact⟨_,g,_,Ym _,Jtr rfl l n,q⟩
 simp! [Jb8]
 rw[Qz (x:=Zb " ") (h1:=h2) rfl VJ]
 simp! [true_and]
 refine jo gW2 G.w.ok.len G.w.ok.few ⟨by simp;omega,?_⟩
 rw[Qz (x:=Zb " ") (h1:=h2) rfl VJ]
 simp! [true_and]
 refine jo gB bad.w.ok.len bad.w.ok.few ⟨by simp;omega,by simp;omega,?_⟩
 have e0:[IV.tup [IV.str (ZT (one 32) (wsX name gap len due late hs)),IV.str (Zb "read")],IV.tup [IV.str (ZT (one 32) (wsX n' g' l' d' t' hs')),IV.str (Zb "work")]]=[(IV.str (TW (wsX name gap len due late hs)),Zb "read"),(IV.str (TW (wsX n' g' l' d' t' hs')),Zb "work")].map pr:=rfl
 rw[e0]
 have S0:∀p∈[(IV.str (TW (wsX name gap len due late hs)),Zb "read"),(IV.str (TW (wsX n' g' l' d' t' hs')),Zb "work")],QQ h p.1 p.2:=λ p hp=>by
  simp only[Zt,Z9,or_false] at hp
  rcases hp with rfl|rfl
  ·exact Jqk G
  ·exact Jqm bad
 generalize hts:[(IV.str (TW (wsX name gap len due late hs)),Zb "read"),(IV.str (TW (wsX n' g' l' d' t' hs')),Zb "work")]=ts at S0 ⊢
 have lt:ts.length=2:=by rw[<- hts];rfl
 clear hts e0
 -- one text more
 have more:∀{W':Nat}{nm':Str}{g l d t:Int}{hh:List Hd}{h3:IH}{ts:List (IV×Str)}{σ:ISt}{a:A1}{N':ISt->IH->Prop}{R:IV->IH->Prop},WkX nm' g l d t hh->numB nm'=Zc->h2[W']?=Za (.lst ((wsX nm' g l d t hh).map .str))->Ex h2 h3->h3[h2.length]?=Za (.lst (ts.map pr))->ts.length<=4->(∀p∈ts,QQ h p.1 p.2) ->
   σ[9]?=Za (Za (.ref h2.length))->(∀h,a σ h=.ok [.ref W',.int y4,.ref N] h)->(∀(h4:IH)(ts':List (IV×Str)),Ex h2 h4->h4[h2.length]?=Za (.lst (ts'.map pr))->ts'.length=ts.length+1->(∀p∈ts',QQ h p.1 p.2)->N' σ h4) ->
   WS (JK (Jp (pg (k+4)) "append" 1 (Jb 9) (Ja (JE (Ja (Jp (pg (k+4)) "join" 1 (eC (.str " ")) (Ja (Jm (Y4 (k+4)) [] a) Jd)) (Ja (eC (.str "text")) Jd))) Jd)) σ h3) N' R:=λ {W' nm' g l d t hh h3 ts σ a N' R} q f gW' x3 gL hl S e9 ea fin=>by
  simp! [true_and]
  rw[Vi (i:=h2.length) (h1:=h3) (by show(match σ[9]? with|some (Za v)=>Res.ok v h3|_=>.stuck)=_;rw[e9]) gL V2]
  simp! [true_and]
  rw[Qz (x:=Zb " ") (h1:=h3) rfl VJ]
  simp! [ea]
  refine WR.mono (Jnw (k:=k+1) q f (x3.get gW') (x3.get gN2)) ?_
  rintro _ h4 ⟨i,ws,rfl,gi,n,x4⟩
  refine jo gi n.l n.n ⟨by simp;omega,?_⟩
  simp only[VW,x4.get gL,exists_eq_left,exists_eq_left',IV.bl.injEq,IV.int.injEq,IV.ref.injEq,IV.str.injEq,IX.lst.injEq,IV.tup.injEq,ZH,ZW,ZV,reduceCtorEq,eq_self,true_implies,false_implies,implies_true,and_true,true_and,and_false,false_and,ZQ,ZL,ZD,Qk,Qg,Ql,Qh,Qi,Qj,JM,JL,J6,JH,JT,JP,JY,Qn,JQ,JN,JO,JR,JW,Qq,Qo,Qp]
  refine⟨by rw[Zo];omega,?_⟩
  have lL:=JF (x4.get gL)
  refine fin _ (ts++[(.str (ZT (one 32) ws),Zb "text")]) ?_ (by rw[Z1 lL,Zam];rfl) (by simp) λ p hp=>?_
  ·obtain⟨g,rfl⟩:=x3.trans x4
   rw[Zah _ _ (Zu _)]
   exact⟨_,rfl⟩
  ·rcases Zr.mp hp with z|z
   ·exact S p z
   ·rw[Z3.mp z];exact Jql n
 have g3:(h2++[IX.lst (ts.map pr)])[h2.length]?=Za (.lst (ts.map pr)):=Ji
 have x3:Ex h2 (h2++[IX.lst (ts.map pr)]):=.one _ _
 generalize h2++[IX.lst (ts.map pr)]=h3 at g3 x3 ⊢
 rw[Jb9,QW]
 refine more G.w (IsNm.num G.n) gW2 x3 g3 (by omega) S0 rfl (λ _=>rfl) λ h4 ts4 x4 g4 l4 S4=>?_
 rw[Jca,QW]
 refine more bad.w bad.f gB x4 g4 (by omega) S4 rfl (λ _=>rfl) λ h5 ts5 x5 g5 l5 S5=>?_
 simp! [Jbg]
 rw[Vi (i:=h2.length) (h1:=h5) rfl g5 V2]
 simp! [J4,Ji]
 refine⟨by simp;omega,by decide,?_⟩
 have m0:=Zw y4 (b:=4) (by decide)
 have m1:=Zq y4 (b:=4) (by decide)
 obtain⟨v,ev,od⟩:∃v,atI [IV.non,IV.int 5,IV.ref W,IV.bl Zh] (y4%4)=Za v/\QQ h2 v "text":=by
  have cs:y4%4=0∨y4%4=1∨y4%4=2∨y4%4=3:=by omega
  rcases cs with e|e|e|e<;>rw[e]
  ·exact⟨_,JQ,Jg6 λ _ _=>rfl⟩
  ·exact⟨_,JN,Jg6 λ _ _=>rfl⟩
  ·exact⟨_,JO,Jg6 λ h' x=>by rw[Yo (x.get gW2)];rfl⟩
  ·exact⟨_,JR,Jg6 λ _ _=>rfl⟩
 refine⟨v,ev,by simp;omega,?_⟩
 simp only[VW,grow g5,exists_eq_left,exists_eq_left',IV.bl.injEq,IV.int.injEq,IV.ref.injEq,IV.str.injEq,IX.lst.injEq,IV.tup.injEq,ZH,ZW,ZV,reduceCtorEq,eq_self,true_implies,false_implies,implies_true,and_true,true_and,and_false,false_and,ZQ,ZL,ZD,Qk,Qg,Ql,Qh,Qi,Qj,JM,JL,J6,JH,JT,JP,JY,Qn,JQ,JN,JO,JR,JW,Qq,Qo,Qp]
 refine⟨by rw[Zo];omega,?_⟩
 simp! [Jbh]
 have gg:(h5++[IX.lst [IV.non,IV.int 5,IV.ref W,IV.bl Zh]])[h2.length]?=_:=grow g5
 have lL:=JF gg
 have x6:Ex h2 ((h5++[IX.lst [IV.non,IV.int 5,IV.ref W,IV.bl Zh]]).set h2.length (.lst (ts5.map pr++[.tup [v,.str "text"]]))):=by
  obtain⟨g,rfl⟩:=x5
  rw[Zaa,Zah _ _ (Zu _)]
  exact⟨_,rfl⟩
 refine⟨_,ts5++[(v,Zb "text")],rfl,by rw[Z1 lL,Zam];rfl,by simp;omega,λ p hp=>?_,x2.trans x6⟩
 rcases Zr.mp hp with z|z
 ·exact(S5 p z).ex (x2.trans x6)
 ·rw[Z3.mp z];exact od.ex x6
end
section
theorem X9 {p:Str}(h:p.cps.toList.count 32≠3):Qu p=Zc:=by
 unfold Qu
 rw[Je1,decide_eq_false (by omega)]
 rfl
theorem YZ {c:PQ}(q:c.Ok):(pQ c).cps.toList.count 32=3:=by
 have:=Je1 (pQ c) 32
 rw[q.split] at this
 simp only[wQ,Z0,Zal] at this
 omega
structure BadP (w:Str):Prop where
 l:w.length<=252
 x:∃ps:List Str,ps≠[]/\w=ZJ sc ps/\(∀p∈ps,NoSc p.cps.toList)/\∃p∈ps,Qu p=Zc
theorem BadP.of {w:Str}(s:NoSc w.cps.toList)(l:w.length<=252)(b:Qu w=Zc):BadP w:=⟨l,[w],by simp,rfl,by simpa using s,w,by simp,b⟩
theorem Jg4 {y:Str}:∀{A B:List Str},A≠[]->B≠[]->ZJ y (A++B)=ZJ y A++y++ZJ y B
 | [a],b::r,_,_=>JU y a b r
 | a::a'::r,B,_,hB=>by
  rw[Za3,Za3,JU,<-Za3,Jg4 (by simp) hB,JU]
  simp only[QL]
theorem Jps {y:Str}{A ps B:List Str}(hp:ps≠[]):ZJ y (A++ZJ y ps::B)=ZJ y (A++(ps++B)):=by
 have e:ZJ y (ZJ y ps::B)=ZJ y (ps++B):=by
  cases B with
  | nil=>rw[Za2];rfl
  | cons b r=>rw[JU,Jg4 hp (by simp)]
 cases A with
 | nil=>exact e
 | cons a r=>rw[Jg4 (by simp) (by simp),Jg4 (by simp) (by simp[hp]),e]
theorem Jor {A B:List Str}{w:Str}(b:BadP w)(hA:∀p∈A,59∉p.cps.toList)(hB:∀p∈B,59∉p.cps.toList):∃p∈Zad (ZT sc (A++w::B)) sc,Qu p=Zc:=by
 obtain⟨ps,hn,rfl,hs,p,hp,e⟩:=b.x
 have ej:ZT sc (A++ZJ sc ps::B)=ZT sc (A++(ps++B)):=by
  rw[show ZT sc (A++ZJ sc ps::B)=ZJ sc (A++ZJ sc ps::B) from ZU _ _,show ZT sc (A++(ps++B))=ZJ sc (A++(ps++B)) from ZU _ _,Jps hn]
 rw[ej,Jf6 (by simp[hn]) λ p hp=>?_]
 ·exact⟨p,by simp[hp],e⟩
 ·rcases Zr.mp hp with z|z
  ·exact .of (hA p z)
  ·rcases Zr.mp z with z|z
   ·exact hs p z
   ·exact .of (hB p z)
theorem NoSc.last {l:List Nat}(h:59∉l):NoSc (l++[59]):=λ i e z=>by
 by_cases hi:i<l.length
 ·rw[ZF hi] at e
  exact h (Za4 e)
 ·rw[ZI (by omega)] at z
  have:i+1-l.length=(i-l.length)+1:=by omega
  rw[this] at z
  simp at z
theorem four (a b c d:Str):TW [a,b,c,d]=a++one 32++(b++one 32++(c++one 32++d)):=by
 show ZT (one 32) _=_
 rw[show ZT (one 32) [a,b,c,d]=ZJ (one 32) [a,b,c,d] from ZU _ _,JU,JU,JU]
 rfl
theorem Juj {c:PQ}(q:c.Ok){w:Str}(n:NoNum w){j:Nat}(hj:j<3):BadP (TW ((wQ c).set (j+1) w)):=by
 have k:=q.w
 have ln:=n.l
 have a1:=q.nl
 have a2:=q.sc.len
 have a3:=q.st.len
 have a4:=q.sl.len
 have d1:=q.sc.dig
 have d2:=q.st.dig
 have d3:=q.sl.dig
 have hl:j+1<(wQ c).length:=by simp[wQ];omega
 have m:∀{P:Str->Prop},(∀p∈wQ c,P p)->P w->∀p∈(wQ c).set (j+1) w,P p:=λ a b p hp=>(Zcd hp).elim (a p) λ z=>z▸b
 have sp:Zad (TW ((wQ c).set (j+1) w)) (one 32)=(wQ c).set (j+1) w:=Jef (by simp[wQ]) (m k.free n.b)
 have pb:Qu (TW ((wQ c).set (j+1) w))=Zc:=by
  have mm:w∈((wQ c).set (j+1) w).drop 1:=Za4 (i:=j) (by rw[ZaF,Nat.add_comm 1 j,Z1 hl])
  have:(((wQ c).set (j+1) w).drop 1).all numB=Zc:=Zat.mpr λ z=>by have e:=n.n;rw[Zab.mp z w mm] at e;cases e
  unfold Qu
  rw[sp,this,ZbB]
 have ns:=q.ns
 have nb:=q.nb
 have e1:(one 32).length=1:=rfl
 have e2:sc=one 59++one 32:=by decide +kernel
 have h3:j=0∨j=1∨j=2:=by omega
 have cnt:∀{x:Str},32∉x.cps.toList->x.cps.toList.count 32=0:=λ h=>Zdn.mpr h
 have nd:∀{i:Int},Sm i->32∉(tS i).cps.toList/\59∉(tS i).cps.toList:=λ q=>⟨λ z=>by have:=q.dig _ z;omega,λ z=>by have:=q.dig _ z;omega⟩
 rcases h3 with rfl|rfl|rfl
 ·have et:TW ((wQ c).set (0+1) w)=c.name++one 32++(w++one 32++(tS c.late++one 32++tS c.len)):=four ..
  have len:(TW ((wQ c).set (0+1) w)).length<=252:=by
   rw[et]
   simp only[Zx,e1]
   omega
  rcases n.s with s|rfl
  ·refine .of (.of ?_) len pb
   rw[et]
   simp only[Jz,Q3,Zr,Z3]
   rintro((z|z)|(z|z)|(z|z)|z)
   ·exact ns z
   ·omega
   ·exact s z
   ·omega
   ·exact(nd q.st).2 z
   ·omega
   ·exact(nd q.sl).2 z
  ·refine⟨len,[c.name++one 32,tS c.late++one 32++tS c.len],by simp,?_,λ p hp=>.of ?_,c.name++one 32,by simp,X9 ?_⟩
   ·rw[et,JU]
    show _=c.name++one 32++sc++(tS c.late++one 32++tS c.len)
    rw[e2]
    simp only[QL]
   ·simp only[Zt,Z9,or_false] at hp
    rcases hp with rfl|rfl
    ·simp only[Jz,Q3,Zr,Z3]
     rintro(z|z)
     ·exact ns z
     ·omega
    ·simp only[Jz,Q3,Zr,Z3]
     rintro((z|z)|z)
     ·exact(nd q.st).2 z
     ·omega
     ·exact(nd q.sl).2 z
   ·rw[Jz,Zb6,cnt nb]
    decide
 ·have et:TW ((wQ c).set (1+1) w)=c.name++one 32++(tS c.come++one 32++(w++one 32++tS c.len)):=four ..
  have len:(TW ((wQ c).set (1+1) w)).length<=252:=by
   rw[et]
   simp only[Zx,e1]
   omega
  rcases n.s with s|rfl
  ·refine .of (.of ?_) len pb
   rw[et]
   simp only[Jz,Q3,Zr,Z3]
   rintro((z|z)|(z|z)|(z|z)|z)
   ·exact ns z
   ·omega
   ·exact(nd q.sc).2 z
   ·omega
   ·exact s z
   ·omega
   ·exact(nd q.sl).2 z
  ·refine⟨len,[c.name++one 32++(tS c.come++one 32),tS c.len],by simp,?_,λ p hp=>.of ?_,tS c.len,by simp,X9 ?_⟩
   ·rw[et,JU]
    show _=c.name++one 32++(tS c.come++one 32)++sc++tS c.len
    rw[e2]
    simp only[QL]
   ·simp only[Zt,Z9,or_false] at hp
    rcases hp with rfl|rfl
    ·simp only[Jz,Q3,Zr,Z3]
     rintro((z|z)|(z|z))
     ·exact ns z
     ·omega
     ·exact(nd q.sc).2 z
     ·omega
    ·exact(nd q.sl).2
   ·rw[cnt (nd q.sl).1]
    decide
 ·have et:TW ((wQ c).set (2+1) w)=c.name++one 32++(tS c.come++one 32++(tS c.late++one 32++w)):=four ..
  have len:(TW ((wQ c).set (2+1) w)).length<=252:=by
   rw[et]
   simp only[Zx,e1]
   omega
  have sf:59∉(c.name++one 32++(tS c.come++one 32++(tS c.late++one 32))).cps.toList:=by
   simp only[Jz,Q3,Zr,Z3]
   rintro((z|z)|(z|z)|(z|z))
   ·exact ns z
   ·omega
   ·exact(nd q.sc).2 z
   ·omega
   ·exact(nd q.st).2 z
   ·omega
  have et2:TW ((wQ c).set (2+1) w)=c.name++one 32++(tS c.come++one 32++(tS c.late++one 32))++w:=by
   rw[et]
   simp only[QL]
  refine .of ?_ len pb
  rw[et2,Jz]
  rcases n.s with s|rfl
  ·refine .of λ z=>?_
   rcases Zr.mp z with z|z
   ·exact sf z
   ·exact s z
  ·exact .last sf
end
section
variable {c:PQ}
theorem Jui (q:c.Ok):BadP (TW ((wQ c).take 3)):=by
 have k:=q.w
 have nf:=q.noSc
 have e:TW ((wQ c).take 3)=c.name++one 32++(tS c.come++one 32++tS c.late):=by
  show ZT (one 32) [c.name,tS c.come,tS c.late]=_
  rw[show ZT (one 32) [c.name,tS c.come,tS c.late]=ZJ (one 32) [c.name,tS c.come,tS c.late] from ZU _ _,JU,JU]
  rfl
 have sub:∀p∈(wQ c).take 3,p∈wQ c:=λ p hp=>Za5 hp
 have a1:=q.nl
 have a2:=q.sc.len
 have a3:=q.st.len
 have e1:(one 32).length=1:=rfl
 refine .of (.of ?_) ?_ (X9 ?_)
 ·rw[e]
  rw[pQ_l] at nf
  simp only[Jz,Q3,Zr,Zt,Z9,or_false] at nf ⊢
  rintro((z|z)|(z|z)|z)
  ·exact nf (.inl z)
  ·omega
  ·exact nf (.inr (.inr (.inl z)))
  ·omega
  ·exact nf (.inr (.inr (.inr (.inr (.inl z)))))
 ·rw[e]
  simp only[Zx,e1]
  omega
 ·have:=Je1 (TW ((wQ c).take 3)) 32
  rw[show Zad (TW ((wQ c).take 3)) (one 32)=(wQ c).take 3 from Jef (by simp[wQ]) λ p hp=>k.free p (sub p hp)] at this
  rw[show((wQ c).take 3).length=3 from rfl] at this
  omega
theorem Jiu (q:c.Ok){a b:Str}(ha:a.cps.toList.count 32+b.cps.toList.count 32=1)(sa:59∉a.cps.toList)(sb:59∉b.cps.toList)(l:a.length+b.length<=2):BadP (a++pQ c++b):=by
 have ln:=q.len
 refine .of (.of ?_) ?_ (X9 ?_)
 ·simp only[Jz,Zr]
  rintro((z|z)|z)
  ·exact sa z
  ·exact q.noSc z
  ·exact sb z
 ·simp only[Zx]
  omega
 ·simp only[Jz,Zb6,YZ q]
  omega
theorem Jrc:BadP (Zb ""):=.of (.of (by decide +kernel)) (by decide +kernel) (by decide +kernel)
theorem Jyl (c0:Int)(j l:Nat):(nm c0 j).length=(nm c0 l).length:=by rw[nm,nm,XC,XC,YW,YW]
structure NoNm (c0:Int)(o:Str):Prop where
 b:32∉o.cps.toList
 s:59∉o.cps.toList
 l:o.length<=20
 n0:nm c0 0≠o
 n1:nm c0 1≠o
theorem Jzl:∀n∈List.range' 1 8,(ZbS Ze (Za (-1)) 1 n).length=n-1:=by decide +kernel
theorem Jrg {x:Str}(q:IsNm x):(∀y∈(Zdc x Ze (Za (-1))).cps.toList,y∈x.cps.toList)/\(Zdc x Ze (Za (-1))).length<x.length:=by
 have h1:=q.1
 have h2:=q.2.1
 have sl:=Jzl x.length (by rw[Zdw];omega)
 unfold Zdc
 split
 ·rename_i z
  rw[sl] at z
  simp at z
  omega
 ·refine⟨λ y hy=>?_,?_⟩
  ·have hy:y∈(ZbS Ze (Za (-1)) 1 x.length).filterMap (x.cps[·]?):=by simpa using hy
   obtain⟨i,_,e⟩:=Zdh.mp hy
   rw[Array.mem_toList_iff]
   exact Array.mem_of_getElem? e
  ·rw[XC]
   have:=List.length_filterMap_le (x.cps[·]?) (ZbS Ze (Za (-1)) 1 x.length)
   omega
def otL (c0:Int):List Str:=[nm c0 2,Zb "",nm c0 0++nm c0 1++Zb "a",Zdc (nm c0 0) Ze (Za (-1)),Zb1 (nm c0 0)]
theorem Jsc (c0:Int):∀o∈otL c0,NoNm c0 o:=by
 have q0:=Q9 c0 0
 have q1:=Q9 c0 1
 have q2:=Q9 c0 2
 have l0:=Vd q0
 have l1:=Vd q1
 have l2:=Vd q2
 have e01:=Jyl c0 0 1
 have a0:=q0.1
 have b0:=q0.2.1
 have b1:=q1.2.1
 have b2:=q2.2.1
 have ea:Zb "a"=one 97:=by decide +kernel
 have ea1:(one 97).length=1:=rfl
 have en:∀{x y:Str},x.length≠y.length->x≠y:=λ h e=>h (congrArg ZcB e)
 intro o ho
 simp only[otL,Zt,Z9,or_false] at ho
 rcases ho with rfl|rfl|rfl|rfl|rfl
 ·exact⟨λ z=>by have:=l2 _ z;omega,λ z=>by have:=l2 _ z;omega,by omega,λ e=>absurd (Jp4 (by decide) (by decide) e) (by decide),λ e=>absurd (Jp4 (by decide) (by decide) e) (by decide)⟩
 ·have e0:(Zb "").length=0:=by decide +kernel
  exact⟨by decide +kernel,by decide +kernel,by decide +kernel,en (by omega),en (by omega)⟩
 ·rw[ea]
  have m:∀y∈(nm c0 0++nm c0 1++one 97).cps.toList,97<=y:=λ y hy=>by
   simp only[Jz,Q3,Zr,Z3] at hy
   rcases hy with(z|z)|z
   ·exact(l0 y z).1
   ·exact(l1 y z).1
   ·omega
  refine⟨λ z=>by have:=m _ z;omega,λ z=>by have:=m _ z;omega,?_,en ?_,en ?_⟩
  all_goals
   simp only[Zx,ea1]
   omega
 ·obtain⟨m,l⟩:=Jrg q0
  exact⟨λ z=>by have:=l0 _ (m _ z);omega,λ z=>by have:=l0 _ (m _ z);omega,by omega,en (by omega),en (by omega)⟩
 ·have um:=Jt9 q0
  have ul:=Jt8 q0
  have ne:∀{x:Str},IsNm x->x≠Zb1 (nm c0 0):=λ q e=>by
   have h1:0<(Zb1 (nm c0 0)).cps.toList.length:=by rw[<- X6];omega
   have m:=ZS h1
   have:=um _ m
   have:=Vd q _ (by rw[e];exact m)
   omega
  exact⟨λ z=>by have:=um _ z;omega,λ z=>by have:=um _ z;omega,by omega,ne q0,ne q1⟩
end
section
structure PQ.Nm (c:PQ):Prop where
 o:c.Ok
 n:1<=c.name.length
theorem PQ.Nm.hd {c:PQ}(q:c.Nm):(pQ c).cps.toList[0]?≠Za 32:=by
 have h:=q.n
 rw[X6] at h
 rw[pQ_l,ZF h]
 exact λ e=>q.o.nb (Za4 e)
theorem Jk0 {x:Nat}(hx:x≠32):∀{cs:List PQ},(∀c∈cs,c.Ok)->cs≠[]->(ZJ (one x) (cs.map pQ)).cps.toList.count 32=3*cs.length
 | [],_,h=>absurd rfl h
 | [c],q,_=>YZ (q c (Zv ..))
 | c::d::r,q,_=>by
  have ih:=Jk0 hx (cs:=d::r) (λ e he=>q e (Zs _ he)) (by simp)
  rw[ZA,ZA,V6,Zb6,List.count_cons,YZ (q c (Zv ..)),<-ZA,ih]
  simp only[Z0,beq_iff_eq,hx,if_false]
  omega
theorem NoSc.app {a r:List Nat}{x:Nat}(h:59∉a)(hr:NoSc r)(h0:r[0]?≠Za 32):NoSc (a++x::r):=λ i e z=>by
 by_cases hi:i<a.length
 ·rw[ZF hi] at e
  exact h (Za4 e)
 ·rw[ZI (by omega)] at e z
  cases hj:i-a.length with
  | zero =>
   rw[show i+1-a.length=0+1 by omega,Zap] at z
   exact h0 z
  | succ j =>
   rw[hj,Zap] at e
   rw[show i+1-a.length=(j+1)+1 by omega,Zap] at z
   exact hr j e z
theorem Jmy {x:Nat}:∀{cs:List PQ},(∀c∈cs,c.Nm)->cs≠[]->NoSc (ZJ (one x) (cs.map pQ)).cps.toList/\(ZJ (one x) (cs.map pQ)).cps.toList[0]?≠Za 32
 | [],_,h=>absurd rfl h
 | [c],q,_=>have q:=q c (Zv ..);⟨.of q.o.noSc,q.hd⟩
 | c::d::r,q,_=>by
  have ih:=Jmy (x:=x) (cs:=d::r) (λ e he=>q e (Zs _ he)) (by simp)
  have qc:=q c (Zv ..)
  rw[ZA,ZA,V6,<-ZA]
  refine⟨.app qc.o.noSc ih.1 ih.2,?_⟩
  have h1:0<(pQ c).cps.toList.length:=by
   rw[pQ_l]
   simp
   omega
  rw[ZF h1]
  exact qc.hd
theorem Jqo {x:Nat}(hx:x≠32){cs:List PQ}(q:∀c∈cs,c.Nm)(h2:2<=cs.length):∃p∈Zad (ZJ (one x) (cs.map pQ)) sc,Qu p=Zc:=by
 have hn:cs≠[]:=λ e=>by rw[e] at h2;simp at h2
 have e:Zad (ZT sc [ZJ (one x) (cs.map pQ)]) sc=[ZJ (one x) (cs.map pQ)]:=Jf6 (by simp) λ p hp=>by rw[Z3.mp hp];exact(Jmy q hn).1
 rw[show ZT sc [ZJ (one x) (cs.map pQ)]=ZJ (one x) (cs.map pQ) from ZU _ _] at e
 rw[e]
 exact⟨_,Z3.mpr rfl,X9 (by rw[Jk0 hx (λ c hc=>(q c hc).o) hn];omega)⟩
def Xm:List Str->List Str
 | []=>[]
 | [a]=>[a]
 | a::b::r=>(a++one 32)::Xm (b::r)
theorem Jm4:∀{l:List Str},l≠[]->Xm l≠[]
 | [_],_=>by simp[Xm]
 | _::_::_,_=>by simp[Xm]
theorem Jk2 {P:Str->Prop}:∀{l:List Str},(∀p∈l,P p/\P (p++one 32))->∀p∈Xm l,P p
 | [a],h,p,hp=>by rw[Z3.mp hp];exact(h a (Zv ..)).1
 | a::b::r,h,p,hp=>by
  rcases Zt.mp hp with rfl|z
  ·exact(h a (Zv ..)).2
  ·exact Jk2 (l:=b::r) (λ q hq=>h q (Zs _ hq)) p z
theorem Jin:∀{l:List Str},l≠[]->ZJ (one 32++sc) l=ZJ sc (Xm l)
 | [_],_=>rfl
 | a::b::r,_=>by
  obtain⟨x,t,e⟩:=Zdo (Jm4 (l:=b::r) (by simp))
  rw[JU,Jin (by simp),Xm,e,JU]
  simp only[QL]
theorem Jif {a:Str}:∀{r:List Str},ZJ (sc++one 32) (a::r)=ZJ sc (a::r.map (one 32++ ·))
 | []=>rfl
 | b::r=>by
  have h:ZJ sc ((one 32++b)::r.map (one 32++ ·))=one 32++ZJ sc (b::r.map (one 32++ ·)):=by
   cases r with
   | nil=>rfl
   | cons d t =>
    rw[ZA,JU,JU]
    simp only[QL]
  rw[JU,Jif,ZA,JU,h]
  simp only[QL]
theorem Jwb {cs:List PQ}(q:∀c∈cs,c.Nm)(h2:2<=cs.length):(∃p∈Zad (ZJ (one 32++sc) (cs.map pQ)) sc,Qu p=Zc)/\∃p∈Zad (ZJ (sc++one 32) (cs.map pQ)) sc,Qu p=Zc:=by
 match cs,h2 with
 | c::d::r,_ =>
  have ns:∀p∈(c::d::r).map pQ,59∉p.cps.toList:=λ p hp=>by
   obtain⟨e,he,rfl⟩:=ZR.mp hp
   exact(q e he).o.noSc
  have nt:∀{p:Str},59∉p.cps.toList->59∉(p++one 32).cps.toList/\59∉(one 32++p).cps.toList:=λ h=>by
   simp only[Jz,Q3,Zr,Z3]
   exact⟨λ z=>z.elim h (by omega),λ z=>z.elim (by omega) h⟩
  have cc:=YZ (q c (Zv ..)).o
  have cd:=YZ (q d (by simp)).o
  have go:∀{ps:List Str},ps≠[]->(∀p∈ps,59∉p.cps.toList)->Zad (ZJ sc ps) sc=ps:=λ {ps} h1 h2=>by
   have:=Jf6 h1 λ p hp=>NoSc.of (h2 p hp)
   rwa [show ZT sc ps=ZJ sc ps from ZU _ _] at this
  constructor
  ·rw[Jin (by simp),go (Jm4 (by simp)) (Jk2 (P:=λ p=>59∉p.cps.toList) λ p hp=>⟨ns p hp,(nt (ns p hp)).1⟩)]
   refine⟨pQ c++one 32,by simp[Xm],X9 ?_⟩
   rw[Jz,Zb6,cc]
   decide
  ·rw[ZA,Jif,go (by simp) λ p hp=>?_]
   ·refine⟨one 32++pQ d,by simp,X9 ?_⟩
    rw[Jz,Zb6,cd]
    decide
   ·rcases Zt.mp hp with rfl|z
    ·exact ns _ (by simp)
    ·obtain⟨p',hp',rfl⟩:=ZR.mp z
     exact(nt (ns p' (by rw[ZA];exact Zs _ hp'))).2
end
section
variable {h:IH}{D:Nat}{ds:List WD}
def Qb (D:Nat)(h:IH)(v:IV)(w:Str):Prop:=∀(k:Nat)(h':IH),Ex h h'->WR (Y5 (k+7) [.ref D,v] h') λ r h3=>r=.str w/\Ex h' h3
theorem Qb.ex {h1:IH}{v:IV}{w:Str}(s:Qb D h v w)(x:Ex h h1):Qb D h1 v w:=λ k h' x'=>s k h' (x.trans x')
theorem Jtt {t:Str}(h:1<=t.length):¬t=Zb "":=λ e=>by
 rw[e,show(Zb "").length=0 by decide +kernel] at h
 omega
theorem Jzp {cs:List PQ}(hn:cs≠[]):¬tQ cs=Zb "":=by
 obtain⟨c,r,rfl⟩:=Zdo hn
 refine Jtt ?_
 have:=Jhk (y:=sc) (p:=pQ c) (l:=(c::r).map pQ) (by simp)
 rw[show tQ (c::r)=ZJ sc ((c::r).map pQ) from ZU _ _]
 have h3:1<=(pQ c).length:=by
  rw[X6,pQ_l]
  simp
  omega
 omega
theorem Jy7 (hd:Du h D ds){cs:List PQ}(q:∀c∈cs,c.Ok)(hn:cs≠[])(hl:cs.length<=40)(b:∀c∈cs,∃d∈ds,d.name=c.name):Qb D h (.str (tQ cs)) "read":=λ k h' x =>
 Jgu (Jv3 (k:=k+2) (hd.kp x.kp) q hn hl (Jzp hn) b)
theorem Jy6 (hd:Du h D ds){cs:List PQ}(q:∀c∈cs,c.Ok)(hl:cs.length<=40)(b:∃c∈cs,∀d∈ds,d.name≠c.name):Qb D h (.str (tQ cs)) "name":=λ k h' x =>
 have hn:cs≠[]:=λ e=>by obtain⟨c,hc,_⟩:=b;rw[e] at hc;cases hc
 Je0 .name (Jsh (k:=k+2) (hd.kp x.kp) q hn hl (Jzp hn) b)
theorem Jqd {t:Str}(h1:1<=t.length)(h2:t.length<=99998)(b:∃p∈Zad t sc,Qu p=Zc):Qb D h (.str t) "text":=λ k h' _ =>
 Je0 .text (Jy9 (k:=k+2) (Jtt h1) (by omega) b)
theorem Jvz {A B:List Str}{w:Str}(b:BadP w)(hA:∀p∈A,59∉p.cps.toList/\p.length<=250)(hB:∀p∈B,59∉p.cps.toList/\p.length<=250)(h2:2<=(A++w::B).length)(h9:(A++w::B).length<=40):Qb D h (.str (ZT sc (A++w::B))) "text":=by
 have e:ZT sc (A++w::B)=ZJ sc (A++w::B):=ZU _ _
 refine Jqd ?_ ?_ (Jor b (λ p hp=>(hA p hp).1) λ p hp=>(hB p hp).1)
 ·have:=Jf2 (y:=sc) (by decide) (A++w::B)
  rw[e]
  omega
 ·have bl:=b.l
  have s1:=Zc6 sc (A++w::B)
  have s2:∀(l:List Str),(∀p∈l,p.length<=252)->(l.map (·.length)).sum<=l.length*252:=by
   intro l
   induction l with
   | nil=>simp
   | cons x r ih =>
    intro hl
    have:=ih λ y hy=>hl y (Zs _ hy)
    have:=hl x (Zv ..)
    simp only[ZA,Zeu,Z0]
    omega
  have s3:=s2 (A++w::B) λ p hp=>by
   rcases Zr.mp hp with z|z
   ·have:=(hA p z).2;omega
   ·rcases Zt.mp z with rfl|z
    ·exact bl
    ·have:=(hB p z).2;omega
  have s4:sc.length=2:=rfl
  rw[s4] at s1
  rw[e]
  omega
theorem Nf {v:IV}(t:∀h',Ex h h'->(tyI v h').bind J6=Za Zc):Qb D h v "text":=λ k h' x=>Je0 .text (Jv2 (t h' x))
theorem Jv1:Qb D h (.str (Zb "")) "read":=λ k h' _=>Jgu Jqh
def litL:List Str:=[Zb " ",Zb "; ",Zb ";",Zb "none"]
theorem J1e:∀t∈litL,Qb D h (.str t) "text":=by
 have key:litL.all (λ t=>decide (1<=t.length)&&decide (t.length<=99998)&&(Zad t sc).any λ p=>!Qu p)=Zh:=by decide +kernel
 intro t ht
 have:=Zab.mp key t ht
 simp only[Zl,decide_eq_true_eq,List.any_eq_true,Zaf] at this
 exact Jqd this.1.1 this.1.2 this.2
end
section
variable {k:Nat}{h:IH}{N:Nat}{c0:Int}
def szD (ns:List Int)(j:Nat):Int:=ns.getD (7+(j:Int)%3).toNat 0/((j:Int)+1)%10^55
def cD (c0 y6:Int)(ns:List Int)(j:Nat):PQ:=⟨nm c0 ((y6+j)%2).toNat,szD ns j,szD ns j/3%7,j⟩
theorem J0b (c0 y6:Int)(ns:List Int){j:Nat}(hj:j<7):(cD c0 y6 ns j).Nm:=by
 have q:=Q9 c0 ((y6+j)%2).toNat
 have lo:=Vd q
 have ln:=q.2.1
 have s0:0<=szD ns j:=Zw _ (by decide)
 have s1:szD ns j<10^55:=Zq _ (by decide)
 have t0:=Zw (szD ns j/3) (b:=7) (by decide)
 have t1:=Zq (szD ns j/3) (b:=7) (by decide)
 exact⟨⟨λ z=>by have:=lo _ z;omega,λ z=>by have:=lo _ z;omega,by show(nm c0 _).length<=20;omega,⟨s0,by show szD ns j<_;omega⟩,⟨t0,by show szD ns j/3%7<_;omega⟩,⟨by show 0<=(j:Int);omega,by show(j:Int)<_;omega⟩⟩,q.1⟩
def Pts (h:IH)(P:Nat)(ys:List (Nat×PQ)):Prop:=h[P]?=Za (.lst (ys.map λ p=>.ref p.1))/\∀p∈ys,p.1≠P/\h[p.1]?=Za (.lst ((wQ p.2).map .str))
theorem Pts.ex {h':IH}{P:Nat}{ys:List (Nat×PQ)}(p:Pts h P ys)(x:Ex h h'):Pts h' P ys:=⟨x.get p.1,λ y hy=>⟨(p.2 y hy).1,x.get (p.2 y hy).2⟩⟩
theorem Juo (c0:Int)(ns:List Int)(gN:h[N]?=Za (.lst (nmL c0))){Q:IV->IH->Prop}
  (go:∀(P:Nat)(ys:List (Nat×PQ))(h1:IH)(a4 a5:Option IV)(y6:Int),ys≠[]->ys.length<=7->(∀c∈ys,c.2.Nm/\(c.2.name=nm c0 0∨c.2.name=nm c0 1))->Pts h1 P ys->Ex h h1 ->
   WS (Jac (k+4) [Za (.rol (ns.map .int)),Za (.ref N),Za (.int y6),Za (.ref P),a4,a5,Ze,Ze,Ze,Ze,Ze,Ze,Ze] h1) (λ _ h'=>Q .non h') Q) :
  WR (Jam (k+5) [.rol (ns.map .int),.ref N] h) Q:=by
 have hb:=Jq
 have c6:=λ (h:IH)=>Xa (k:=k+3) (h:=h) ns 6 (by decide)
 rw[Jgw]
 simp! [Jco,Jcp,Jcq,c6]
 generalize ns.getD (ZbH 6) 0=y6
 have m0:=Zw y6 (b:=7) (by decide)
 have m1:=Zq y6 (b:=7) (by decide)
 obtain⟨m,em,hm⟩:∃m:Nat,1+y6%7=(m:Int)/\1<=m/\m<=7:=⟨(1+y6%7).toNat,by omega,by omega,by omega⟩
 refine⟨by simp,by decide,?_⟩
 rw[em]
 refine⟨⟨by omega,by omega⟩,?_⟩
 refine Xu (λ n σ h'=>∃a4 a5,σ=[Za (.rol (ns.map .int)),Za (.ref N),Za (.int y6),Za (.ref h.length),a4,a5,Ze,Ze,Ze,Ze,Ze,Ze,Ze]/\∃ys,ys.length=n/\(∀c∈ys,c.2.Nm/\(c.2.name=nm c0 0∨c.2.name=nm c0 1))/\Pts h' h.length ys/\Ex h h') (λ _ _ _ _=>trivial) ?_ ?_ ⟨_,_,rfl,[],rfl,by simp,⟨Ji,by simp⟩,.one _ _⟩
 ·rintro n hn _ h1 ⟨a4,a5,rfl,ys,lr,nms,⟨gP,pts⟩,x1⟩
  have hn:n<m:=by simpa [rngI] using hn
  have en:(rngI 0 (m:Int))[n]=.int (n:Int):=by simp[rngI]
  rw[en]
  have cn:=λ (h:IH)=>Xa (k:=k+3) (h:=h) ns (7+(n:Int)%3) (by have:=Zw (n:Int) (b:=3) (by decide);omega)
  have j0:=Zw (y6+n) (b:=2) (by decide)
  have j1:=Zq (y6+n) (b:=2) (by decide)
  have ok:=J0b c0 y6 ns (j:=n) (by omega)
  have e55:ZbH 55=55:=rfl
  have lg:((n:Int)+1).natAbs.log2<9000:=by
   have:((n:Int)+1).natAbs=n+1:=by omega
   rw[this]
   have h8:n+1=1∨n+1=2∨n+1=3∨n+1=4∨n+1=5∨n+1=6∨n+1=7:=by omega
   rcases h8 with e|e|e|e|e|e|e<;>rw[e]<;>decide
  simp! [Jce,cn,e55]
  refine⟨by decide,⟨by omega,lg⟩,⟨by decide,by decide,by decide⟩,by decide,?_⟩
  rw[Vi (i:=h.length) (h1:=h1) rfl gP V2]
  simp! [J4,x1.get gN,Vc j0 (by omega:(y6+n)%2<7),VX]
  have l1:(ns.getD (7+(n:Int)%3).toNat 0/((n:Int)+1)%10^55).natAbs.log2<1920:=ok.o.sc.log
  have l2:(ns.getD (7+(n:Int)%3).toNat 0/((n:Int)+1)%10^55/3%7).natAbs.log2<1920:=ok.o.st.log
  have l3:(n:Int).natAbs.log2<1920:=ok.o.sl.log
  refine⟨by decide,l1,⟨by decide,by decide⟩,by decide,l2,l3,by simp;omega,?_⟩
  have ew:[IV.str (nm c0 ((y6+(n:Int))%2).toNat),IV.str (Zb (toString (ns.getD (7+(n:Int)%3).toNat 0/((n:Int)+1)%10^55))),IV.str (Zb (toString (ns.getD (7+(n:Int)%3).toNat 0/((n:Int)+1)%10^55/3%7))),IV.str (Zb (toString (n:Int)))]=(wQ (cD c0 y6 ns n)).map IV.str:=rfl
  rw[ew]
  simp only[VW,grow gP,exists_eq_left,exists_eq_left',IV.bl.injEq,IV.int.injEq,IV.ref.injEq,IV.str.injEq,IX.lst.injEq,IV.tup.injEq,ZH,ZW,ZV,reduceCtorEq,eq_self,true_implies,false_implies,implies_true,and_true,true_and,and_false,false_and,ZQ,ZL,ZD,Qk,Qg,Ql,Qh,Qi,Qj,JM,JL,J6,JH,JT,JP,JY,Qn,JQ,JN,JO,JR,JW,Qq,Qo,Qp]
  refine⟨by rw[Zo];omega,_,_,rfl,ys++[(h1.length,cD c0 y6 ns n)],by simp[lr],λ c hc=>?_,⟨?_,λ p hp=>?_⟩,?_⟩
  ·rcases Zr.mp hc with z|z
   ·exact nms c z
   ·rw[Z3.mp z]
    refine⟨ok,?_⟩
    have h2:(y6+n)%2=0∨(y6+n)%2=1:=by omega
    rcases h2 with e|e
    ·left
     show nm c0 ((y6+n)%2).toNat=_
     rw[e]
     rfl
    ·right
     show nm c0 ((y6+n)%2).toNat=_
     rw[e]
     rfl
  ·have gg:(h1++[IX.lst ((wQ (cD c0 y6 ns n)).map .str)])[h.length]?=_:=grow gP
   rw[Z1 (JF gg),Zam]
   rfl
  ·have lP:=JF gP
   rcases Zr.mp hp with z|z
   ·obtain⟨a,b⟩:=pts p z
    refine⟨a,?_⟩
    rw[ZP (Zao a)]
    exact grow b
   ·rw[Z3.mp z]
    refine⟨by show h1.length≠_;omega,?_⟩
    rw[ZP (by show h.length≠h1.length;omega)]
    exact Ji
  ·obtain⟨g,rfl⟩:=x1
   rw[Zaa,Zah _ _ (Zu _)]
   exact⟨_,rfl⟩
 ·rintro _ h1 ⟨a4,a5,rfl,ys,ly,nms,pts,x1⟩
  have hl:(rngI 0 (m:Int)).length=m:=by simp[rngI]
  rw[hl] at ly
  exact go _ _ h1 _ _ _ (λ e=>by rw[e] at ly;simp at ly;omega) (by omega) nms pts x1
end
section
variable {k:Nat}{h:IH}{N P:Nat}{c0 y6:Int}{ns:List Int}{ys:List (Nat×PQ)}{a4 a5:Option IV}
theorem jo93 {i:Nat}{ws:List Str}{Q:IV->IH->Prop}(g:h[i]?=Za (.lst (ws.map .str)))(l:∀p∈ws,p.length<=140)(n:ws.length<=20)(q:Q (.str (TW ws)) h):WR (Xf (.str (Zb " ")) [.ref i] h) Q:=by
 rw[Jjl,Jm2]
 exact⟨_,g,_,Ym _,Jtr rfl l n,q⟩
theorem mid1 (hn:ys≠[])(hl:ys.length<=7)(nms:∀c∈ys,c.2.Nm/\(c.2.name=nm c0 0∨c.2.name=nm c0 1))(pts:Pts h P ys){Q:IV->IH->Prop}
  (go:∀(a R W:Nat)(ha:a<ys.length)(w:Str)(j:Nat)(h1:IH),j<3->NoNum w->h1[R]?=Za (.lst ((ys.map λ p=>pQ p.2).map .str))->h1[W]?=Za (.lst (((wQ (ys[a]).2).set (j+1) w).map .str))->Ex h h1 ->
   WS (Jad (k+4) [Za (.rol (ns.map .int)),Za (.ref N),Za (.int y6),Za (.ref P),a4,a5,Za (.int a),Za (.ref R),Za (.ref W),Ze,Ze,Ze,Ze] h1) (λ _ h'=>Q .non h') Q) :
  WS (Jac (k+4) [Za (.rol (ns.map .int)),Za (.ref N),Za (.int y6),Za (.ref P),a4,a5,Ze,Ze,Ze,Ze,Ze,Ze,Ze] h) (λ _ h'=>Q .non h') Q:=by
 have hb:=Jq
 obtain⟨gP,pt⟩:=pts
 have hp:0<ys.length:=List.length_pos_iff.mpr hn
 have m0:=Zw (y6/7) (b:=(ys.length:Int)) (by omega)
 have m1:=Zq (y6/7) (b:=(ys.length:Int)) (by omega)
 obtain⟨a,ea,ha⟩:∃a:Nat,y6/7%(ys.length:Int)=(a:Int)/\a<ys.length:=⟨(y6/7%(ys.length:Int)).toNat,by omega,by omega⟩
 simp! [Jac,Jcr,VE,gP,Zo,ea]
 refine⟨⟨by decide,by decide⟩,by omega,?_⟩
 refine WR.mono (Jud (h:=h) (ys:=ys) (u:=λ p=>IV.ref p.1) (f:=λ p=>IV.str (pQ p.2)) (chk:=λ h'=>h'[P]?=Za (.lst (ys.map λ p=>IV.ref p.1))) ?_ (by omega) (λ h' z=>z _ _ gP) ?_) ?_
 ·simp! [QB,gP]
 ·intro p hp h2 z
  have q:=(nms p hp).1.o
  rw[Jbl,Qz (x:=Zb " ") (h1:=h2) rfl VJ]
  simp! [true_and]
  exact jo93 (z _ _ (pt p hp).2) q.w.len q.w.few ⟨rfl,.refl _⟩
 rintro _ _ ⟨rfl,g,rfl⟩
 have x1:Ex h (h++IX.lst (ys.map λ p=>IV.str (pQ p.2))::g):=.cons _ _ _
 have gR:(h++IX.lst (ys.map λ p=>IV.str (pQ p.2))::g)[h.length]?=Za (.lst ((ys.map λ p=>pQ p.2).map .str)):=by
  rw[ZdS]
  exact JI
 generalize h++IX.lst (ys.map λ p=>IV.str (pQ p.2))::g=h1 at x1 gR ⊢
 generalize h.length=R at gR ⊢
 have at_:atI (ys.map λ p=>IV.ref p.1) (a:Int)=Za (.ref (ys[a]).1):=VI (by rw[Z6,Zn ha];rfl)
 have ga:=x1.get (pt _ (ZS ha)).2
 simp! [Jcs,J4,x1.get gP,at_,Jjm,ga,Jct]
 refine⟨⟨by decide,by decide⟩,?_⟩
 refine WR.mono (Jcf (k:=k+3) (y6/147)) ?_
 rintro _ h2 ⟨w,rfl,n,x2⟩
 have s0:=Zw (y6/49) (b:=3) (by decide)
 have s1:=Zq (y6/49) (b:=3) (by decide)
 obtain⟨j,ej,hj⟩:∃j:Nat,1+y6/49%3=((j+1:Nat):Int)/\j<3:=⟨(y6/49%3).toNat,by omega,by omega⟩
 have ix:∀j:Nat,j<3->ixN ((wQ (ys[a]).2).map IV.str).length ((j+1:Nat):Int)=Za (j+1):=λ j hj=>by
  have h3:j=0∨j=1∨j=2:=by omega
  rcases h3 with rfl|rfl|rfl<;>rfl
 rw[XI]
 simp! [XJ,ej]
 have gW:=x2.get (Ji (h:=h1) (o:=IX.lst ((wQ (ys[a]).2).map .str)))
 refine⟨⟨by decide,by decide⟩,by decide,_,gW,j+1,ix j hj,?_⟩
 have lR:=JF gR
 refine go a R h1.length ha w j _ hj n ?_ ?_ ?_
 ·rw[ZP (by omega)]
  exact x2.get (grow gR)
 ·rw[Z1 (JF gW),List.map_set]
 ·obtain⟨g2,rfl⟩:=x2
  rw[Zaa,Zah _ _ (Zu _)]
  exact x1.trans ⟨_,rfl⟩
theorem mid2 (hl:ys.length<=7)(nms:∀c∈ys,c.2.Nm/\(c.2.name=nm c0 0∨c.2.name=nm c0 1))(pts:Pts h P ys)(gN:h[N]?=Za (.lst (nmL c0))){a R W:Nat}(ha:a<ys.length){w:Str}{j:Nat}(hj:j<3)(n:NoNum w)(gR:h[R]?=Za (.lst ((ys.map λ p=>pQ p.2).map .str)))(gW:h[W]?=Za (.lst (((wQ (ys[a]).2).set (j+1) w).map .str))){Q:IV->IH->Prop}
  (go:∀(w:Str)(c':PQ)(h1:IH)(a9 a10 a12:Option IV),BadP w->c'.Ok->nm c0 0≠c'.name->nm c0 1≠c'.name->Ex h h1 ->
   WS (Jaa (k+4) [Za (.rol (ns.map .int)),Za (.ref N),Za (.int y6),Za (.ref P),a4,a5,Za (.int a),Za (.ref R),Za (.str w),a9,a10,Za (.str (pQ c')),a12] h1) (λ _ h'=>Q .non h') Q) :
  WS (Jad (k+4) [Za (.rol (ns.map .int)),Za (.ref N),Za (.int y6),Za (.ref P),a4,a5,Za (.int a),Za (.ref R),Za (.ref W),Ze,Ze,Ze,Ze] h) (λ _ h'=>Q .non h') Q:=by
 have hb:=Jq
 obtain⟨gP,pt⟩:=pts
 have q:=(nms _ (ZS ha)).1.o
 have ga:=(pt _ (ZS ha)).2
 have at_:atI (ys.map λ p=>IV.ref p.1) (a:Int)=Za (.ref (ys[a]).1):=VI (by rw[Z6,Zn ha];rfl)
 have aR:atI ((ys.map λ p=>pQ p.2).map IV.str) (a:Int)=Za (.str (pQ (ys[a]).2)):=VI (by rw[Z6,Z6,Zn ha];rfl)
 generalize (ys[a]).2=c at *
 generalize (ys[a]).1=r at *
 have a0:atI (nmL c0) 0=Za (.str (nm c0 0)):=Vc (j:=0) (by decide) (by decide)
 have a1:atI (nmL c0) 1=Za (.str (nm c0 1)):=Vc (j:=1) (by decide) (by decide)
 have a2:atI (nmL c0) 2=Za (.str (nm c0 2)):=Vc (j:=2) (by decide) (by decide)
 have l0:=(Q9 c0 0).2.1
 have l1:=(Q9 c0 1).2.1
 have z1:(Zb "a").length=1:=by decide +kernel
 simp! [Jad,J4,gN,a0,a1,a2,Qy,Jwx,Zx,z1]
 refine⟨by omega,by omega,by omega,?_⟩
 rw[Qz (x:=nm c0 0) (h1:=h) (by refine Qt ?_;simp! [J4,gN,a0]) Jmg]
 simp! [Jnc]
 refine⟨by omega,by simp;omega,?_⟩
 rw[show[IV.str (nm c0 2),IV.str (Zb ""),IV.str (nm c0 0++nm c0 1++Zb "a"),IV.str (Zdc (nm c0 0) Ze (Za (-1))),IV.str (Zb1 (nm c0 0))]=(otL c0).map IV.str from rfl]
 have o0:=Zw (y6/13) (b:=5) (by decide)
 have o1:=Zq (y6/13) (b:=5) (by decide)
 have ho:(y6/13%5).toNat<(otL c0).length:=by
  show _<5
  omega
 have on:=Jsc c0 _ (ZS ho)
 have ao:atI ((otL c0).map IV.str) (y6/13%5)=Za (.str (otL c0)[(y6/13%5).toNat]):=Vl o0 (by rw[Z6,Zn ho];rfl)
 generalize (otL c0)[(y6/13%5).toNat]=o at on ao
 have x1:Ex h (h++[IX.lst ((otL c0).map IV.str)]):=.one _ _
 have gO:(h++[IX.lst ((otL c0).map IV.str)])[h.length]?=Za (.lst ((otL c0).map IV.str)):=Ji
 generalize h++[IX.lst ((otL c0).map IV.str)]=h1 at x1 gO ⊢
 generalize h.length=O at gO ⊢
 simp! [Jcu,J4,gO,ao,Jcv]
 refine⟨⟨by decide,by decide⟩,by decide,?_⟩
 rw[Qz (x:=Zb " ") (h1:=h1) rfl VJ]
 simp! [J4,grow (x1.get gP),at_]
 refine⟨by simp;omega,?_⟩
 have sl:∀{h:IH}{lo hi:Option Int}{Q:IV->IH->Prop},h[r]?=Za (.lst ((wQ c).map .str))->Q (.ref h.length) (h++[.lst (cutI ((wQ c).map IV.str) lo hi)])->WR (slT (.ref r) lo hi h) Q:=λ {h lo hi Q} g q=>by
  show WR (slI (.ref r) lo hi h) Q
  rw[Vw]
  exact⟨_,g,q⟩
 refine sl (grow (x1.get ga)) ?_
 rw[Vh]
 refine⟨_,grow Ji,_,Ji,?_,?_⟩
 ·rw[show(Za (1:Int))=Za ((1:Nat):Int) from rfl,XU]
  simp[wQ]
  omega
 have eu:[IV.str o]++cutI ((wQ c).map IV.str) (Za 1) Ze=(wQ { c with name:=o }).map IV.str:=by
  rw[show(Za (1:Int))=Za ((1:Nat):Int) from rfl,XU]
  rfl
 rw[eu]
 have q':({ c with name:=o }:PQ).Ok:=⟨on.b,on.s,on.l,q.sc,q.st,q.sl⟩
 have x2:=x1.trans ((Ex.one h1 (IX.lst [IV.str o])).trans ((Ex.one _ (IX.lst (cutI ((wQ c).map IV.str) (Za 1) Ze))).trans (Ex.one _ (IX.lst ((wQ { c with name:=o }).map IV.str)))))
 refine jo93 Ji q'.w.len q'.w.few ?_
 generalize h1++[IX.lst [IV.str o]]++[IX.lst (cutI ((wQ c).map IV.str) (Za 1) Ze)]++[IX.lst ((wQ { c with name:=o }).map IV.str)]=h2 at x2 ⊢
 rw[show TW (wQ { c with name:=o })=pQ { c with name:=o } from rfl]
 simp! [Jbs]
 have lq:=q.len
 have zb:(Zb " ").length=1:=by decide +kernel
 have z0:(Zb " 0").length=2:=by decide +kernel
 rw[Qz (x:=Zb " ") (h1:=h2) rfl VJ]
 simp! [true_and]
 have kw:∀p∈(wQ c).set (j+1) w,p.length<=140:=λ p hp=>(Zcd hp).elim (q.w.len p) λ z=>by rw[z];have:=n.l;omega
 refine jo93 (x2.get gW) kw (by rw[Zbj];simp[wQ]) ?_
 rw[Qz (x:=Zb " ") (h1:=h2) rfl VJ]
 simp! [J4,x2.get gP,at_]
 refine sl (x2.get ga) ?_
 have e3:cutI ((wQ c).map IV.str) Ze (Za 3)=((wQ c).take 3).map IV.str:=by
  rw[show(Za (3:Int))=Za ((3:Nat):Int) from rfl,VL,Zb9]
 rw[e3]
 refine jo93 Ji (λ p hp=>q.w.len p (Za5 hp)) (by simp[wQ]) ?_
 have x3:Ex h (h2++[IX.lst (((wQ c).take 3).map IV.str)]):=x2.trans (.one _ _)
 generalize h2++[IX.lst (((wQ c).take 3).map IV.str)]=h3 at x3 ⊢
 simp only[J4,x3.get gR,aR,Qy,exists_eq_left,exists_eq_left',IV.bl.injEq,IV.int.injEq,IV.ref.injEq,IV.str.injEq,IX.lst.injEq,IV.tup.injEq,ZH,ZW,ZV,reduceCtorEq,eq_self,true_implies,false_implies,implies_true,and_true,true_and,and_false,false_and,ZQ,ZL,ZD,Qk,Qg,Ql,Qh,Qi,Qj,JM,JL,J6,JH,JT,JP,JY,Qn,JQ,JN,JO,JR,JW,Qq,Qo,Qp,z0]
 refine⟨by omega,by simp;omega,?_⟩
 have x4:Ex h (h3++[IX.lst [IV.str (TW ((wQ c).set (j+1) w)),IV.str (TW ((wQ c).take 3)),IV.str (pQ c++Zb " 0")]]):=x3.trans (.one _ _)
 have g4:(h3++[IX.lst [IV.str (TW ((wQ c).set (j+1) w)),IV.str (TW ((wQ c).take 3)),IV.str (pQ c++Zb " 0")]])[h3.length]?=_:=Ji
 generalize h3++[IX.lst [IV.str (TW ((wQ c).set (j+1) w)),IV.str (TW ((wQ c).take 3)),IV.str (pQ c++Zb " 0")]]=h4 at x4 g4 ⊢
 generalize h3.length=L at g4 ⊢
 simp! [Jbt,J4,x4.get gR,aR,Qy,zb]
 refine⟨by omega,by omega,by simp;omega,?_⟩
 rw[Vh]
 refine⟨_,grow g4,_,Ji,by simp;omega,?_⟩
 have bl:∀p∈[TW ((wQ c).set (j+1) w),TW ((wQ c).take 3),pQ c++Zb " 0",pQ c++Zb " ",Zb " "++pQ c,Zb ""],BadP p:=λ p hp=>by
  have em:∀x:Str,Zb ""++x=x:=λ x=>VU (by rw[Jz,show(Zb "").cps.toList=[] by decide +kernel,ZaM])
  have en:∀x:Str,x++Zb ""=x:=λ x=>VU (by rw[Jz,show(Zb "").cps.toList=[] by decide +kernel,Za2])
  simp only[Zt,Z9,or_false] at hp
  rcases hp with rfl|rfl|rfl|rfl|rfl|rfl
  ·exact Juj q n hj
  ·exact Jui q
  ·have:=Jiu q (a:=Zb "") (b:=Zb " 0") (by decide +kernel) (by decide +kernel) (by decide +kernel) (by decide +kernel)
   rwa [em] at this
  ·have:=Jiu q (a:=Zb "") (b:=Zb " ") (by decide +kernel) (by decide +kernel) (by decide +kernel) (by decide +kernel)
   rwa [em] at this
  ·have:=Jiu q (a:=Zb " ") (b:=Zb "") (by decide +kernel) (by decide +kernel) (by decide +kernel) (by decide +kernel)
   rwa [en] at this
  ·exact Jrc
 generalize hB:[TW ((wQ c).set (j+1) w),TW ((wQ c).take 3),pQ c++Zb " 0",pQ c++Zb " ",Zb " "++pQ c,Zb ""]=bs at bl
 have lb:bs.length=6:=by rw[<- hB];rfl
 have eb:[IV.str (TW ((wQ c).set (j+1) w)),IV.str (TW ((wQ c).take 3)),IV.str (pQ c++Zb " 0")]++[IV.str (pQ c++Zb " "),IV.str (Zb " "++pQ c),IV.str (Zb "")]=bs.map IV.str:=by rw[<- hB];rfl
 rw[eb]
 have s0:=Zw y6 (b:=6) (by decide)
 have s1:=Zq y6 (b:=6) (by decide)
 have hs:(y6%6).toNat<bs.length:=by omega
 have as_:atI (bs.map IV.str) (y6%6)=Za (.str bs[(y6%6).toNat]):=Vl s0 (by rw[Z6,Zn hs];rfl)
 have bb:=bl _ (ZS hs)
 simp! [Jbu,J4,Ji,as_]
 refine⟨by decide,?_⟩
 exact go _ _ _ _ _ _ bb q' on.n0 on.n1 (x4.trans ((Ex.one _ _).trans (.one _ _)))
end
section
variable {k:Nat}{h h0:IH}{σ:ISt}{N P R D L a:Nat}{c0 y6:Int}{ws xs ys:List Str}
def Lx (h0:IH)(σ:ISt)(e:E1)(ws:List Str):Prop:=∀h,Ex h0 h->WR (e σ h) λ v h4=>∃i,v=.ref i/\h4[i]?=Za (.lst (ws.map .str))/\Ex h h4
theorem Lx.var {j:Nat}(e:σ[j]?=Za (Za (.ref R)))(g:h0[R]?=Za (.lst (ws.map .str))):Lx h0 σ (Jb j) ws:=λ h x=>by
 rw[Jk6]
 exact⟨_,e,_,rfl,x.get g,.refl _⟩
theorem Lx.add {e1 e2:E1}(a:Lx h0 σ e1 xs)(b:Lx h0 σ e2 ys)(l:xs.length+ys.length<=100):Lx h0 σ (Jc Jf e1 e2) (xs++ys):=λ h x=>by
 have hb:=Jq
 rw[Yt]
 refine WR.mono (a h x) ?_
 rintro _ h1 ⟨i,rfl,gi,x1⟩
 refine WR.mono (b h1 (x.trans x1)) ?_
 rintro _ h2 ⟨j,rfl,gj,x2⟩
 rw[Vh]
 exact⟨_,x2.get gi,_,gj,by rw[Zo,Zo];omega,_,rfl,by rw[<- Zam];exact Ji,x1.trans (x2.trans (.one _ _))⟩
theorem Lx.cut {j:Nat}{lo hi:O1}{l u:Option Int}(e:σ[j]?=Za (Za (.ref R)))(g:h0[R]?=Za (.lst (ws.map .str)))(el:∀h,lo σ h=.ok l h)(eu:∀h,hi σ h=.ok u h)(c:cutI (ws.map IV.str) l u=xs.map IV.str):Lx h0 σ (eSl slI (Jb j) lo hi) xs:=λ h x=>by
 rw[Yx,Jk6]
 refine⟨_,e,?_⟩
 rw[el,Q0,eu,Q0,Vw]
 exact⟨_,x.get g,_,rfl,by rw[c];exact Ji,.one _ _⟩
theorem cutT {n:Nat}:cutI (ws.map IV.str) Ze (Za (n:Int))=(ws.take n).map IV.str:=by rw[VL,Zb9]
theorem cutD {n:Nat}:cutI (ws.map IV.str) (Za (n:Int)) Ze=(ws.drop n).map IV.str:=by rw[XU,ZbO]
theorem Lx.one {j:Nat}{w:Str}(e:σ[j]?=Za (Za (.str w))):Lx h0 σ (Jv (Ja (Jb j) Jd)) [w]:=λ h x=>by
 have hb:=Jq
 rw[XG,Vg,Jk6]
 refine⟨_,e,?_⟩
 rw[VD]
 exact⟨by simp;omega,_,rfl,Ji,.one _ _⟩
theorem Lx.two {i j:Nat}{w u:Str}(e:σ[i]?=Za (Za (.str w)))(f:σ[j]?=Za (Za (.str u))):Lx h0 σ (Jv (Ja (Jb i) (Ja (Jb j) Jd))) [w,u]:=λ h x=>by
 have hb:=Jq
 rw[XG,Vg,Jk6]
 refine⟨_,e,?_⟩
 rw[Vg,Jk6]
 refine⟨_,f,?_⟩
 rw[VD]
 exact⟨by simp;omega,_,rfl,Ji,.one _ _⟩
structure Tx (D:Nat)(h0 h:IH)(n:Nat):Prop where
 x:Ex h0 h
 t:∃ts:List (IV×Str),h[h0.length]?=Za (.lst (ts.map pr))/\ts.length=n/\∀p∈ts,Qb D h0 p.1 p.2
theorem Tx.more {n:Nat}{v:IV}{w:Str}(t:Tx D h0 h n)(s:Qb D h0 v w)(hn:n<=20){Q:IV->IH->Prop}{h4:IH}(x:Ex h h4)(q:∀h',Tx D h0 h' (n+1)->Q .non h'):WR (X1 (.ref h0.length) [.tup [v,.str w]] h4) Q:=by
 have hb:=Jq
 obtain⟨ts,g,l,S⟩:=t.t
 rw[VW]
 refine⟨_,x.get g,by rw[Zo];omega,q _ ⟨?_,ts++[(v,w)],?_,by simp[l],λ p hp=>?_⟩⟩
 ·obtain⟨g2,rfl⟩:=t.x.trans x
  rw[Zah _ _ (Zu _)]
  exact⟨_,rfl⟩
 ·rw[Z1 (JF (x.get g)),Zam]
  rfl
 ·rcases Zr.mp hp with z|z
  ·exact S p z
  ·rw[Z3.mp z]
   exact s
theorem Tx.join {n:Nat}{e o:E1}{lit y:Str}(t:Tx D h0 h n)(hn:n<=20)(e12:σ[12]?=Za (Za (.ref h0.length)))(eo:∀h,∃g,o σ h=.ok (.str y) (h++g))(le:Lx h0 σ e ws)(ly:y.length<=3)(l:∀p∈ws,p.length<=255)(lw:ws.length<=50)(s:Qb D h0 (.str (ZT y ws)) lit){N':ISt->IH->Prop}{R':IV->IH->Prop}(q:∀h',Tx D h0 h' (n+1)->N' σ h') :
  WS (JK (Jp (pg k) "append" 1 (Jb 12) (Ja (JE (Ja (Jp (pg k) "join" 1 o (Ja e Jd)) (Ja (eC (.str lit)) Jd))) Jd)) σ h) N' R':=by
 have hb:=Jq
 obtain⟨ts,g,_,_⟩:=t.t
 rw[Yz,Vi (i:=h0.length) (h1:=h) (by show(match σ[12]? with|some (Za v)=>Res.ok v h|_=>.stuck)=_;rw[e12]) g V2]
 rw[Vg,Yy,Vg]
 obtain⟨g1,e1⟩:=eo h
 rw[Qz (x:=y) e1 VJ,Vg]
 refine WR.mono (le _ (t.x.trans ⟨g1,rfl⟩)) ?_
 rintro _ h4 ⟨i,rfl,gi,x4⟩
 rw[VD,Jjl]
 refine⟨_,gi,_,Ym _,Jpr ly l lw,?_⟩
 rw[Vg,Xr,VD]
 refine⟨by simp;omega,?_⟩
 rw[VD]
 exact t.more s hn (Ex.trans ⟨g1,rfl⟩ x4) q
def RT (D:Nat)(h:IH)(v:IV)(h':IH):Prop:=∃(i:Nat)(ts:List (IV×Str)),v=.ref i/\h'[i]?=Za (.lst (ts.map pr))/\ts.length<=20/\(∀p∈ts,Qb D h' p.1 p.2)/\Ex h h'
def sepL:List Str:=[Zb ";",Zb " ; ",Zb ",",Zb ";  "]
theorem J1f {cs:List PQ}(q:∀c∈cs,c.Nm)(h2:2<=cs.length)(h9:cs.length<=40):∀y∈sepL,Qb D h (.str (ZT y (cs.map pQ))) "text":=by
 intro y hy
 have e:ZT y (cs.map pQ)=ZJ y (cs.map pQ):=ZU _ _
 have key:(∃p∈Zad (ZJ y (cs.map pQ)) sc,Qu p=Zc)/\1<=y.length/\y.length<=3:=by
  obtain⟨s1,s2⟩:=Jwb q h2
  simp only[sepL,Zt,Z9,or_false] at hy
  rcases hy with rfl|rfl|rfl|rfl
  ·rw[show Zb ";"=one 59 by decide +kernel]
   exact⟨Jqo (by decide) q h2,by decide,by decide⟩
  ·rw[show Zb " ; "=one 32++sc by decide +kernel]
   exact⟨s1,by decide +kernel,by decide +kernel⟩
  ·rw[show Zb ","=one 44 by decide +kernel]
   exact⟨Jqo (by decide) q h2,by decide,by decide⟩
  ·rw[show Zb ";  "=sc++one 32 by decide +kernel]
   exact⟨s2,by decide +kernel,by decide +kernel⟩
 have l3:=Jkc y key.2.2 (cs.map pQ) λ p hp=>by
  obtain⟨c,hc,rfl⟩:=ZR.mp hp
  have:=(q c hc).o.len
  omega
 have l1:=Jf2 key.2.1 (cs.map pQ)
 rw[Zo] at l1 l3
 refine Jqd (by rw[e];omega) (by omega) ?_
 rw[e]
 exact key.1
end
section
variable {k:Nat}{h:IH}{N P R D a:Nat}{c0 y6:Int}{ns:List Int}{a4 a5 a9 a10 a12:Option IV}
theorem Jxe {ds:List WD}(hd:Du h D ds)(hds:∀n:Str,n=nm c0 0∨n=nm c0 1->∃d∈ds,d.name=n)(hdn:∀d∈ds,d.name=nm c0 0∨d.name=nm c0 1){cs:List PQ}(hn:cs≠[])(hl:cs.length<=7)(nms:∀c∈cs,c.Nm/\(c.name=nm c0 0∨c.name=nm c0 1))(gR:h[R]?=Za (.lst ((cs.map pQ).map .str)))(ha:a<cs.length){w:Str}{c':PQ}(b:BadP w)(q':c'.Ok)(n0:nm c0 0≠c'.name)(n1:nm c0 1≠c'.name){Q:IV->IH->Prop}(q:∀v h',RT D h v h'->Q v h') :
  WS (Jaa (k+4) [Za (.rol (ns.map .int)),Za (.ref N),Za (.int y6),Za (.ref P),a4,a5,Za (.int a),Za (.ref R),Za (.str w),a9,a10,Za (.str (pQ c')),a12] h) (λ _ h'=>Q .non h') Q:=by
 have hb:=Jq
 have ok:∀c∈cs,c.Ok:=λ c hc=>(nms c hc).1.o
 have pl:∀p∈cs.map pQ,59∉p.cps.toList/\p.length<=250:=λ p hp=>by
  obtain⟨c,hc,rfl⟩:=ZR.mp hp
  exact⟨(ok c hc).noSc,(ok c hc).len⟩
 have lw:=b.l
 have lq:=q'.len
 have pc:=q'.noSc
 have lr:(cs.map pQ).length=cs.length:=Zo ..
 have s13:Qb D h (.str (ZT sc (cs.map pQ))) "read":=Jy7 hd ok hn (by omega) λ c hc=>hds _ (nms c hc).2
 have s15:Qb D h (.str (ZT sc ((cs.map pQ).take a++[pQ c']++(cs.map pQ).drop (a+1)))) "name":=by
  have:=Jy6 (D:=D) (cs:=cs.take a++[c']++cs.drop (a+1)) hd (λ c hc=>by
   simp only[Zr,Z3] at hc
   rcases hc with(z|rfl)|z
   ·exact ok c (Za5 z)
   ·exact q'
   ·exact ok c (ZaR z)) (by simp;omega) ⟨c',by simp,λ d hd' e=>(hdn d hd').elim (λ z=>n0 (z.symm.trans e)) λ z=>n1 (z.symm.trans e)⟩
  rw[tQ,Zam,Zam,Zb9,ZbO] at this
  exact this
 have s18:∀y∈sepL,Qb D h (.str (ZT y (cs.map pQ++(cs.map pQ).take 1))) "text":=λ y hy=>by
  have hp:0<cs.length:=List.length_pos_iff.mpr hn
  have:=J1f (D:=D) (h:=h) (cs:=cs++cs.take 1) (λ c hc=>(Zr.mp hc).elim (λ z=>(nms c z).1) λ z=>(nms c (Za5 z)).1) (by simp;omega) (by simp;omega) y hy
  rwa [Zam,Zb9] at this
 have hz:∀c∈cs,True:=λ _ _=>trivial
 clear hds hdn nms ok q' n0 n1 hz
 generalize cs.map pQ=rs at *
 generalize cs.length=m at *
 have hd3:∀p∈rs,p.length<=255:=λ p hp=>by have:=(pl p hp).2;omega
 have tk:∀{n:Nat}{p:Str},p∈rs.take n->p∈rs:=Za5
 have dr:∀{n:Nat}{p:Str},p∈rs.drop n->p∈rs:=ZaR
 simp! [Jaa]
 rw[Qz (x:=Zb "; ") (h1:=h) rfl VJ]
 simp! [true_and]
 rw[Jjl,Yi]
 refine⟨_,gR,_,Ym _,Jpr (by decide) hd3 (by omega),by simp;omega,by simp;omega,?_⟩
 have t:Tx D h (h++[IX.lst [IV.tup [IV.str (ZT sc rs),IV.str (Zb "read")]]]) 1:=⟨.one _ _,[(.str (ZT sc rs),Zb "read")],Ji,rfl,λ p hp=>by rw[Z3.mp hp];exact s13⟩
 generalize h++[IX.lst [IV.tup [IV.str (ZT sc rs),IV.str (Zb "read")]]]=h1 at t ⊢
 have ec:∀(σ:ISt) (h:IH),∃g,eC (.str (Zb "; ")) σ h=.ok (.str (Zb "; ")) (h++g):=λ σ h=>⟨[],by rw[Za2];rfl⟩
 have l3:(Zb "; ").length<=3:=by decide +kernel
 have e1:(Za ((a:Int)+1))=Za ((a+1:Nat):Int):=rfl
 rw[Jbv,QW]
 refine t.join (ws:=rs.take a++[w]++rs.drop (a+1)++rs.take 1) (by decide) rfl (ec _) (.add (.add (.add (.cut rfl gR (λ _=>rfl) (λ _=>rfl) cutT) (.one rfl) (by simp;omega)) (.cut rfl gR (λ _=>rfl) (λ _=>rfl) (by rw[<- cutD];rfl)) (by simp;omega)) (.cut rfl gR (λ _=>rfl) (λ _=>rfl) (cutT (n:=1))) (by simp;omega)) l3 ?_ (by simp;omega) ?_ λ h2 t2=>?_
 ·intro p hp
  simp only[Zr,Z3] at hp
  rcases hp with((z|rfl)|z)|z
  ·exact hd3 p (tk z)
  ·omega
  ·exact hd3 p (dr z)
  ·exact hd3 p (tk z)
 ·rw[Yi,Zaa,Zaa]
  show Qb D h (.str (ZT sc (rs.take a++w::(rs.drop (a+1)++rs.take 1)))) _
  exact Jvz b (λ p hp=>pl p (tk hp)) (λ p hp=>(Zr.mp hp).elim (λ z=>pl p (dr z)) λ z=>pl p (tk z)) (by simp;omega) (by simp;omega)
 rw[Jbw,QW]
 refine t2.join (ws:=rs.take a++[pQ c']++rs.drop (a+1)) (by decide) rfl (ec _) (.add (.add (.cut rfl gR (λ _=>rfl) (λ _=>rfl) cutT) (.one rfl) (by simp;omega)) (.cut rfl gR (λ _=>rfl) (λ _=>rfl) (by rw[<- cutD];rfl)) (by simp;omega)) l3 ?_ (by simp;omega) (by rw[Yi];exact s15) λ h3 t3=>?_
 ·intro p hp
  simp only[Zr,Z3] at hp
  rcases hp with(z|rfl)|z
  ·exact hd3 p (tk z)
  ·omega
  ·exact hd3 p (dr z)
 rw[Jbx,QW]
 refine t3.join (ws:=[pQ c']++rs.take a++[w]++rs.take 2) (by decide) rfl (ec _) (.add (.add (.add (.one rfl) (.cut rfl gR (λ _=>rfl) (λ _=>rfl) cutT) (by simp;omega)) (.one rfl) (by simp;omega)) (.cut rfl gR (λ _=>rfl) (λ _=>rfl) (cutT (n:=2))) (by simp;omega)) l3 ?_ (by simp;omega) ?_ λ h4 t4=>?_
 ·intro p hp
  simp only[Zr,Z3] at hp
  rcases hp with((rfl|z)|rfl)|z
  ·omega
  ·exact hd3 p (tk z)
  ·omega
  ·exact hd3 p (tk z)
 ·rw[Yi,Zaa]
  exact Jvz b (λ p hp=>(Zr.mp hp).elim (λ z=>by rw[Z3.mp z];exact⟨pc,lq⟩) λ z=>pl p (tk z)) (λ p hp=>pl p (tk hp)) (by simp;omega) (by simp;omega)
 rw[Jby,QW]
 refine t4.join (ws:=rs.take a++[w,pQ c']) (by decide) rfl (ec _) (.add (.cut rfl gR (λ _=>rfl) (λ _=>rfl) cutT) (.two rfl rfl) (by simp;omega)) l3 ?_ (by simp;omega) ?_ λ h5 t5=>?_
 ·intro p hp
  simp only[Zr,Zt,Z9,or_false] at hp
  rcases hp with z|rfl|rfl
  ·exact hd3 p (tk z)
  ·omega
  ·omega
 ·rw[Yi]
  exact Jvz b (λ p hp=>pl p (tk hp)) (λ p hp=>by rw[Z3.mp hp];exact⟨pc,lq⟩) (by simp) (by simp;omega)
 rw[Jbz,QW]
 have m0:=Zw y6 (b:=4) (by decide)
 have m1:=Zq y6 (b:=4) (by decide)
 obtain⟨y,hy,ay⟩:∃y∈sepL,atI (sepL.map IV.str) (y6%4)=Za (.str y):=by
  have hs:(y6%4).toNat<sepL.length:=by show _<4;omega
  exact⟨_,ZS hs,Vl m0 (by rw[Z6,Zn hs];rfl)⟩
 have ly:y.length<=3:=by
  have:sepL.all (λ y=>decide (y.length<=3))=Zh:=by decide +kernel
  exact of_decide_eq_true (Zab.mp this y hy)
 refine t5.join (y:=y) (ws:=rs++rs.take 1) (by decide) rfl (λ h=>⟨[IX.lst (sepL.map .str)],?_⟩) (.add (.var rfl gR) (.cut rfl gR (λ _=>rfl) (λ _=>rfl) (cutT (n:=1))) (by simp;omega)) ly ?_ (by simp;omega) (s18 y hy) λ h6 t6=>?_
 ·refine Qt ?_
  simp! [J4]
  exact⟨by simp;omega,by decide,_,Ji,_,ay,rfl,rfl⟩
 ·intro p hp
  exact(Zr.mp hp).elim (hd3 p) λ z=>hd3 p (tk z)
 obtain⟨ts6,g6,_,_⟩:=t6.t
 simp! [Jb0]
 rw[Vi (i:=h.length) (h1:=h6) rfl g6 V2]
 simp! [J4,Ji]
 refine⟨by simp;omega,by simp;omega,by decide,?_⟩
 have k0:=Zw y6 (b:=5) (by decide)
 have k1:=Zq y6 (b:=5) (by decide)
 obtain⟨v,ev,od⟩:∃v,atI [IV.non,IV.int 5,IV.ref R,IV.tup [IV.str (Zb "")],IV.bl Zc] (y6%5)=Za v/\Qb D h v "text":=by
  have c5:y6%5=0∨y6%5=1∨y6%5=2∨y6%5=3∨y6%5=4:=by omega
  rcases c5 with e|e|e|e|e<;>rw[e]
  ·exact⟨_,JQ,Nf λ _ _=>rfl⟩
  ·exact⟨_,JN,Nf λ _ _=>rfl⟩
  ·exact⟨_,JO,Nf λ h' x=>by rw[Yo (x.get gR)];rfl⟩
  ·exact⟨_,JR,Nf λ _ _=>rfl⟩
  ·exact⟨_,JW,Nf λ _ _=>rfl⟩
 refine⟨v,ev,by simp;omega,?_⟩
 refine t6.more od (by decide) (.one _ _) λ h7 t7=>?_
 obtain⟨ts,g7,l7,S⟩:=t7.t
 simp! [Jb1,J4,Ji]
 have ll:litL.length=4:=rfl
 have j0:=Zw (y6/3) (b:=4) (by decide)
 have j1:=Zq (y6/3) (b:=4) (by decide)
 obtain⟨t,ht,at_⟩:∃t∈litL,atI (litL.map IV.str) (y6/3%4)=Za (.str t):=by
  have hs:(y6/3%4).toNat<litL.length:=by show _<4;omega
  exact⟨_,ZS hs,Vl j0 (by rw[Z6,Zn hs];rfl)⟩
 rw[show[IV.str (Zb " "),IV.str (Zb "; "),IV.str (Zb ";"),IV.str (Zb "none")]=litL.map IV.str from rfl]
 refine⟨by simp;omega,by simp;omega,⟨by decide,by decide⟩,by decide,_,at_,by simp;omega,by simp;omega,?_⟩
 rw[Vh]
 refine⟨_,grow (grow g7),_,Ji,by simp;omega,q _ _ ⟨_,ts++[(.str (Zb ""),Zb "read"),(.str t,Zb "text")],rfl,by rw[Zam];exact Ji,by simp;omega,λ p hp=>?_,t7.x.trans ((Ex.one _ _).trans ((Ex.one _ _).trans (.one _ _)))⟩⟩
 have x7:=t7.x.trans ((Ex.one _ (IX.lst (litL.map IV.str))).trans ((Ex.one _ (IX.lst [IV.tup [IV.str (Zb ""),IV.str (Zb "read")],IV.tup [IV.str t,IV.str (Zb "text")]])).trans (.one _ (IX.lst (ts.map pr++[IV.tup [IV.str (Zb ""),IV.str (Zb "read")],IV.tup [IV.str t,IV.str (Zb "text")]])))))
 refine Qb.ex ?_ x7
 simp only[Zr,Zt,Z9,or_false] at hp
 rcases hp with z|rfl|rfl
 ·exact S p z
 ·exact Jv1
 ·exact J1e t ht
theorem Jkm (c0:Int)(ns:List Int)(gN:h[N]?=Za (.lst (nmL c0))){ds:List WD}(hd:Du h D ds)(hds:∀n:Str,n=nm c0 0∨n=nm c0 1->∃d∈ds,d.name=n)(hdn:∀d∈ds,d.name=nm c0 0∨d.name=nm c0 1):WR (Jam (k+5) [.rol (ns.map .int),.ref N] h) (RT D h):=by
 refine Juo c0 ns gN λ P ys h1 a4 a5 y6 hn hl nms pts x1=>?_
 refine mid1 hn hl nms pts λ a R W ha w j h2 hj n gR gW x2=>?_
 refine mid2 hl nms (pts.ex x2) ((x1.trans x2).get gN) ha hj n gR gW λ w c' h3 a9 a10 a12 b q' n0 n1 x3=>?_
 have x:=x1.trans (x2.trans x3)
 refine Jxe (cs:=ys.map (·.2)) (hd.kp x.kp) hds hdn (by simpa using hn) (by simpa using hl) (λ c hc=>?_) (by rw[show(ys.map (·.2)).map pQ=ys.map λ p=>pQ p.2 from ZdS ..];exact x3.get gR) (by simpa using ha) b q' n0 n1 ?_
 ·obtain⟨p,hp,rfl⟩:=ZR.mp hc
  exact nms p hp
 ·rintro _ h' ⟨i,ts,rfl,g,l,S,x'⟩
  exact⟨i,ts,rfl,g,l,S,x.trans x'⟩
end
section
variable {k:Nat}{h:IH}
noncomputable abbrev stS (ns:List Int)(N D:Nat)(a b:Option IV):ISt:=[Za (.rol (ns.map .int)),Za (.ref N),Za (.ref D),a,b]
theorem Jod {ns:List Int}{N D i:Nat}{a b:Option IV}{ts:List (IV×Str)}(g:h[i]?=Za (.lst (ts.map pr)))(S:∀p∈ts,QQ h p.1 p.2){M:ISt->IH->Prop}{R:IV->IH->Prop}(go:∀a b h',Ex h h'->M (stS ns N D a b) h') :
  WS (Qf (λ h'=>h'[i]?=Za (.lst (ts.map pr))) (gTp 2 (gC (gNm 3) (gC (gNm 4) gN))) (Ji7 (k+7)) (ts.map pr) (stS ns N D a b) h) M R:=by
 refine Xu (λ _ σ h'=>Ex h h'/\∃a b,σ=stS ns N D a b) (λ _ _ _ z=>z.1.get g) ?_ ?_ ⟨.refl _,_,_,rfl⟩
 ·rintro n hn _ h1 ⟨x1,a,b,rfl⟩
  rw[Zo] at hn
  rw[ZbE]
  have s:=S _ (ZS hn)
  generalize ts[n]=p at s ⊢
  obtain⟨v,w⟩:=p
  simp! [Jla,Jq5,Jq6,Z0,Zal,Ji7]
  refine WR.mono (s k h1 x1) ?_
  rintro _ h2 ⟨rfl,x2⟩
  simp! [XH,decide_true,ZW]
  exact⟨x1.trans x2,_,_,rfl⟩
 ·rintro _ h1 ⟨x1,a,b,rfl⟩
  exact go _ _ _ x1
theorem Jqi {ns:List Int}{N D i:Nat}{a b:Option IV}{ts:List (IV×Str)}(g:h[i]?=Za (.lst (ts.map pr)))(S:∀p∈ts,Qb D h p.1 p.2){M:ISt->IH->Prop}{R:IV->IH->Prop}(go:∀a b h',Ex h h'->M (stS ns N D a b) h') :
  WS (Qf (λ h'=>h'[i]?=Za (.lst (ts.map pr))) (gTp 2 (gC (gNm 3) (gC (gNm 4) gN))) (Ji8 (k+7)) (ts.map pr) (stS ns N D a b) h) M R:=by
 refine Xu (λ _ σ h'=>Ex h h'/\∃a b,σ=stS ns N D a b) (λ _ _ _ z=>z.1.get g) ?_ ?_ ⟨.refl _,_,_,rfl⟩
 ·rintro n hn _ h1 ⟨x1,a,b,rfl⟩
  rw[Zo] at hn
  rw[ZbE]
  have s:=S _ (ZS hn)
  generalize ts[n]=p at s ⊢
  obtain⟨v,w⟩:=p
  simp! [Jla,Jq5,Jq6,Z0,Zal,Ji8]
  refine WR.mono (s k h1 x1) ?_
  rintro _ h2 ⟨rfl,x2⟩
  simp! [XH,decide_true,ZW]
  exact⟨x1.trans x2,_,_,rfl⟩
 ·rintro _ h1 ⟨x1,a,b,rfl⟩
  exact go _ _ _ x1
def d93 (c0:Int):List WD:=[⟨nm c0 0,9,2,9,0⟩,⟨nm c0 1,7,3,7,0⟩]
theorem Jr4 (ns:List Int)(hl:ns.length<=63):∃h',XN 16 [.rol (ns.map IV.int)] []=.ok (.bl Zh) h':=by
 suffices h:WR (XN 16 [.rol (ns.map IV.int)] []) λ v _=>v=.bl Zh by
  obtain⟨v,h',e,rfl⟩:=h.eq
  exact⟨h',e⟩
 have hb:=Jq
 rw[Jxi]
 simp! [Jon,Xa ns 0 (by decide)]
 generalize ns.getD (ZbH 0) 0=c0
 refine Qm (Jr9 (k:=14) (h:=[]) c0 7 (by decide)) ?_
 have gN:([]++[IX.lst (nmL c0)]:IH)[0]?=Za (.lst (nmL c0)):=rfl
 show WS (Jlj 15 [Za (.rol (ns.map .int)),Za (.ref 0),Ze,Ze,Ze] ([]++[IX.lst (nmL c0)])) _ _
 generalize ([]++[IX.lst (nmL c0)]:IH)=h0 at gN ⊢
 have a0:atI (nmL c0) 0=Za (.str (nm c0 0)):=Vc (j:=0) (by decide) (by decide)
 have a1:atI (nmL c0) 1=Za (.str (nm c0 1)):=Vc (j:=1) (by decide) (by decide)
 simp! [Jlj,J4,gN,a0]
 refine WR.mono (Jl0 (k:=10) (hs:=[]) (Q9 c0 0) (by decide) (by decide) (by decide) (λ h1=>Jhp _) λ h1 _=>Qm (Jf3 _) ⟨rfl,.refl _⟩) ?_
 rintro _ _ ⟨rfl,g1,rfl⟩
 have x1:=Ex.cons h0 (IX.ins "Work" (wfs (nm c0 0) 9 2 9 0 [])) g1
 have w1:(h0++IX.ins "Work" (wfs (nm c0 0) 9 2 9 0 [])::g1)[h0.length]?=_:=JI
 generalize h0++IX.ins "Work" (wfs (nm c0 0) 9 2 9 0 [])::g1=h1 at x1 w1 ⊢
 generalize h0.length=W1 at w1 ⊢
 simp! [J4,x1.get gN,a1]
 refine WR.mono (Jl0 (k:=10) (hs:=[]) (Q9 c0 1) (by decide) (by decide) (by decide) (λ h1=>Jhp _) λ h1 _=>Qm (Jf3 _) ⟨rfl,.refl _⟩) ?_
 rintro _ _ ⟨rfl,g2,rfl⟩
 have x2:=Ex.cons h1 (IX.ins "Work" (wfs (nm c0 1) 7 3 7 0 [])) g2
 have w2:(h1++IX.ins "Work" (wfs (nm c0 1) 7 3 7 0 [])::g2)[h1.length]?=_:=JI
 generalize h1++IX.ins "Work" (wfs (nm c0 1) 7 3 7 0 [])::g2=h2 at x2 w2 ⊢
 generalize h1.length=W2 at w2 ⊢
 refine⟨rfl,by simp;omega,?_⟩
 have wl:AllW (h2++[IX.lst [.ref W1,.ref W2]]) [.ref W1,.ref W2] (d93 c0):=⟨rfl,λ i v d e1 e2=>by
  match i with
  | 0=>cases e1;cases e2;exact⟨_,_,rfl,grow (x2.get w1)⟩
  | 1=>cases e1;cases e2;exact⟨_,_,rfl,grow w2⟩
  | i+2=>cases e1⟩
 refine WR.mono (Jo2 (k:=12) Ji wl ?_ (by show 2<=12;decide) ?_ ?_) ?_
 ·have:nm c0 0≠nm c0 1:=λ e=>absurd (Jp4 (by decide) (by decide) e) (by decide)
  simp[d93,this]
 ·intro d hd
  simp only[d93,Zt,Z9,or_false] at hd
  rcases hd with rfl|rfl
  ·exact⟨by show(0:Int)<9;decide,by show(9:Int).natAbs.log2<9000;decide⟩
  ·exact⟨by show(0:Int)<7;decide,by show(7:Int).natAbs.log2<9000;decide⟩
 ·have:Jov (d93 c0)=3:=by rfl
  omega
 rintro _ _ ⟨rfl,g3,rfl⟩
 have x3:=(x1.trans x2).trans ((Ex.one h2 (IX.lst [.ref W1,.ref W2])).trans (Ex.cons _ (IX.ins "Duty" (dfs [.ref W1,.ref W2])) g3))
 have du:Du (h2++[IX.lst [.ref W1,.ref W2]]++IX.ins "Duty" (dfs [.ref W1,.ref W2])::g3) (h2++[IX.lst [.ref W1,.ref W2]]).length (d93 c0):=⟨_,JI,wl.kp (Ex.cons _ _ _).kp⟩
 generalize h2++[IX.lst [.ref W1,.ref W2]]++IX.ins "Duty" (dfs [.ref W1,.ref W2])::g3=h3 at x3 du ⊢
 generalize (h2++[IX.lst [.ref W1,.ref W2]]).length=D at du ⊢
 refine⟨rfl,?_⟩
 have gN3:=x3.get gN
 simp! [Joo]
 refine WR.mono (Jjk (k:=10) c0 ns gN3) ?_
 rintro _ h4 ⟨i,ts,rfl,gi,lt,S,x4⟩
 simp only[QB,gi,exists_eq_left,exists_eq_left',IV.bl.injEq,IV.int.injEq,IV.ref.injEq,IV.str.injEq,IX.lst.injEq,IV.tup.injEq,ZH,ZW,ZV,reduceCtorEq,eq_self,true_implies,false_implies,implies_true,and_true,true_and,and_false,false_and,ZQ,ZL,ZD,Qk,Qg,Ql,Qh,Qi,Qj,JM,JL,J6,JH,JT,JP,JY,Qn,JQ,JN,JO,JR,JW,Qq,Qo,Qp]
 refine Jod (k:=8) gi S λ a b h5 x5=>?_
 simp! [Jop]
 have x5:=x4.trans x5
 refine WR.mono (Jkm (k:=10) c0 ns (x5.get gN3) (du.kp x5.kp) (λ n hn=>?_) λ d hd=>?_) ?_
 ·rcases hn with rfl|rfl
  ·exact⟨_,Zv ..,rfl⟩
  ·exact⟨_,Zs _ (Zv ..),rfl⟩
 ·simp only[d93,Zt,Z9,or_false] at hd
  rcases hd with rfl|rfl
  ·exact .inl rfl
  ·exact .inr rfl
 rintro _ h6 ⟨j,ts,rfl,gj,lj,S6,x6⟩
 simp only[QB,gj,exists_eq_left,exists_eq_left',IV.bl.injEq,IV.int.injEq,IV.ref.injEq,IV.str.injEq,IX.lst.injEq,IV.tup.injEq,ZH,ZW,ZV,reduceCtorEq,eq_self,true_implies,false_implies,implies_true,and_true,true_and,and_false,false_and,ZQ,ZL,ZD,Qk,Qg,Ql,Qh,Qi,Qj,JM,JL,J6,JH,JT,JP,JY,Qn,JQ,JN,JO,JR,JW,Qq,Qo,Qp]
 refine Jqi (k:=8) gj S6 λ a b h7 x7=>?_
 simp! [Joq]
end
end LW
end
namespace LW
open PySem L2 L3 L4
section
local macro_rules | `(tactic| bv_omega) => `(tactic| exact ⟨scOk.of (by decide +kernel), rfl, rfl, λ _ _ _ _ _ _ => by first | exact len1 λ _ => rfl | exact len2 λ _ _ => rfl | exact len3 λ _ _ _ => rfl⟩)
variable {K:W.Frag}{h:Zak}{mg:Str->Option Zg}{a:Zi}{oc kV dc pm cd ct:Zg}{od an:Option Zi}{sl:Array (Option Zg)}
theorem Jl8:FnB "is_whole" "is_whole" Jeb:=by bv_omega
theorem Jgx:FnB "is_whole_from" "is_whole_from" Jao:=by bv_omega
theorem Jky:FnB "rounds_up" "rounds_up" Jdd:=by bv_omega
theorem Jn1:FnB "is_name" "is_name" Jfx:=by bv_omega
theorem Jn0:FnB "is_hold" "is_hold" Jfw:=by bv_omega
theorem Jkt:FnB "lie_apart" "lie_apart" Jc8:=by bv_omega
theorem Jn2:FnB "lies_in" "lies_in" Jfy:=by bv_omega
theorem Jh6:FnB "go_together" "go_together" Ja9:=by bv_omega
theorem Jf4:FnB "all_go_together" "all_go_together" Jae:=by bv_omega
theorem Jku:FnB "own_holds" "own_holds" Jc9:=by bv_omega
theorem Jn3:FnB "own_due" "own_due" Jfz:=by bv_omega
theorem Jkq:FnScope QN.N QN.ps (Jx QN.st):=scOk.of (by decide +kernel)
theorem Jke {C:Zi}{T:Zi}{ox:Zg}{oy:Option Zi}{nx:Nat}{sx:Array (Option Zg)}{tk1:Tok}(ha:W.findIn K (.ref C) "__init__"=Za (Za (.ref a)))(hi:W.isFn K (.ref a)=Zh)(hl:K.lookup a=Za ⟨oc,od,.func (W.fnOf "__init__" "Work.__init__" (QR QN.st) (Qc QN.st) (Jx QN.st) (.ref T) kV dc pm an cd ct),sl⟩)(hc:W.codeIn K cd "Work.__init__"=Zh)(hk:W.keepIn K (.ref a)=Zh)(hd:K.lookup T=Za ⟨ox,oy,.seq #[.none,.int 0 tk1,.none] nx,sx⟩)(hm:W.makesIn K C=Zh)(hq:W.keepIn K (.ref C)=Zh):∃fa fd,Mk K C fa/\DefOk K "__init__" QN fa fd :=
 ⟨a,_,⟨hm,ha,hi,hq⟩,⟨⟨_,⟨oc,od,kV,dc,pm,an,cd,ct,sl,rfl,hl,hc⟩,hk⟩,Jkq,(by intro j hj;rcases J1o j (show j<=3 from hj) with rfl|rfl|rfl|rfl;exact⟨[.none,.int 0 tk1,.none],λ s us Y hl=>len4 (P:=λ us=>Zck s _ ⟨us,[]⟩ (QN.ps.zip (us++[.none,.int 0 tk1,.none]))) (λ _ _ _ _=>.of_defaults rfl (Y T _ hd) rfl rfl rfl) us (show us.length=4 by rw[ZZ] at hl;exact Zca (m:=3) hl),rfl,[V.non,V.int 0,V.non],.cons rfl (.cons ⟨_,rfl⟩ (.cons rfl (.nil))),λ _ _=>⟨_,_,rfl,rfl,⟨_,_,rfl,rfl,⟨_,_,rfl,rfl,rfl⟩⟩⟩⟩;exact⟨[.int 0 tk1,.none],λ s us Y hl=>len5 (P:=λ us=>Zck s _ ⟨us,[]⟩ (QN.ps.zip (us++[.int 0 tk1,.none]))) (λ _ _ _ _ _=>.of_defaults rfl (Y T _ hd) rfl rfl rfl) us (show us.length=5 by rw[ZZ] at hl;exact Zca (m:=2) hl),rfl,[V.int 0,V.non],.cons ⟨_,rfl⟩ (.cons rfl (.nil)),λ _ _=>⟨_,_,rfl,rfl,⟨_,_,rfl,rfl,rfl⟩⟩⟩;exact⟨[.none],λ s us Y hl=>len6 (P:=λ us=>Zck s _ ⟨us,[]⟩ (QN.ps.zip (us++[.none]))) (λ _ _ _ _ _ _=>.of_defaults rfl (Y T _ hd) rfl rfl rfl) us (show us.length=6 by rw[ZZ] at hl;exact Zca (m:=1) hl),rfl,[V.non],.cons rfl (.nil),λ _ _=>⟨_,_,rfl,rfl,rfl⟩⟩;exact⟨[],λ s us Y hl=>len7 (P:=λ us=>Zck s _ ⟨us,[]⟩ (QN.ps.zip (us++[]))) (λ _ _ _ _ _ _ _=>.of_defaults rfl (Y T _ hd) rfl rfl rfl) us (show us.length=7 by rw[ZZ] at hl;exact Zca (m:=0) hl),rfl,[],.nil,λ _ _=>rfl⟩)⟩⟩
theorem Jkr:FnB "is_number" "is_number" Jc6:=by bv_omega
theorem Jmb:FnB "words_of" "words_of" Jee:=by bv_omega
theorem Jkw:FnB "read_hold" "read_hold" Jdb:=by bv_omega
theorem Jkx:FnB "read_work" "read_work" Jdc:=by bv_omega
theorem Jf5:FnB "words_of_coming" "words_of_coming" Jaf:=by bv_omega
theorem Jma:FnB "read_row" "read_row" Jed:=by bv_omega
theorem Jkv:FnB "own_works" "own_works" Jda:=by bv_omega
theorem Jl7:FnB "crowd_of" "crowd_of" Jea:=by bv_omega
theorem Jko:FnB "__init__" "Duty.__init__" Jc5:=by bv_omega
theorem Jkp:FnB "work" "Duty.work" Jez:=by bv_omega
theorem Jgg:FnB "number_of" "Duty.number_of" Jai:=by bv_omega
theorem Jjh:FnB "crowd" "Duty.crowd" Jd4:=by bv_omega
theorem Jh7:FnB "_law_cell_at" "_law_cell_at" Jba:=by bv_omega
theorem Jl9:FnB "_law_word" "_law_word" Jec:=by bv_omega
theorem Jg0:FnB "_law_said_work" "_law_said_work" Jar:=by bv_omega
theorem Jhr:FnB "_law_said_row" "_law_said_row" Jay:=by bv_omega
theorem Jks:FnB "_law_names" "_law_names" Jc7:=by bv_omega
theorem Jgy:FnB "_law_no_number" "_law_no_number" Jap:=by bv_omega
theorem Jh8:FnB "_law_no_hold" "_law_no_hold" Jbb:=by bv_omega
theorem Jhq:FnB "_law_bad_work" "_law_bad_work" Jax:=by bv_omega
theorem Jh9:FnB "_law_no_text" "_law_no_text" Jbc:=by bv_omega
theorem Jgh:FnB "_law_work_texts" "_law_work_texts" Jaj:=by bv_omega
theorem Jgz:FnB "_law_row_texts" "_law_row_texts" Jaq:=by bv_omega
theorem Jzh:FnScope Vo.N Vo.ps (Jx Vo.st):=scOk.of (by decide +kernel)
theorem Jyj (X:K.In h)(G:h.Ns Zp mg)(ha:W.nsIn K Zp "law"=Za (Za (.ref a)))(hl:K.lookup a=Za ⟨oc,od,.func (W.fnOf "law" "law" (QR Vo.st) (Qc Vo.st) (Jx Vo.st) .none kV dc pm an cd ct),sl⟩)(hc:W.codeIn K cd "law"=Zh)(hk:W.keepIn K (.ref a)=Zh):∃fa fd,mg "law"=Za (.ref fa)/\DefOk K "law" Vo fa fd/\∀(s:Zj) (v:Zg),Zck s fd ⟨[v],[]⟩ [("_law_script",v)] :=
 ⟨a,_,W.mg_of X G ha,Jte (d:=Vo) hl hc hk Jzh rfl (len1 (λ _=>rfl)),λ s v=>.of_eq rfl⟩
theorem Jmu {C:Zi}(pg:W.plainGet K C Zd7=Zh)(hd:W.hasDictIn K C=Zh)(po:W.plainOver K C=Zh)(sa:W.findIn K (.ref C) "__setattr__"=Za (Za (.builtin "object.__setattr__")))(h1:W.findIn K (.ref C) "__class__"=Za (Za (.builtin "object.__class__")))(h2:W.specialIn K (.builtin "object.__class__") "__get__"=Za (Za (.builtin "getset_descriptor.__get__")))(h3:W.takesIn K (.builtin "object.__class__")=Za Zh)(h4:W.mroIn K C (.type "object")=Za Zh)(n0:W.findIn K (.ref C) "append"=Za Ze)(n1:W.findIn K (.ref C) "at"=Za Ze)(n2:W.findIn K (.ref C) "due"=Za Ze)(n3:W.findIn K (.ref C) "gap"=Za Ze)(n4:W.findIn K (.ref C) "hold_tuples"=Za Ze)(n5:W.findIn K (.ref C) "index"=Za Ze)(n6:W.findIn K (.ref C) "insert"=Za Ze)(n7:W.findIn K (.ref C) "join"=Za Ze)(n8:W.findIn K (.ref C) "late"=Za Ze)(n9:W.findIn K (.ref C) "length"=Za Ze)(n10:W.findIn K (.ref C) "name"=Za Ze)(n11:W.findIn K (.ref C) "partition"=Za Ze)(n12:W.findIn K (.ref C) "place"=Za Ze)(n13:W.findIn K (.ref C) "split"=Za Ze)(n14:W.findIn K (.ref C) "startswith"=Za Ze)(n15:W.findIn K (.ref C) "stuck"=Za Ze)(n16:W.findIn K (.ref C) "upper"=Za Ze)(n17:W.findIn K (.ref C) "works"=Za Ze):ClsI K C/\All (λ f=>VG K C f) T.flds :=
 ⟨⟨⟨pg,hd,po,sa⟩,h1,h2,h3,h4⟩,.cons n0 (.cons n1 (.cons n2 (.cons n3 (.cons n4 (.cons n5 (.cons n6 (.cons n7 (.cons n8 (.cons n9 (.cons n10 (.cons n11 (.cons n12 (.cons n13 (.cons n14 (.cons n15 (.cons n16 (.cons n17 (.nil))))))))))))))))))⟩
theorem Jp2 {C:Zi}(ga:W.findIn K (.ref C) "__getattribute__"=Za (Za (.builtin "BaseException.__getattribute__")))(mb:W.mroIn K C (.type "BaseException")=Za Zh)(gn:W.findIn K (.ref C) "__getattr__"=Za Ze)(ca:W.findIn K (.ref C) "__class__"=Za (Za (.builtin "object.__class__")))(mo:W.mroIn K C (.type "object")=Za Zh)(hd:W.hasDictIn K C=Zh):ExI K C:=⟨ga,mb,gn,ca,mo,hd⟩
abbrev DfO (K:W.Frag)(mg:Str->Option Zg)(x:Str)(d:D4):Prop:=∃fa fd,mg x=Za (.ref fa)/\DefOk K x d fa fd
abbrev DmO (K:W.Frag)(C:Zi)(x:Str)(d:D4):Prop:=∃fa fd,Meth K C x fa/\DefOk K x d fa fd
theorem fin {prog:ZG}{w:ZX}{fa:Zi}(X:K.In h)(G:h.Ns Zp mg)(hfa:mg "law"=Za (.ref fa)){C_Work:Zi}{C_Duty:Zi}{C_BadWork:Zi}{C_NoText:Zi}{C_NoName:Zi}{C_BadDuty:Zi}{C_TooMany:Zi}{C_BadRow:Zi}{C_HoldsThings:Zi}{C_NotKept:Zi}{C_NoRanks:Zi}{C_NoRow:Zi}{C_DutyError:Zi}{tk_MOST_LETTERS:Tok}{tk_MOST_HOLDS:Tok}{tk_THING:Tok}{tk_START:Tok}{tk_END:Tok}{tk_FIGURES:Tok}{tk_MOST_FIGURES:Tok}{tk_MOST_WORKS:Tok}{tk_MOST_CROWD:Tok}
  (aX_BadWork:W.nsIn K Zp "BadWork"=Za (Za (.ref C_BadWork)))
  (aX_NoText:W.nsIn K Zp "NoText"=Za (Za (.ref C_NoText)))
  (aX_NoName:W.nsIn K Zp "NoName"=Za (Za (.ref C_NoName)))
  (aX_BadDuty:W.nsIn K Zp "BadDuty"=Za (Za (.ref C_BadDuty)))
  (aX_TooMany:W.nsIn K Zp "TooMany"=Za (Za (.ref C_TooMany)))
  (aX_BadRow:W.nsIn K Zp "BadRow"=Za (Za (.ref C_BadRow)))
  (aX_HoldsThings:W.nsIn K Zp "HoldsThings"=Za (Za (.ref C_HoldsThings)))
  (aX_NotKept:W.nsIn K Zp "NotKept"=Za (Za (.ref C_NotKept)))
  (aX_NoRanks:W.nsIn K Zp "NoRanks"=Za (Za (.ref C_NoRanks)))
  (aX_NoRow:W.nsIn K Zp "NoRow"=Za (Za (.ref C_NoRow)))
  (aX_DutyError:W.nsIn K Zp "DutyError"=Za (Za (.ref C_DutyError)))
  (xc_BadWork:W.excIn K C_BadWork [.type "ValueError",.type "Exception",.type "BaseException",.type "object"] "ValueError.__new__"=Zh)
  (xc_NoText:W.excIn K C_NoText [.type "ValueError",.type "Exception",.type "BaseException",.type "object"] "ValueError.__new__"=Zh)
  (xc_NoName:W.excIn K C_NoName [.type "ValueError",.type "Exception",.type "BaseException",.type "object"] "ValueError.__new__"=Zh)
  (ei_BadWork:ExI K C_BadWork)
  (ei_NoText:ExI K C_NoText)
  (ei_NoName:ExI K C_NoName)
  (kk_NoText:kits K (.ref C_NoText) [(C_BadWork,Zc),(C_NoText,Zh),(C_NoName,Zc)]=Zh)
  (kk_BadWork:kits K (.ref C_BadWork) [(C_BadWork,Zh),(C_NoText,Zc),(C_NoName,Zc)]=Zh)
  (kk_NoName:kits K (.ref C_NoName) [(C_BadWork,Zc),(C_NoText,Zc),(C_NoName,Zh)]=Zh)
  (kk_BadDuty:kits K (.ref C_BadDuty) [(C_BadWork,Zc),(C_NoText,Zc),(C_NoName,Zc)]=Zh)
  (kk_TooMany:kits K (.ref C_TooMany) [(C_BadWork,Zc),(C_NoText,Zc),(C_NoName,Zc)]=Zh)
  (kk_BadRow:kits K (.ref C_BadRow) [(C_BadWork,Zc),(C_NoText,Zc),(C_NoName,Zc)]=Zh)
  (kk_HoldsThings:kits K (.ref C_HoldsThings) [(C_BadWork,Zc),(C_NoText,Zc),(C_NoName,Zc)]=Zh)
  (kk_NotKept:kits K (.ref C_NotKept) [(C_BadWork,Zc),(C_NoText,Zc),(C_NoName,Zc)]=Zh)
  (kk_NoRanks:kits K (.ref C_NoRanks) [(C_BadWork,Zc),(C_NoText,Zc),(C_NoName,Zc)]=Zh)
  (kk_NoRow:kits K (.ref C_NoRow) [(C_BadWork,Zc),(C_NoText,Zc),(C_NoName,Zc)]=Zh)
  (zx_ValueError:W.nsIn K Zp "ValueError"=Za Ze)
  (kk_ValueError:kits K (.type "ValueError") [(C_BadWork,Zh),(C_NoText,Zh),(C_NoName,Zh)]=Zh)
  (kk_DutyError:kits K (.ref C_DutyError) [(C_BadWork,Zh),(C_NoText,Zh),(C_NoName,Zh)]=Zh)
  (aC_Work:W.nsIn K Zp "Work"=Za (Za (.ref C_Work)))
  (aC_Duty:W.nsIn K Zp "Duty"=Za (Za (.ref C_Duty)))
  (f_is_whole:DfO K mg "is_whole" Jeb)
  (f_is_whole_from:DfO K mg "is_whole_from" Jao)
  (f_rounds_up:DfO K mg "rounds_up" Jdd)
  (f_is_name:DfO K mg "is_name" Jfx)
  (f_is_hold:DfO K mg "is_hold" Jfw)
  (f_lie_apart:DfO K mg "lie_apart" Jc8)
  (f_lies_in:DfO K mg "lies_in" Jfy)
  (f_go_together:DfO K mg "go_together" Ja9)
  (f_all_go_together:DfO K mg "all_go_together" Jae)
  (f_own_holds:DfO K mg "own_holds" Jc9)
  (f_own_due:DfO K mg "own_due" Jfz)
  (f_is_number:DfO K mg "is_number" Jc6)
  (f_words_of:DfO K mg "words_of" Jee)
  (f_read_hold:DfO K mg "read_hold" Jdb)
  (f_read_work:DfO K mg "read_work" Jdc)
  (f_words_of_coming:DfO K mg "words_of_coming" Jaf)
  (f_read_row:DfO K mg "read_row" Jed)
  (f_own_works:DfO K mg "own_works" Jda)
  (f_crowd_of:DfO K mg "crowd_of" Jea)
  (f_law_cell_at:DfO K mg "_law_cell_at" Jba)
  (f_law_word:DfO K mg "_law_word" Jec)
  (f_law_said_work:DfO K mg "_law_said_work" Jar)
  (f_law_said_row:DfO K mg "_law_said_row" Jay)
  (f_law_names:DfO K mg "_law_names" Jc7)
  (f_law_no_number:DfO K mg "_law_no_number" Jap)
  (f_law_no_hold:DfO K mg "_law_no_hold" Jbb)
  (f_law_bad_work:DfO K mg "_law_bad_work" Jax)
  (f_law_no_text:DfO K mg "_law_no_text" Jbc)
  (f_law_work_texts:DfO K mg "_law_work_texts" Jaj)
  (f_law_row_texts:DfO K mg "_law_row_texts" Jaq)
  (f_law:∃fa fd,mg "law"=Za (.ref fa)/\DefOk K "law" Vo fa fd/\∀(s:Zj) (v:Zg),Zck s fd ⟨[v],[]⟩ [("_law_script",v)])
  (i_Work:∃fa fd,Mk K C_Work fa/\DefOk K "__init__" QN fa fd)
  (c_Work:ClsI K C_Work/\All (λ f=>VG K C_Work f) T.flds)
  (i_Duty:∃fa fd,Mk K C_Duty fa/\DefOk K "__init__" Jc5 fa fd)
  (m_Duty_work:DmO K C_Duty "work" Jez)
  (m_Duty_number_of:DmO K C_Duty "number_of" Jai)
  (m_Duty_crowd:DmO K C_Duty "crowd" Jd4)
  (c_Duty:ClsI K C_Duty/\All (λ f=>VG K C_Duty f) T.flds)
  (g_MOST_LETTERS:W.nsIn K Zp "MOST_LETTERS"=Za (Za (.int 8 tk_MOST_LETTERS)))
  (g_MOST_HOLDS:W.nsIn K Zp "MOST_HOLDS"=Za (Za (.int 6 tk_MOST_HOLDS)))
  (g_THING:W.nsIn K Zp "THING"=Za (Za (.int 0 tk_THING)))
  (g_START:W.nsIn K Zp "START"=Za (Za (.int 1 tk_START)))
  (g_END:W.nsIn K Zp "END"=Za (Za (.int 2 tk_END)))
  (g_FIGURES:W.nsIn K Zp "FIGURES"=Za (Za (.str "0123456789" tk_FIGURES)))
  (g_MOST_FIGURES:W.nsIn K Zp "MOST_FIGURES"=Za (Za (.int 60 tk_MOST_FIGURES)))
  (g_MOST_WORKS:W.nsIn K Zp "MOST_WORKS"=Za (Za (.int 12 tk_MOST_WORKS)))
  (g_MOST_CROWD:W.nsIn K Zp "MOST_CROWD"=Za (Za (.int 80 tk_MOST_CROWD)))
  (k_Work_NoneType:W.kitOne K (.type "NoneType") (.ref C_Work)=Za Zc)
  (k_Work_bool:W.kitOne K (.type "bool") (.ref C_Work)=Za Zc)
  (k_Work_int:W.kitOne K (.type "int") (.ref C_Work)=Za Zc)
  (k_Work_str:W.kitOne K (.type "str") (.ref C_Work)=Za Zc)
  (k_Work_list:W.kitOne K (.type "list") (.ref C_Work)=Za Zc)
  (k_Work_tuple:W.kitOne K (.type "tuple") (.ref C_Work)=Za Zc)
  (k_Work_dict:W.kitOne K (.type "dict") (.ref C_Work)=Za Zc)
  (k_Work_Work:W.kitOne K (.ref C_Work) (.ref C_Work)=Za (memS "Work" ["Work"]))
  (k_Work_Duty:W.kitOne K (.ref C_Duty) (.ref C_Work)=Za (memS "Duty" ["Work"]))
  (z_all:W.nsIn K Zp "all"=Za Ze)
  (z_bool:W.nsIn K Zp "bool"=Za Ze)
  (z_enumerate:W.nsIn K Zp "enumerate"=Za Ze)
  (z_int:W.nsIn K Zp "int"=Za Ze)
  (z_isinstance:W.nsIn K Zp "isinstance"=Za Ze)
  (z_len:W.nsIn K Zp "len"=Za Ze)
  (z_list:W.nsIn K Zp "list"=Za Ze)
  (z_max:W.nsIn K Zp "max"=Za Ze)
  (z_range:W.nsIn K Zp "range"=Za Ze)
  (z_set:W.nsIn K Zp "set"=Za Ze)
  (z_str:W.nsIn K Zp "str"=Za Ze)
  (z_sum:W.nsIn K Zp "sum"=Za Ze)
  (z_tuple:W.nsIn K Zp "tuple"=Za Ze)
  : ∃fd:Zax,(∀(s:Zj) (v:Zg),Zck s fd ⟨[v],[]⟩ [("_law_script",v)])/\∀base:Zak,K.In base->base.Ns Zp mg->FnOk prog w K mg base (CXI prog w) 64 fa fd ["_law_script"] (Yk K "_law_script" (XN 16)):=by
 obtain⟨fa',fd,hm,ok,hb⟩:=f_law
 have e:=hfa.symm.trans hm
 cases e
 have XA:All (λ p:Str×Zi=>W.nsIn K Zp p.1=Za (Za (.ref p.2))/\ExI K p.2) [("BadWork",C_BadWork),("NoText",C_NoText),("NoName",C_NoName)]:=.cons (⟨aX_BadWork,ei_BadWork⟩) (.cons (⟨aX_NoText,ei_NoText⟩) (.cons (⟨aX_NoName,ei_NoName⟩) (.nil)))
 have O:TabOk (ceOf [("Work",C_Work),("Duty",C_Duty)]) T K mg:=Jzs _
  (.cons (f_is_whole) (.cons (f_is_whole_from) (.cons (f_rounds_up) (.cons (f_is_name) (.cons (f_is_hold) (.cons (f_lie_apart) (.cons (f_lies_in) (.cons (f_go_together) (.cons (f_all_go_together) (.cons (f_own_holds) (.cons (f_own_due) (.cons (f_is_number) (.cons (f_words_of) (.cons (f_read_hold) (.cons (f_read_work) (.cons (f_words_of_coming) (.cons (f_read_row) (.cons (f_own_works) (.cons (f_crowd_of) (.cons (f_law_cell_at) (.cons (f_law_said_work) (.cons (f_law_said_row) (.cons (f_law_names) (.cons (f_law_no_number) (.cons (f_law_no_hold) (.cons (f_law_bad_work) (.cons (f_law_no_text) (.cons (f_law_work_texts) (.cons (f_law_row_texts) (.cons (⟨_,_,hm,ok⟩) (.nil)))))))))))))))))))))))))))))))
  (.cons ((let ⟨fa,fd,p,q⟩:=i_Work;⟨C_Work,fa,fd,W.mg_of X G aC_Work,by kernel_rfl,p,q⟩)) (.cons ((let ⟨fa,fd,p,q⟩:=i_Duty;⟨C_Duty,fa,fd,W.mg_of X G aC_Duty,by kernel_rfl,p,q⟩)) (.nil)))
  (.cons (⟨C_Work,by kernel_rfl,.nil⟩) (.cons (⟨C_Duty,by kernel_rfl,.cons (m_Duty_work) (.cons (m_Duty_number_of) (.cons (m_Duty_crowd) (.nil)))⟩) (.nil)))
  (.cons (⟨_,.int 8,W.mg_of X G g_MOST_LETTERS,⟨tk_MOST_LETTERS,rfl⟩,λ _ _=>rfl⟩) (.cons (⟨_,.int 6,W.mg_of X G g_MOST_HOLDS,⟨tk_MOST_HOLDS,rfl⟩,λ _ _=>rfl⟩) (.cons (⟨_,.int 0,W.mg_of X G g_THING,⟨tk_THING,rfl⟩,λ _ _=>rfl⟩) (.cons (⟨_,.int 1,W.mg_of X G g_START,⟨tk_START,rfl⟩,λ _ _=>rfl⟩) (.cons (⟨_,.int 2,W.mg_of X G g_END,⟨tk_END,rfl⟩,λ _ _=>rfl⟩) (.cons (⟨_,.str "0123456789",W.mg_of X G g_FIGURES,⟨tk_FIGURES,rfl⟩,λ _ _=>rfl⟩) (.cons (⟨_,.int 60,W.mg_of X G g_MOST_FIGURES,⟨tk_MOST_FIGURES,rfl⟩,λ _ _=>rfl⟩) (.cons (⟨_,.int 12,W.mg_of X G g_MOST_WORKS,⟨tk_MOST_WORKS,rfl⟩,λ _ _=>rfl⟩) (.cons (⟨_,.int 80,W.mg_of X G g_MOST_CROWD,⟨tk_MOST_CROWD,rfl⟩,λ _ _=>rfl⟩) (.nil))))))))))
  (.cons (c_Work) (.cons (c_Duty) (.nil)))
  (.cons (⟨C_Work,W.mg_of X G aC_Work,k_Work_NoneType,k_Work_bool,k_Work_int,k_Work_str,k_Work_list,k_Work_tuple,k_Work_dict,.cons (k_Work_Work) (.cons (k_Work_Duty) (.nil))⟩) (.nil))
  (.cons (W.mg_none_of X G z_all) (.cons (W.mg_none_of X G z_bool) (.cons (W.mg_none_of X G z_enumerate) (.cons (W.mg_none_of X G z_int) (.cons (W.mg_none_of X G z_isinstance) (.cons (W.mg_none_of X G z_len) (.cons (W.mg_none_of X G z_list) (.cons (W.mg_none_of X G z_max) (.cons (W.mg_none_of X G z_range) (.cons (W.mg_none_of X G z_set) (.cons (W.mg_none_of X G z_str) (.cons (W.mg_none_of X G z_sum) (.cons (W.mg_none_of X G z_tuple) (.nil))))))))))))))
  (.cons (⟨C_BadWork,W.mg_of X G aX_BadWork,aX_BadWork,xc_BadWork⟩) (.cons (⟨C_NoText,W.mg_of X G aX_NoText,aX_NoText,xc_NoText⟩) (.cons (⟨C_NoName,W.mg_of X G aX_NoName,aX_NoName,xc_NoName⟩) (.nil))))
  (.cons (⟨(.ref C_NoText),.inl (W.mg_of X G aX_NoText),QX (bs:=[Zc,Zh,Zc]) XA rfl kk_NoText⟩) (.cons (⟨(.ref C_BadWork),.inl (W.mg_of X G aX_BadWork),QX (bs:=[Zh,Zc,Zc]) XA rfl kk_BadWork⟩) (.cons (⟨(.ref C_NoName),.inl (W.mg_of X G aX_NoName),QX (bs:=[Zc,Zc,Zh]) XA rfl kk_NoName⟩) (.cons (⟨(.ref C_BadDuty),.inl (W.mg_of X G aX_BadDuty),QX (bs:=[Zc,Zc,Zc]) XA rfl kk_BadDuty⟩) (.cons (⟨(.ref C_TooMany),.inl (W.mg_of X G aX_TooMany),QX (bs:=[Zc,Zc,Zc]) XA rfl kk_TooMany⟩) (.cons (⟨(.ref C_BadRow),.inl (W.mg_of X G aX_BadRow),QX (bs:=[Zc,Zc,Zc]) XA rfl kk_BadRow⟩) (.cons (⟨(.ref C_HoldsThings),.inl (W.mg_of X G aX_HoldsThings),QX (bs:=[Zc,Zc,Zc]) XA rfl kk_HoldsThings⟩) (.cons (⟨(.ref C_NotKept),.inl (W.mg_of X G aX_NotKept),QX (bs:=[Zc,Zc,Zc]) XA rfl kk_NotKept⟩) (.cons (⟨(.ref C_NoRanks),.inl (W.mg_of X G aX_NoRanks),QX (bs:=[Zc,Zc,Zc]) XA rfl kk_NoRanks⟩) (.cons (⟨(.ref C_NoRow),.inl (W.mg_of X G aX_NoRow),QX (bs:=[Zc,Zc,Zc]) XA rfl kk_NoRow⟩) (.cons (⟨(.type "ValueError"),.inr ⟨W.mg_none_of X G zx_ValueError,rfl⟩,QX (bs:=[Zh,Zh,Zh]) XA rfl kk_ValueError⟩) (.cons (⟨(.ref C_DutyError),.inl (W.mg_of X G aX_DutyError),QX (bs:=[Zh,Zh,Zh]) XA rfl kk_DutyError⟩) (.nil)))))))))))))
  .nil
  (.cons (⟨f_law_word,_,rfl,rfl⟩) (.nil))
 exact⟨fd,hb,λ base _ _=>Jvf O (λ h=>absurd rfl h) 16 rfl ok⟩
end
end LW
open PySem L2
theorem LW.walk {l:W.OpenLaw}{q:ZG}{loose:List Str}{XP:(Str->Option Zg)->Zak->Prop}{YP:ZX->Zak->Prop}{d:DefRec}{K:Params->W.Frag}(hn:l.most=Za 63)(hdf:d.params.defaults=[])
  (hY:∀(w:ZX)(h:Zak),YP w h->(K w.params).In h)
  (F:∀(w:ZX)(mg:Str->Option Zg)(fa:Zi)(h:Zak),(K w.params).In h->h.Ns Zp mg->mg d.name=Za (.ref fa) ->
   ∃fd:Zax,(∀(s:Zj) (u:Zg),Zck s fd ⟨[u],[]⟩ [("_law_script",u)])/\∀base:Zak,(K w.params).In base->base.Ns Zp mg->FnOk l.prog w (K w.params) mg base (L3.CXI l.prog w) 64 fa fd ["_law_script"] (L3.Yk (K w.params) "_law_script" (LW.XN 16))) :
  W.WalkO q loose XP YP l.row.toRowW d [] (λ f vs=>PySem.call f vs) :=
 L2.Jwm (n:=63) (k:=64) (x:="_law_script") (CX:=λ w=>L3.CXI l.prog w) (sp:=λ w=>L3.Yk (K w.params) "_law_script" (LW.XN 16)) hn (by decide) hdf ⟨rfl,by decide,by decide⟩ hY F (λ _ _ a ns hl hO hS=>L3.Jpw hO hS (LW.Jr4 ns hl)) λ _ _ _ _ _ z=>z.elim λ _ y=>y.2.2.2.2
open PySem PySem.W PyProof.Rows
structure PySem.W.Fast:Prop where (tw2188351319712967269 tw7140335351393459556 tw9950752342182731918 tw14605305859757477615 tw8781190615427524892 tw215934721006401413 tw8944285333675475230 tw16866908792981856735 tw305968954390468861 tw3624608556545174105
tw3659588303158962047 tw13356076327214108898 tw4243677231878794798 tw15875323393354729943 tw15258414231282977362 tw13320787316936142652 tw14290408693122016032 tw5725306018125130591 tw6154207285954307574 tw4795313820070878616
tw4324733399159282471 tw6734041497179459362 tw13395127742747873867 tw259590607416421985 tw12293666316589533831 tw1903003795667006615 tw14188154398950146652 tw16101342525809599198 tw2629524938590962854 tw10465605779066507756
tw1523893557582564763 tw16866622760363168635 tw4011624308144822089 tw8137477335160055420 tw6798447713397772550 tw11923193687728246703 tw12266882323691993636 tw282547857933157311 tw10144122094991001365 tw12403811197232029882
tw9692415358631075435 tw4048112762496851505 tw1547091819466762323 tw8925858100727837290 tw6215495184432868977 tw14230864160854672740 tw548501574384407176 tw12688008838888632251 tw4968196823206709639 tw11696369793929879328
tw10134106827923674821 tw6281488511870923739 tw8461126038348817722 tw133351658387537716 tw344250922152549636 tw2562449848560458714 tw6758535245951240952 tw3388137542743226257 tw1709641191951946141 tw14668707472802001032
tw1110604812706264630 tw2207146406723786589 tw14663486911099403260 tw14064298547216152450 tw6559038298636164090 tw16763715291776101060 tw82852405923096133 tw2818454944363853436 tw1033611181333899485 tw11775266304226903917
tw18204373091425587986 tw1141985846390606393 tw18130252769223671602 tw5051906787771382072 tw13117385191861000937 tw14501118260974239789 tw15092407977079214179 tw9242315623866082958 tw4961142950039493350 tw17468125642199250439
tw18426769217573039477 tw4872776603423293008 tw9170799146199994002 tw3617925418023675547 tw8397192538146420146 tw15231783678536282271 tw3522319237937500107 tw16536532841355229471 tw2841154916703830393 tw18164891217908679504
tw13553793985182744528 tw17820076663608892951 tw8377950279264558655 tw14116964375674888263 tw9280698836935301808 tw16231925089622211561 tw9629817109847847958 tw569142566304427684 tw5496900658489349195 tw4703572744228984753
tw1064987184971140326 tw5036208364261145722 tw9699279615228110085 tw11618211768051650069 tw17980959097409629715 tw909122742697448487 tw2719304011863401982 tw16576714910793192371 tw16910948951161668422 tw9106429283943721122
tw5474085754940983248 tw10002539731653057072 tw2925350283728785326 tw8914495715878443790 tw10117926257087488128 tw13719134859862637205 tw11300106483734572856 tw672462774341416121 tw196798770792830419 tw17459078647584292208
tw15488716266232307121 tw4121861152372707777 tw11627655102008510544 tw16743129369102254277 tw9404842368811848958 tw220042738264462912 tw8474280650779148315 tw13385044454097369449 tw259116316923977072 tw8332278185525456330
tw14616980149288475046 tw16883384889252399521 tw15815522410162891939 tw3878152595201953064 tw17003165487631220260 tw14843719944361622693 tw9818260587770869632 tw11486757837951270922 tw14106480295677510273 tw13447402304896362196
tw13829234339651782798 tw10473751030972954870 tw5708921590606364279 tw4662122567673063766 tw13426033301161305493 tw5394174856144020303 tw8843835183246031393 tw11910824133330319849 tw16918653298327600632 tw13638865532450673939
tw4814400940536620204 tw939914624443706453 tw11956906396182965942 tw12579508311787557439 tw1261699193230652264 tw14464758445274124880 tw6972501588344687086 tw16988434574826243212 tw1021928382755926909 tw9584481690199334958
tw9637060833010845669 tw13154777696089646243 tw4983156915478519943 tw8520518981865730168 tw13541335438775884167 tw7551566009491246179 tw9177655209260440792 tw16798876495400502960 tw44747935255994701 tw10360071582302250918
tw11426925978747855651 tw8296102540991613712 tw8643460708884872435 tw15982693647620466409 tw15670699292981977497 tw14453262306262028919 tw4454842615518013113 tw2414238207241255268 tw3323049591977553945 tw3936547696833617589
tw17985821784234424601 tw14769557600908770527 tw1151604523772125360 tw13511008629031264074 tw4477514049797775362 tw5865737593053836261 tw11131219765091489886 tw6557415008639088360 tw17621945455337633424 tw16791296485881009347
tw2419218978553533826 tw9131310100907128436 tw13715935530682745173 tw13325102316908708594 tw2089535527784843292 tw16732834879583533431 tw10981001264767778071 tw11738768087381803780 tw15941768768681827277 tw1619277305075650583
tw12865065790025290055 tw16842932459172610989 tw7754763895849011873 tw13921880965724663340 tw6910069112745372410 tw304938386753871935 tw2689098440348210613 tw8016982401648513971 tw3619256709952184518 tw11982295909682711670
tw764751205636374816 tw16086026201483828874 tw8601347962618618096 tw13508684832134826265 tw9202742556299403470 tw13281348627934651975 tw5577832599271681570 tw2383585581258294566 tw17247953190490832195 tw12061524881751539225
tw17918034287908553533 tw3625363876980875296 tw11035854271324152961 tw2195439845513046470 tw7781389771603375045 tw7812464462676951780 tw9309494488148433449 tw6871001403513417662 tw13046005528750206364 tw18414315847258341781
tw1181291997770757549 tw7076311893211683019 tw17905260941056601970 tw15589261729457517732 tw8752648808467351614 tw5475790980404856384 tw5759923130561972646 tw1937538829840292722 tw11311385050282396927 tw3263810293264876840
tw3431298600958356370 tw5171050872753897492 tw12030702807099265106 tw14073267456476970250 tw14993494067318643192 tw1466836223846561854 tw5424243124419784481 tw6758964180534431813 tw9336004037494998729 tw10786591425959165085
tw11799495110580461489 tw5803374136217901299 tw1741421091150528333 tw10002452461813969001 tw965141637862616070 tw6808878113804296487 tw13945454429208042108 tw10082735652217937352 tw5642697501345237041 tw1579875454269636363
tw14169809105151895497 tw2920049554322965862 tw17090632313844643221 tw12122528904826950578 tw3945515370804764255 tw3395405060492429733 tw12803172329593114505 tw708672570118976863 tw13107506826050290257 tw13415031570769743137
tw7819623614175719678 tw12406589371567621603 tw5529938705955139805 tw15126647848679237681 tw8177731844114276317 tw9335530474838331070 tw310737030411841517 tw517720195980537326 tw15801453285379504949 tw7285839222322124239
tw13359524363022980594 tw1055038458021438084 tw16048038601756585484 tw16217178790452281623 tw12138838183540491587 tw15245315455077491211 tw13661723073479007443 tw15295638757342804446 tw5104199693797905249 tw10547983833210267554
tw12079807441417667280 tw8575493380125550248 tw8652367850304529479 tw12527860493917157072 tw13142289742196793445 tw1679550667134550411 tw4468975168611530499 tw7706463137765552345 tw13718188612696061760 tw3345712767740616895
tw14315770296352684003 tw4335084083716721789 tw2758013505154898634 tw8300035846652942513 tw17636353360831985465 tw11387299333773711076 tw14629830336578695393 tw8363909261735250437 tw1527219910313806861 tw8093546310232328504
tw13062618787777637409 tw17981974129331084163 tw7799270523702945662 tw13551233316087563971 tw3599827131234297739 tw15030956804965369548 tw8293190104048807503 tw10162052672695768382 tw17433282245233917550 tw6154702681924543537
tw15161983190500594273 tw14724523197423086901 tw17683986916647387446 tw16649139057179828605 tw17338060238985740037 tw9873954855323476948 tw3949234581589552484 tw12253729890055143685 tw11692974596023168388 tw10935252468726580369
tw8261614120975836451 tw16581104582630051557 tw7405947592999805054 tw3596087312355908558 tw6924451349717945479 tw2685403773692068149 tw14574918749389845418 tw6542385175231641368 tw4739385396133106535 tw6440239941443694344
tw6702988375252836040 tw17432728150849505846 tw8286807818448271998 tw8387599699846364384 tw1150682029455593481 tw2882250205412357325 tw5612524118916876132 tw9836237294570736629 tw9338588541687427416 tw4075226269385958398
tw7311871671889983111 tw79150092920823584 tw5916110511772766639 tw17877310116049169275 tw4210594948257453488 tw17568755655176275457 tw5693396286906665494 tw5790899598717539516 tw12310408741051811364 tw15302799135368046761
tw14289927741892720752 tw384457615567145096 tw2386450285742804069 tw1869733603044290794 tw13082747877065647010 tw11733971011161311132 tw12334606131467537937 tw12985391499945153107 tw18325646038025676337 tw10296848265521148654
tw87984824038336719 tw180728127744678965 tw17884156075113366078 tw13377956508610084827 tw14736400087245393097 tw8148523501175878355 tw10957223779553439704 tw2644408300982926292 tw909371351100217790 tw4762649616084106904
tw11686627166557843772 tw14441597107551625019 tw3399106282116497823 tw7811866007039650694 tw12010610233699887307 tw14889564709134313394 tw9721574791270445313 tw6408571050588418354 tw2074494952150408257 tw5632620906824423079
tw8517708989893355171 tw5941309165122684567 tw8275440012538489962 tw5183983274851371713 tw16080824618063671328 tw10825361291016784744 tw9024680170752515281 tw14368433996293811300 tw6535299289391080638 tw1773759535149572208
tw10554317740853495893 tw542863566520653730 tw12099223447111726123 tw7998061561919184154 tw14074067656540865829 tw14733765396456435376 tw9441906240202658291 tw13202112562810864734 tw2630004073783827013 tw6734907778097119705
tw8696669646151455383 tw4866396734937380172 tw3608924444421527080 tw9631618855079611206 tw17047977834791016142 tw4037204685005784594 tw9137415028676313405 tw15611079867616241634 tw17015909236821088572 tw17233373508908325593
tw11859716244962106905 tw9577494037270075655 tw17628305058914841800 tw10509519886280615505 tw5058786038481197054 tw1463718920399754277 tw7593896330113580752 tw16058878978448964672 tw15601755840397480040 tw11935367545827534724
tw2087598375485352111 tw5698701079804741768 tw4086456561803717843 tw10132650118229744040 tw14178349439820768835 tw14762096668423637958 tw785207141174374953 tw9380513961585518310 tw179539117571942244 tw3526057420890591160
tw3289312201717628419 tw16142939816460010409 tw1418513804098708397 tw11083095745257651792 tw12509728364484345137 tw2394189184177360624 tw5384105984018477063 tw14027587791106495194 tw16658009121296981844 tw7714691261372600009
tw15981601612764822497 tw8391726541054427224 tw11161123978731109482 tw4780943616404284771 tw10393414777891981337 tw8230901702251559904:True)
set_option maxRecDepth 100000 in
set_option maxHeartbeats 0 in
theorem PySem.Challenge.cw_dutyproof_k93_texts_refused_holds : PySem.Challenge.rw_dutyproof_k93_texts_refused.Holds := by
 w_on;o_law;k_head;(case hw=>w_witness2)
 k_fill
 refine LW.walk (l:=PySem.Challenge.rw_dutyproof_k93_texts_refused) rfl rfl (λ w h Y=>W.kIn_of Y) ?F
 case F =>
  intro w mg fa h KX G hmg
  refine' LW.fin KX G hmg ?aA ?aB ?aD ?aE ?aF ?aG ?aH ?aI ?aJ ?aK ?aL ?aM ?aN ?aO ?aP ?aQ ?aR ?aS ?aT ?aU ?aV ?aW ?aX ?aY ?aZ ?bA ?bB ?bC ?bD ?bE ?bF ?bG ?bH ?bI ?bJ ?bK ?bL ?bM ?bN ?bO ?bP ?bQ ?bR ?bS ?bT ?bU ?bV ?bW ?bX ?bY ?bZ ?cA ?cB ?cC ?cD ?cE ?cF ?cG ?cH ?cI ?cJ ?cL ?cM ?cN ?cO ?cP ?cQ ?cR ?cT ?cU ?cV ?cW ?cX ?cY ?cZ ?dA ?dB ?dC ?dD ?dE ?dF ?dG ?dH ?dI ?dJ ?dK ?dL ?dM ?dN ?dO ?dP ?dQ ?dR ?dS ?dT ?dU ?dV ?dW ?dX ?dY ?dZ
  (case aA|aB|aD|aE|aF|aG|aH|aI|aJ|aK|aL=>k_is)
  (case aM=>k_exc)
  (case aN=>k_exc)
  (case aO=>k_exc)
  (case aP=>(refine' LW.Jp2 ?eA ?eB ?eC ?eD ?eE ?eF;(case eA|eB|eC|eD|eE|eF=>k_is)))
  (case aQ=>(refine' LW.Jp2 ?eG ?eH ?eI ?eJ ?eK ?eL;(case eG|eH|eI|eJ|eK|eL=>k_is)))
  (case aR=>(refine' LW.Jp2 ?eM ?eN ?eO ?eP ?eQ ?eR;(case eM|eN|eO|eP|eQ|eR=>k_is)))
  (case aS|aT|aU|aV|aW|aX|aY|aZ|bA|bB=>kernel_rfl)
  (case bC=>k_is)
  (case bD|bE=>kernel_rfl)
  (case bF|bG=>k_is)
  (case bH=>exact L4.JD KX G LW.Jl8)
  (case bI=>exact L4.JD KX G LW.Jgx)
  (case bJ=>exact L4.JD KX G LW.Jky)
  (case bK=>exact L4.JD KX G LW.Jn1)
  (case bL=>exact L4.JD KX G LW.Jn0)
  (case bM=>exact L4.JD KX G LW.Jkt)
  (case bN=>exact L4.JD KX G LW.Jn2)
  (case bO=>exact L4.JD KX G LW.Jh6)
  (case bP=>exact L4.JD KX G LW.Jf4)
  (case bQ=>exact L4.JD KX G LW.Jku)
  (case bR=>exact L4.JD KX G LW.Jn3)
  (case bS=>exact L4.JD KX G LW.Jkr)
  (case bT=>exact L4.JD KX G LW.Jmb)
  (case bU=>exact L4.JD KX G LW.Jkw)
  (case bV=>exact L4.JD KX G LW.Jkx)
  (case bW=>exact L4.JD KX G LW.Jf5)
  (case bX=>exact L4.JD KX G LW.Jma)
  (case bY=>exact L4.JD KX G LW.Jkv)
  (case bZ=>exact L4.JD KX G LW.Jl7)
  (case cA=>exact L4.JD KX G LW.Jh7)
  (case cB=>exact L4.JD KX G LW.Jl9)
  (case cC=>exact L4.JD KX G LW.Jg0)
  (case cD=>exact L4.JD KX G LW.Jhr)
  (case cE=>exact L4.JD KX G LW.Jks)
  (case cF=>exact L4.JD KX G LW.Jgy)
  (case cG=>exact L4.JD KX G LW.Jh8)
  (case cH=>exact L4.JD KX G LW.Jhq)
  (case cI=>exact L4.JD KX G LW.Jh9)
  (case cJ=>exact L4.JD KX G LW.Jgh)
  (case cL=>exact L4.JD KX G LW.Jgz)
  (case cM=>(refine' LW.Jyj KX G ?eS ?eT ?eU ?eV;(case eS|eT|eU|eV=>k_is)))
  (case cN=>(refine' LW.Jke ?eW ?eX ?eY ?eZ ?fA ?fB ?fC ?fD;(case eW|eX|eY|eZ|fA|fB|fC|fD=>k_is)))
  (case cO=>(refine' LW.Jmu ?fE ?fF ?fG ?fH ?fI ?fJ ?fK ?fL ?fM ?fN ?fO ?fP ?fQ ?fR ?fS ?fT ?fU ?fV ?fW ?fX ?fY ?fZ ?gA ?gB ?gC ?gD;(case fE|fF|fG|fH|fI|fJ|fK|fL|fM|fN|fO|fP|fQ|fR|fS|fT|fU|fV|fW|fX|fY|fZ|gA|gB|gC|gD=>k_is)))
  (case cP=>exact L4.J0v LW.Jko)
  (case cQ=>exact L4.Jvk LW.Jkp)
  (case cR=>exact L4.Jvk LW.Jgg)
  (case cT=>exact L4.Jvk LW.Jjh)
  (case cU=>(refine' LW.Jmu ?gE ?gF ?gG ?gH ?gI ?gJ ?gK ?gL ?gM ?gN ?gO ?gP ?gQ ?gR ?gS ?gT ?gU ?gV ?gW ?gX ?gY ?gZ ?iA ?iB ?iC ?iD;(case gE|gF|gG|gH|gI|gJ|gK|gL|gM|gN|gO|gP|gQ|gR|gS|gT|gU|gV|gW|gX|gY|gZ|iA|iB|iC|iD=>k_is)))
  (case cV|cW|cX|cY|cZ|dA|dB|dC|dD=>k_is)
  (case dE|dF|dG|dH|dI|dJ|dK|dL|dM=>kernel_rfl)
  (case dN|dO|dP|dQ|dR|dS|dT|dU|dV|dW|dX|dY|dZ=>k_is)

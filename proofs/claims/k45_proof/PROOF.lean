import PyProof.Rows.All
import Wide.All
import OpenK.AllK
import Wide.FinOn
import Lean
import PyProof.EqAt
import PyProof.EqKinds
import PyProof.TupleCall
import PyProof.ExcBaseAll.ValueError
import PyProof.ExcAttrAll.ValueError
import PyProof.NsDelKeeps
import PySem.Challenge.RW_dutyproof_k45_whole_papers_keep
open Option renaming some→Za,none→Zc,map_eq_some_iff→ZH,isSome_iff_exists→Zbk,bind_some→ZbG,join_some→ZbH,getD_some→Zdx,map_some→ZdC
open List renaming getElem?_eq_getElem→Zb,getD_eq_getElem?_getD→Ze,mem_append_right→Zj,mem_cons_of_mem→Zl,length_map→Zm,getElem?_eq_some_iff→Zq,size_toArray→Zs,getElem?_map→Zt,mem_singleton→Zv,mem_cons_self→Zx,getElem_mem→Zz,length_append→Z0,map_cons→Z5,mem_cons→Z6,getElem?_append_right→Z9,mem_iff_getElem→ZA,getElem?_append_left→ZC,length_cons→ZD,mem_map→ZE,replicate→ZI,getElem_map→ZP,cons_append→ZS,range→ZT,mem_append→ZV,getElem?_set_self→ZW,append_assoc→ZZ,getElem?_set_ne→Zaa,lookup_cons→Zag,not_mem_nil→Zal,mem_append_left→Zaq,all_cons→Zar,take_succ_eq_append_getElem→Zat,getElem?_eq_none→Zaw,append_nil→Zay,nil_append→Zaz,set_append_left→Za3,mem_filter→Za4,length_take→Za6,length_singleton→Za9,getElem?_cons_succ→ZaB,getElem?_cons_zero→ZaC,all_eq_true→ZaG,drop_eq_getElem_cons→ZaH,eq_nil_of_length_eq_zero→ZaL,mem_range→ZaO,length_nil→ZaQ,toArray→ZaS,take_of_length_le→ZaY,replicate_succ→Zbe,length_set→Zbf,filter_cons→Zbi,sum_cons→Zbl,map_map→Zbm,ext_getElem?→Zbq,find?_cons→Zbs,map_append→Zbt,map_nil→Zbv,set_cons_zero→Zbw,length_replicate→Zby,length_filter_le→Zb0,lookup→Zb3,mem_of_getElem?→Zb4,flatten_cons→Zb5,getElem?_replicate→ZbD,length_eq_zero_iff→ZbJ,reverse_cons→ZbR,length_range→ZbT,ext_getElem→Zce,pairwise_iff_getElem→Zcf,findIdx?_eq_none_iff→Zcg,getElem?_range→Zch,length_reverse→Zcj,any_cons→Zcl,nodup_cons→Zcq,getElem?_take→Zcu,set_cons_succ→Zcv,pairwise_cons→Zcw,drop_eq_nil_of_le→Zc6,eraseIdxIfInBounds_toArray→Zc9,set_append_right→ZcA,pairwise_append→ZcN,getElem_reverse→ZcO,mem_of_mem_take→ZcP,filterMap_cons→ZcS,findIdx?_cons→Zdb,length_erase_of_mem→Zdl,getElem_inj→Zdm,drop_length→Zdw,any_eq_true→Zdy,filter_cons_of_pos→Zdz,filter_cons_of_neg→Zd0,set_set→ZdA,of_mem_zip→ZdB,mem_iff_getElem?→ZdG,getElem?_toArray→ZdH,dropLast_eq_take→ZdI,length→ZdK,mapM_cons→ZdN,map_drop→Zec
open PySem renaming wpAny_bind→Zd,Value→Zg,Shared→Zn,Addr→Zo,wpAny_pure→Zw,wpAny→Zy,mainGlobals→Z3,model→Z8,Program→ZB,starEach→ZF,Around→ZK,wpAny_holding→ZL,wpAny_tryCatch→ZU,World→Zab,wpAny_mono→Zaf,wpAny_Call_Name_kw→Zah,mem_of_lookup→Zai,codeAny_builtin→Zaj,plainId_quiet→Zas,Heap→Zau,compareOp→Zav,FuncData→Za2,wpAny_updateSeq→Za5,wpAny_letGo→Za8,wpAny_seqItems→ZaE,assignEach→ZaJ,wpAny_truthy_bool→ZaK,wpAny_pyIter_list→ZaM,eval→ZaU,binaryOp→ZaV,wpAny_standAt→ZaX,NameKind→Zbh,Scope→Zbj,sizeLine_eq→Zbn,backTo→Zbo,holding→Zbp,seqItems?→Zb1,Spec→Zb7,pyNext→ZbC,Arguments→ZbP,wpAny_newList→ZbQ,foldedSetIterable→ZbS,richCompare→ZbW,bootBuiltins→Zca,scanBound→Zcc,behindInMarks→Zcm,letOwnedTupleGo→Zco,codeAny→Zcp,wpAny_loadPart'→Zcr,sysModules→Zcs,builtinsNs→Zct,sliceBounds→Zcx,keywordEach→Zcy,BindsTo→Zc3,codeAny_mono→Zc5,Operator→Zc8,Stmt→ZcC,closureFor→ZcF,updateSeq→ZcG,attributeBase→ZcH,strKind→ZcI,wpAny_execs_nil→ZcQ,swapsWith→ZcU,call_meets→ZcX,intBits_le_64→Zdf,assign→Zdi,getMethod→Zdo,bindArgs→Zdp,codeAmong→Zdr,lastMarks→Zds,backToKw→Zdt,wpAny_pyNext_list_item→Zd1,Result→Zd2,getItem→Zd5,argsOk→Zd7,wpAny_rule→Zd8,wpAny_pyNext_list_end→ZdE,seqIndex_of→ZdL,subscripted→ZdM,wpAny_of_eq→ZdO,Keyword→ZdV,callerA→ZdW,standAt→ZdX,assignInOrder→Zea,isTrue→Zef,pyIter→Zeg,wpAny_call→Zeh,PyData→Zei,Within→Zek,GenState→Zel,seqIndex_neg→Zeo,valueAt→Zep,Builtin→Zeq,rawInt→Zet,IsPart→Zev,strValues→Zew
open PySem.Heap renaming get?_push_of_some→Zh,get?_push_size→Z1,get?_update_other→Z2,lt_size→Z4,get?_update_self→Zbz,SameBut→Zc0,size_push→Zc1
open Bool renaming true→Zi,false→Zk,and_eq_true→Zr,false_ne_true→Zu,false_eq_true→ZX,or_eq_true→ZaF,not_eq_true'→ZaZ,eq_iff_iff→Zbr,true_eq_false→Zbx,eq_false_iff→ZbU,not_false→ZbX,not_true→Zcn,or_eq_false_iff→ZcK
open Nat renaming le_refl→Zp,ne_of_lt→Z7,lt_of_lt_of_le→ZJ,zero_le→Zac,le_trans→Zak,lt_succ_self→Za0,ne_of_gt→ZaP,le_succ→Zbg,lt_succ_of_lt→Zb6,add_right_cancel→ZbY,le_of_lt→Zcb,lt_irrefl→Zck,le_of_eq→Zc2,succ_le_succ→ZcD,le_of_not_lt→ZcE,eq_zero_or_pos→Zda,le_of_ble_eq_true→ZdJ,add_assoc→Zeb,zero_add→Zer,sub_self→Zes
open Int renaming le_refl→ZG,emod_lt_of_pos→ZY,emod_nonneg→Zan,toNat_natCast→Za1,mul_le_mul_of_nonneg_left→ZaN,mul_le_mul_of_nonneg_right→ZbK,le_trans→Zcd,toNat→Zcz,le_ediv_iff_mul_le→Zd9,add_mul→ZdR
open PySem.Around renaming under_plainId→ZM,under→Zem
open PySem.F renaming plain_max_loop→ZN,plain_min_loop→ZO,entry_max_loop→Zba,entry_min_loop→Zbb,plainAttrs_list→ZbF,slot_dict_setdefault→ZcR,args_tuple_add_2→Zdg,entry_tuple_add→Zdq,plain_list_iadd→Zdv,slot_tuple_add→Zd4
open Option.some renaming inj→ZQ,injEq→Zbc
open Ne renaming symm→ZR
open PySem.Obj renaming mapSeq→Zad
open PyProof.Rows renaming seqObj→Zae,callWith_type1→ZaA,evalAll_cons→ZaI,get?_update_seq→Zb2,evalAll_nil→Zb9,IntsAre→ZbA,callWith_builtin1→ZbE,subscriptTail_builtinR→Zc4,mirror_size→ZcM,AllBare→ZcT,size_push'→ZcZ,spliced_more→Zdc,spliced_none→Zdd,subscriptTail→Zdh,listUpdate_at→Zdk,envOfC→Zd3,callWith_kw→ZdQ
open True renaming intro→Zam
open Classical renaming byContradiction→Zao
open PySem.Builtin.Builtins renaming bindParams→Zap
open PySem.Str renaming ofString→Zax
open PySem.NameKind renaming free→Za7,cell→Zdj
open PySem.Value renaming none→ZaD,int→ZbO,bool→ZcB,str→ZdT,ref→ZdU,type→Zee
open ForInStep renaming yield→ZaR
open False renaming elim→ZaT
open Array renaming getD_eq_getD_getElem?→ZaW,length_toList→Zbd,getElem?_eq_getElem→Zde,getElem?_toList→ZdF
open PyProof.Rows.F renaming plain_set_update_loop→Zbu,entry_set_update_loop→Zci
open PySem.Builtin.List renaming listTooLong→Zb8
open PySem.W renaming kas_rev→ZbB,kas_asc→ZbM,kas_sort→ZbN,kas_descPart→Zc7,kas_desc→ZcL,kas_place→ZcV,kas_count→Zdu,kas_tail3→ZdY
open PySem.PyData renaming canLay0→ZbI,canLayAll0→ZbV,list→ZcJ,eqvAll→Zed,eqv→Zej
open PySem.Walks renaming list→ZbL
open Sum renaming inl→ZbZ,inr→ZdS
open PySem.Calls renaming Name_function_global→ZcW,spliced_cons→ZcY,callWith_builtin→Zd6
open PySem.Builtin.Range renaming rangeSize→Zdn
open List.cons renaming injEq→ZdD
open PyProof.Rows.IntsAre renaming int_at→ZdP
open PySem.Paired renaming length→ZdZ
open PySem.Code renaming isFrame→Zen
open PySem.Data renaming cell→Zeu
noncomputable section
set_option Elab.async false
set_option linter.all false
set_option maxRecDepth 100000
abbrev CeT:=PySem.Str->Option PySem.Addr
abbrev QvT:=PySem.Value->PySem.Shared->Prop
abbrev PnT:=List (PySem.Addr×PySem.Obj)
theorem Zf {p:Prop}(h:False):p:=h.elim
local macro_rules|`(00)=>`(by omega)|`(01)=>`(by decide)|`(02)=>`(by kernel_rfl)|`(03)=>`(by simp)|`(04)=>`(by rfl)
namespace L2
open PySem PySem.Spec PyProof.Rows
abbrev Key:=Sum Int Str
def X1:Key->Zg->Bool
 | .inl k,v=>Value.isInt k v
 | .inr x,v=>Value.isStrOf x v
def keyH (w:Zab):Key->Int
 | .inl k=>hashInt k
 | .inr x=>hashStr w x
theorem V1:∀{k:Key}{v:Zg},X1 k v=Zi->(∃i t,k=ZbZ i/\v=ZbO i t)∨(∃x t,k=ZdS x/\v=ZdT x t)
 | .inl i,v,h=>by
  obtain⟨t,e⟩:=Value.isInt_shape (k:=i) (v:=v) h
  exact .inl ⟨i,t,rfl,e⟩
 | .inr x,v,h=>by
  obtain⟨t,e⟩:=Value.isStrOf_shape (x:=x) (v:=v) h
  exact .inr ⟨x,t,rfl,e⟩
theorem Jrl (i:Int)(t:Tok):X1 (.inl i) (.int i t)=Zi:=by simp[X1,Value.isInt]
theorem Jrm (x:Str)(t:Tok):X1 (.inr x) (.str x t)=Zi:=by simp[X1,Value.isStrOf]
theorem J0s (a b:Int):decide ((ZbZ a:Key)=ZbZ b)=(a==b):=by
 by_cases e:a=b
 ·subst e;simp
 ·have h:¬(ZbZ a:Key)=ZbZ b:=λ q=>e (Sum.inl.inj q)
  rw[decide_eq_false h]
  exact(beq_eq_false_iff_ne.mpr e).symm
theorem J0v (a b:Str):decide ((ZdS a:Key)=ZdS b)=decide (a=b):=by
 by_cases e:a=b
 ·subst e;simp
 ·have h:¬(ZdS a:Key)=ZdS b:=λ q=>e (Sum.inr.inj q)
  rw[decide_eq_false h,decide_eq_false e]
theorem J0t (a:Int)(b:Str):decide ((ZbZ a:Key)=ZdS b)=Zk:=decide_eq_false (λ q=>nomatch q)
theorem J0u (a:Str)(b:Int):decide ((ZdS a:Key)=ZbZ b)=Zk:=decide_eq_false (λ q=>nomatch q)
def Vo (prog:ZB)(w:Zab):PySem.KeyKind prog w Key where
 is:=X1
 hash:=keyH w
 inj:=λ v a b ha hb=>by
  rcases V1 ha with⟨i,t,rfl,rfl⟩|⟨x,t,rfl,rfl⟩
  ·rcases V1 hb with⟨j,u,rfl,e⟩|⟨y,u,rfl,e⟩
   ·injection e with e1 _;rw[e1]
   ·exact nomatch e
  ·rcases V1 hb with⟨j,u,rfl,e⟩|⟨y,u,rfl,e⟩
   ·exact nomatch e
   ·injection e with e1 _;rw[e1]
 byValue:=λ k v h=>by
  rcases V1 h with⟨i,t,rfl,rfl⟩|⟨x,t,rfl,rfl⟩<;>rfl
 pyHash:=λ hv h=>by
  rcases V1 hv with⟨i,t,rfl,rfl⟩|⟨x,t,rfl,rfl⟩
  ·exact wpAny_pyHash_int h
  ·exact wpAny_pyHash_str h
 eqBool:=λ hu hv h=>by
  rcases V1 hu with⟨i,t,rfl,rfl⟩|⟨x,t,rfl,rfl⟩
  ·rcases V1 hv with⟨j,u,rfl,rfl⟩|⟨y,u,rfl,rfl⟩
   ·rw[J0s] at h;exact wpAny_eqBool_int h
   ·rw[J0t] at h;exact SeqAt.EqAt.int_str i t y u _ _ _ _ h
  ·rcases V1 hv with⟨j,u,rfl,rfl⟩|⟨y,u,rfl,rfl⟩
   ·rw[J0u] at h;exact SeqAt.EqAt.str_int x t j u _ _ _ _ h
   ·rw[J0v] at h;exact wpAny_eqBool_str h
 «strs» :=λ k x t v h=>by
  rcases V1 h with⟨i,u,rfl,e⟩|⟨y,u,rfl,e⟩
  ·exact nomatch e
  ·injection e with e1 _
   subst e1
   cases v<;>rfl
theorem Jmn (prog:ZB)(w:Zab)(i:Int)(t:Tok):(Vo prog w).is (.inl i) (.int i t)=Zi:=Jrl i t
theorem Jmo (prog:ZB)(w:Zab)(x:Str)(t:Tok):(Vo prog w).is (.inr x) (.str x t)=Zi:=Jrm x t
inductive V where
 | non|bl (b:Bool)|int (i:Int)|str (x:Str)|byt (b:Array UInt8)|flt (b:UInt64)|ref (a:Zo)|ty (n:String)
 deriving DecidableEq
def RelV:V->Zg->Prop
 | .non,u=>u=ZaD
 | .bl b,u=>u=ZcB b
 | .int i,u=>∃t,u=ZbO i t
 | .str x,u=>∃t,u=ZdT x t
 | .byt b,u=>∃t,u=Value.bytes b t
 | .flt b,u=>∃t,u=Value.float b t
 | .ref a,u=>u=ZdU a
 | .ty n,u=>u=Zee n
abbrev Vals:List V->List Zg->Prop:=Paired RelV
theorem Vals.length {xs:List V}{us:List Zg}(r:Vals xs us):xs.length=us.length:=ZdZ r
theorem Vals.get:∀{xs:List V}{us:List Zg}{i:Nat}{x:V},Vals xs us->xs[i]?=Za x->∃u,us[i]?=Za u/\RelV x u
 | _,_,_,_,.nil,e=>by simp at e
 | _,_,0,_,.cons r _,e=>by simp at e;subst e;exact⟨_,rfl,r⟩
 | _,_,i+1,x,.cons _ t,e=>by
  obtain⟨u,h1,h2⟩:=Vals.get (i:=i) (x:=x) t (by simpa using e)
  exact⟨u,by simpa using h1,h2⟩
theorem Vals.set {x:V}{u:Zg}(r:RelV x u):∀{xs:List V}{us:List Zg}(i:Nat),Vals xs us->Vals (xs.set i x) (us.set i u)
 | _,_,_,.nil=>.nil
 | _,_,0,.cons _ t=>.cons r t
 | _,_,i+1,.cons q t=>.cons q (Vals.set r i t)
theorem Vals.append:∀{xs ys:List V}{us ws:List Zg},Vals xs us->Vals ys ws->Vals (xs++ys) (us++ws)
 | _,_,_,_,.nil,s=>s
 | _,_,_,_,.cons r t,s=>.cons r (Vals.append t s)
theorem Vals.take:∀{xs:List V}{us:List Zg}(n:Nat),Vals xs us->Vals (xs.take n) (us.take n)
 | _,_,0,_=>.nil
 | _,_,_+1,.nil=>.nil
 | _,_,n+1,.cons r t=>.cons r (Vals.take n t)
theorem Vals.drop:∀{xs:List V}{us:List Zg}(n:Nat),Vals xs us->Vals (xs.drop n) (us.drop n)
 | _,_,0,r=>r
 | _,_,_+1,.nil=>.nil
 | _,_,n+1,.cons _ t=>Vals.drop n t
def RelO:Option V->Option Zg->Prop
 | some v,Za u=>RelV v u
 | none,Zc=>True
 | _,_=>False
def KV {κ:Type}:List (κ×V)->List (κ×Zg)->Prop:=Paired λ (p:κ×V)(q:κ×Zg)=>p.1=q.1/\RelV p.2 q.2
def kV:Key->V
 | .inl i=>.int i
 | .inr x=>.str x
inductive HO where
 /-- a list -/
 | lst (xs:List V)
 /-- a tuple (never changes) -/
 | tup (xs:List V)
 /-- a dict whose keys are ints and texts; one whose keys are tuples of ints and texts (the empty one is both) -/
 | dK (kvs:List (Key×V))|dT (kvs:List (List Key×V))
 /-- a set of ints: its members, its size -/
 | set (S:Int->Bool) (n:Nat)
 /-- an instance of the class at C, its dict at dx, its attributes -/
 | ins (C dx:Zo) (fs:List (Str×V))
 /-- the dict of the instance at x -/
 | own (x:Zo)
 /-- the dict of an exception -/
 | xd (fs:List (Str×V))
 /-- a bound method, f of x -/
 | met (f x:Zo)
 /-- a range object lo, lo + 1, .. below hi -/
 | rng (lo hi:Int)
 /-- a thing that is known to the object (the script; a dict while a loop walks it): read, never written while it is so -/
 | frz (o:Obj) (u:HO)
 /-- a code object's table -/
 | tbl (ps:Array Zg)
 /-- any other thing, by what is Zi of its one object (a def of one's own: SetO a S n := HO.ext λ h => ..) -/
 | ext (φ:Zau->Prop)
abbrev Hp:=Zo->Option HO
def upd (H:Hp)(a:Zo)(o:HO):Hp:=λ b=>if b=a then Za o else H b
theorem JE {H:Hp}{a:Zo}{o:HO}:upd H a o a=Za o:=by unfold upd;rw[if_pos rfl]
theorem Jx {H:Hp}{a b:Zo}{o:HO}(h:b≠a):upd H a o b=H b:=by unfold upd;rw[if_neg h]
theorem Vp {H:Hp}{a b:Zo}{o:HO}(h:H a=Za o)(h':H b=Zc):a≠b:=by
 intro e;subst e;rw[h] at h';cases h'
section
variable (P:ZB)(w:Zab)
def JM (H:Hp)(h:Zau)(a:Zo):HO->Prop
 | .lst xs=>xs.length<=sizeLine/\∃(its:List Zg) (n:Nat),Vals xs its/\h.get? a=Za { cls:=.type "list",data:=.seq its.toArray n }
 | .tup xs=>xs.length<=sizeLine/\∃its:List Zg,Vals xs its/\IsTup h a its.toArray
 | .dK kvs=>kvs.length<=sizeLine/\(a==Zcs)=Zk/\∃vs,KV kvs vs/\h.DictOf (Vo P w) a vs
 | .dT kvs=>kvs.length<=sizeLine/\(a==Zcs)=Zk/\∃xs:List (List Key×Zo×Zg),
   Paired (λ (p:List Key×V)(q:List Key×Zo×Zg)=>p.1=q.1/\H q.2.1=Za (.tup (p.1.map kV))/\RelV p.2 q.2.2) kvs xs /\
   ∃o es ep,h.get? a=Za o/\o.ExactDict/\o.data=.dict es ep/\es.toList=xs.map (entryOfKey (tupleKind (Vo P w)))/\(xs.map (·.1)).Nodup
 | .set S n=>h.SetOf (intKind P w) a S n
 | .ins C dx fs=>H dx=Za (.own a)/\fs.length<=1000/\dx≠a/\h.get? a=Za (W.instObj C dx) /\
   ∃mA,h.Ns1 dx mA/\(∀f,RelO (fs.lookup f) (mA f))/\Zek mA (fs.map (·.1))
 | .own _=>∃o,h.get? a=Za o
 | .xd fs=>∃mA,h.Ns1 a mA/\∀f,RelO (fs.lookup f) (mA f)
 | .rng lo hi=>∃t u v,h.get? a=Za { cls:=.type "range",data:=.fields #[.int lo t,.int hi u,.int 1 v] }
 | .frz o u=>h.get? a=Za o/\JM H h a u
 | .tbl ps=>h.get? a=Za { cls:=.none,data:=.fields ps }
 | .met f x=>h.get? a=Za (W.methodObj (.ref f) (.ref x))
 | .ext φ=>φ h/\(∃o,h.get? a=Za o)/\∀h1 h2:Zau,φ h1->(∀o,h1.get? a=Za o->h2.get? a=Za o)->φ h2
def HOk (H:Hp)(h:Zau):Prop:=∀a o,H a=Za o->JM P w H h a o
end
section
variable {P:ZB}{w:Zab}{H H':Hp}{h h':Zau}{a:Zo}{o:HO}
theorem JM.lt (x:JM P w H h a o):a<h.objs.size:=by
 cases o with
 | lst xs=>obtain⟨_,_,_,_,e⟩:=x;exact Z4 e
 | tup xs=>obtain⟨_,_,_,p⟩:=x;exact p.lt
 | dK kvs=>obtain⟨_,_,_,_,o,_,_,e,_⟩:=x;exact Z4 e
 | dT kvs=>obtain⟨_,_,_,_,o,_,_,e,_⟩:=x;exact Z4 e
 | set S n=>obtain⟨o,_,_,_,e,_⟩:=x;exact Z4 e
 | ins C dx fs=>obtain⟨_,_,_,e,_⟩:=x;exact Z4 e
 | own y=>obtain⟨_,e⟩:=x;exact Z4 e
 | xd fs=>obtain⟨_,⟨_,_,_,e,_⟩,_⟩:=x;exact Z4 e
 | rng lo hi=>obtain⟨_,_,_,e⟩:=x;exact Z4 e
 | frz ob u=>obtain⟨e,_⟩:=x;exact Z4 e
 | tbl ps=>exact Z4 (show h.get? a=Za _ from x)
 | met f y=>exact Z4 (show h.get? a=Za _ from x)
 | ext φ=>obtain⟨_,⟨_,e⟩,_⟩:=x;exact Z4 e
theorem Paired.mapP {α β:Type}{F G:α->β->Prop}:∀{l₁:List α}{l₂:List β},Paired F l₁ l₂->(∀a b,F a b->G a b)->Paired G l₁ l₂
 | _,_,.nil,_=>.nil
 | _,_,.cons r t,f=>.cons (f _ _ r) (Paired.mapP t f)
theorem JM.stay (x:JM P w H h a o)(k:∀b u,(b=a∨H b=Za (.own a))->h.get? b=Za u->h'.get? b=Za u)
  (ho:∀b,H b=Za (.own a)->H' b=Za (.own a))(ht:∀b xs,H b=Za (.tup xs)->H' b=Za (.tup xs)):JM P w H' h' a o:=by
 induction o with
 | lst xs=>obtain⟨z,its,n,r,e⟩:=x;exact⟨z,its,n,r,k _ _ (.inl rfl) e⟩
 | tup xs=>obtain⟨z,its,r,ob,e,c⟩:=x;exact⟨z,its,r,ob,k _ _ (.inl rfl) e,c⟩
 | dK kvs=>obtain⟨z,y,vs,r,ob,es,ep,e,c⟩:=x;exact⟨z,y,vs,r,ob,es,ep,k _ _ (.inl rfl) e,c⟩
 | dT kvs =>
  obtain⟨z,y,xs,r,ob,es,ep,e,c⟩:=x
  exact⟨z,y,xs,Paired.mapP r λ p q z=>⟨z.1,ht _ _ z.2.1,z.2.2⟩,ob,es,ep,k _ _ (.inl rfl) e,c⟩
 | set S n=>obtain⟨ob,es,ep,t,e,c⟩:=x;exact⟨ob,es,ep,t,k _ _ (.inl rfl) e,c⟩
 | ins C dx fs =>
  obtain⟨d,z,ne,e,mA,⟨od,es,ep,e2,c⟩,r⟩:=x
  exact⟨ho _ d,z,ne,k _ _ (.inl rfl) e,mA,⟨od,es,ep,k _ _ (.inr d) e2,c⟩,r⟩
 | own y=>obtain⟨ob,e⟩:=x;exact⟨ob,k _ _ (.inl rfl) e⟩
 | xd fs=>obtain⟨mA,⟨od,es,ep,e,c⟩,r⟩:=x;exact⟨mA,⟨od,es,ep,k _ _ (.inl rfl) e,c⟩,r⟩
 | rng lo hi=>obtain⟨t,u,v,e⟩:=x;exact⟨t,u,v,k _ _ (.inl rfl) e⟩
 | frz ob u ih=>obtain⟨e,q⟩:=x;exact⟨k _ _ (.inl rfl) e,ih q⟩
 | tbl ps =>
  have e:h.get? a=Za { cls:=.none,data:=.fields ps }:=x
  show h'.get? a=Za { cls:=.none,data:=.fields ps }
  exact k a _ (.inl rfl) e
 | met f y =>
  have e:h.get? a=Za (W.methodObj (.ref f) (.ref y)):=x
  show h'.get? a=Za (W.methodObj (.ref f) (.ref y))
  exact k a _ (.inl rfl) e
 | ext φ=>obtain⟨p,⟨o,e⟩,st⟩:=x;exact⟨st _ _ p λ o q=>k _ _ (.inl rfl) q,⟨o,k _ _ (.inl rfl) e⟩,st⟩
theorem HOk.lt (x:HOk P w H h)(e:H a=Za o):a<h.objs.size:=(x a o e).lt
theorem HOk.fresh (x:HOk P w H h)(e:h.objs.size<=a):H a=Zc:=by
 cases q:H a with
 | none=>rfl
 | some u=>exact absurd (ZJ (x.lt q) e) (Zck _)
theorem HOk.kept (x:HOk P w H h)(k:∀b u,h.get? b=Za u->h'.get? b=Za u):HOk P w H h':=λ a o e =>
 (x a o e).stay (λ b u _ q=>k b u q) (λ _ q=>q) λ _ _ q=>q
theorem HOk.laid (x:HOk P w H h)(k:∀b u,h.get? b=Za u->h'.get? b=Za u)(hp:h.objs.size<=a)(new:JM P w (upd H a o) h' a o):HOk P w (upd H a o) h':=λ b u e=>by
 have hn:=x.fresh hp
 by_cases hb:b=a
 ·subst hb;rw[JE] at e;cases e;exact new
 ·rw[Jx hb] at e
  exact(x b u e).stay (λ c v _ q=>k c v q) (λ c q=>by rw[Jx (Vp q hn)];exact q) λ c xs q=>by rw[Jx (Vp q hn)];exact q
end
def Rd (H:Hp)(a:Zo)(u:HO):Prop:=H a=Za u∨∃o,H a=Za (.frz o u)
theorem Rd.of {H:Hp}{a:Zo}{u:HO}(h:H a=Za u):Rd H a u:=.inl h
theorem Rd.ok {P:ZB}{w:Zab}{H:Hp}{h:Zau}{a:Zo}{u:HO}(r:Rd H a u)(x:HOk P w H h):JM P w H h a u:=by
 rcases r with r|⟨o,r⟩
 ·exact x a u r
 ·obtain⟨_,q⟩:=x a _ r
  exact q
def Mut:Option HO->Prop
 | some (.lst _)=>True
 | some (.dK _)=>True
 | some (.dT _)=>True
 | some (.set _ _)=>True
 | some (.ins _ _ _)=>True
 | some (.ext _)=>True
 | _=>False
section
variable {P:ZB}{w:Zab}{H:Hp}{h h':Zau}{x e:Zo}{o':HO}
theorem HOk.write (ok:HOk P w H h)(mu:Mut (H x))(he:e=x∨H e=Za (.own x))(k:∀b u,b≠e->h.get? b=Za u->h'.get? b=Za u)(heo:∃u,h'.get? e=Za u)
  (new:JM P w (upd H x o') h' x o'):HOk P w (upd H x o') h':=λ b u q=>by
 have nown:∀c y,H c=Za (.own y)->c≠x:=λ c y r z=>by subst z;rw[r] at mu;exact mu
 have ntup:∀c xs,H c=Za (.tup xs)->c≠x:=λ c xs r z=>by subst z;rw[r] at mu;exact mu
 by_cases hb:b=x
 ·subst hb;rw[JE] at q;cases q;exact new
 ·rw[Jx hb] at q
  by_cases hbe:b=e
  ·have q':H b=Za (.own x):=by
    rcases he with z|z
    ·exact absurd (hbe.trans z) hb
    ·rw[hbe];exact z
   rw[q] at q';cases q'
   obtain⟨v,hv⟩:=heo
   exact⟨v,by rw[hbe];exact hv⟩
  ·refine(ok b u q).stay (λ c v hc r=>k c v ?_ r) (λ c r=>by rw[Jx (nown c b r)];exact r) λ c xs r=>by rw[Jx (ntup c xs r)];exact r
   rcases hc with rfl|hc
   ·exact hbe
   ·rintro rfl
    rcases he with z|z
    ·exact nown c b hc z
    ·rw[hc] at z;cases z;exact hb rfl
end
structure Un (fs ex:List Zo)(H H':Hp)(h h':Zau):Prop where
 keep:∀b o,h.get? b=Za o->H b=Zc->b∉fs->b∉ex->h'.get? b=Za o
 slot:∀b o,h.get? b=Za o->H b=Zc->b∈fs->b∉ex->∃sl,h'.get? b=Za { o with slots:=sl }
 free:∀b o,h.get? b=Za o->H b=Zc->b∉ex->H' b=Zc
 there:∀b o,h.get? b=Za o->b∉ex->∃o',h'.get? b=Za o'
 tups:∀b xs,H b=Za (.tup xs)->H' b=Za (.tup xs)
 frzs:∀b o u,H b=Za (.frz o u)->H' b=Za (.frz o u)
 tbls:∀b ps,H b=Za (.tbl ps)->∃more,H' b=Za (.tbl (ps++more))
section
variable {fs fs' ex ex':List Zo}{H H1 H2:Hp}{h h1 h2 h':Zau}{a x e:Zo}{o:HO}
theorem Un.any (u:Un fs ex H H1 h h1){b:Zo}{ob:Obj}(q:h.get? b=Za ob)(n:H b=Zc)(hx:b∉ex):∃sl,h1.get? b=Za { ob with slots:=sl }:=by
 by_cases hb:b∈fs
 ·exact u.slot b ob q n hb hx
 ·exact⟨ob.slots,u.keep b ob q n hb hx⟩
theorem Un.trans (a:Un fs ex H H1 h h1)(b:Un fs ex H1 H2 h1 h2):Un fs ex H H2 h h2 where
 keep:=λ c ob q n hc hx=>b.keep c ob (a.keep c ob q n hc hx) (a.free c ob q n hx) hc hx
 slot:=λ c ob q n hc hx=>by
  obtain⟨sl,e1⟩:=a.slot c ob q n hc hx
  obtain⟨sl',e2⟩:=b.slot c _ e1 (a.free c ob q n hx) hc hx
  exact⟨sl',e2⟩
 free:=λ c ob q n hx=>by
  obtain⟨o',e1⟩:=a.there c ob q hx
  exact b.free c o' e1 (a.free c ob q n hx) hx
 there:=λ c ob q hx=>by
  obtain⟨o',e1⟩:=a.there c ob q hx
  exact b.there c o' e1 hx
 tups:=λ c xs q=>b.tups c xs (a.tups c xs q)
 frzs:=λ c ob xs q=>b.frzs c ob xs (a.frzs c ob xs q)
 tbls:=λ c ps q=>by
  obtain⟨m1,e1⟩:=a.tbls c ps q
  obtain⟨m2,e2⟩:=b.tbls c _ e1
  exact⟨m1++m2,by rw[e2,Array.append_assoc]⟩
theorem Un.kept (k:∀b u,h.get? b=Za u->h'.get? b=Za u):Un fs ex H H h h' :=
 ⟨λ b ob q _ _ _=>k b ob q,λ b ob q _ _ _=>⟨ob.slots,k b ob q⟩,λ _ _ _ n _=>n,λ b ob q _=>⟨ob,k b ob q⟩,λ _ _ q=>q,λ _ _ _ q=>q,λ _ ps q=>⟨#[],by rw[q];simp⟩⟩
theorem Un.refl:Un fs ex H H h h:=Un.kept λ _ _ q=>q
theorem Un.laid (k:∀b u,h.get? b=Za u->h'.get? b=Za u)(hp:h.objs.size<=a)(hn:H a=Zc):Un fs ex H (upd H a o) h h' where
 keep:=λ b u q _ _ _=>k b u q
 slot:=λ b u q _ _ _=>⟨u.slots,k b u q⟩
 free:=λ b u q n _=>by rw[Jx (Z7 (ZJ (Z4 q) hp))];exact n
 there:=λ b u q _=>⟨u,k b u q⟩
 tups:=λ b xs q=>by rw[Jx (Vp q hn)];exact q
 frzs:=λ b u xs q=>by rw[Jx (Vp q hn)];exact q
 tbls:=λ b ps q=>⟨#[],by rw[Jx (Vp q hn),q];simp⟩
theorem Un.write (mu:Mut (H x))(he:e=x∨H e=Za (.own x))(k:∀b u,b≠e->h.get? b=Za u->h'.get? b=Za u)(heo:∃u,h'.get? e=Za u):Un fs ex H (upd H x o) h h':=by
 have hx:∀b,H b=Zc->b≠x:=λ b n z=>by subst z;rw[n] at mu;exact mu
 have hb:∀b,H b=Zc->b≠e:=λ b n z=>by
  subst z
  rcases he with r|r
  ·exact hx b n r
  ·rw[n] at r;cases r
 have hm:∀b u,H b=Za u->¬Mut (Za u)->b≠x:=λ b u q nm z=>by subst z;rw[q] at mu;exact nm mu
 refine⟨λ b u q n _ _=>k b u (hb b n) q,λ b u q n _ _=>⟨u.slots,k b u (hb b n) q⟩,λ b u q n _=>by rw[Jx (hx b n)];exact n,λ b u q _=>?_,
  λ b xs q=>by rw[Jx (hm b _ q λ z=>z)];exact q,λ b u xs q=>by rw[Jx (hm b _ q λ z=>z)];exact q,λ b ps q=>⟨#[],by rw[Jx (hm b _ q λ z=>z),q];simp⟩⟩
 by_cases hbe:b=e
 ·subst hbe;exact heo
 ·exact⟨u,k b u hbe q⟩
theorem Un.mono (u:Un fs ex H H1 h h1)(hs:∀b∈fs,b∈fs')(hx:∀b∈ex,b∈ex'):Un fs' ex' H H1 h h1 :=
 ⟨λ b ob q n hb he=>u.keep b ob q n (λ z=>hb (hs b z)) λ z=>he (hx b z),λ _ _ q n _ he=>u.any q n λ z=>he (hx _ z),λ b ob q n he=>u.free b ob q n λ z=>he (hx b z),λ b ob q he=>u.there b ob q λ z=>he (hx b z),u.tups,u.frzs,u.tbls⟩
end
def trk (h:Zau)(H:Hp):List Zo:=(ZT h.objs.size).filter λ a=>(H a).isSome
def hidT (h:Zau)(H:Hp):Zau:=W.hideAll h (trk h H)
theorem Jq9 (h:Zau)(H:Hp):(hidT h H).objs.size=h.objs.size:=W.hideAll_size _ _
theorem Jtq {h:Zau}{H:Hp}{b:Zo}{o:Obj}(e:h.get? b=Za o)(n:H b=Zc):(hidT h H).get? b=Za o :=
 W.hideAll_get _ e λ hm=>by
  have q:(H b).isSome=Zi:=(Za4.mp hm).2
  rw[n] at q;simp at q
theorem Jyb {h:Zau}{H:Hp}{b:Zo}{o:Obj}(e:(hidT h H).get? b=Za o):h.get? b=Za o/\H b=Zc:=by
 have e':h.get? b=Za o:=W.of_hideAll (trk h H) e
 refine⟨e',?_⟩
 cases q:H b with
 | none=>rfl
 | some x =>
  have hm:b∈trk h H:=Za4.mpr ⟨ZaO.mpr (Z4 e'),by simp[q]⟩
  have z:(hidT h H).get? b=Zc:=W.hideAll_none (trk h H) hm
  rw[z] at e;cases e
structure Mod (K:W.Frag)(mg:Str->Option Zg)(base:Zau):Prop where
 kin:K.In base
 glob:base.Ns Z3 mg
 blt:∃mb,base.Ns Zct mb/\∀x:Str,x≠"__name__"->mb x=Zca x
 nolimit:base.NoLimit
structure Cx where
 prog:ZB
 w:Zab
 K:W.Frag
 mg:Str->Option Zg
 base:Zau
 A:ZK
 N:List Str
 s₀:Zn
 H₀:Hp
 env:Env
 outer:List Env
 stack:List Env
 ex:List Zo
 fn:Str->Bool
 calm:Bool
 pn:PnT
 xe:QvT
def frs (l:List Env):List Zo:=l.filterMap (·.frame)
abbrev Cx.fs (X:Cx):List Zo:=frs X.outer
def Vis (sc:Zbj)(x:Str):Prop:=sc.names.lookup x=Za .local∨sc.names.lookup x=Za .cell∨sc.names.lookup x=Za .free
def Loc (sc:Zbj)(x:Str):Prop:=sc.names.lookup x=Za .local∨sc.names.lookup x=Za .cell
def Look (env:Env)(h:Zau)(m:Str->Option Zg)(x:Str)(u:Zg):Prop :=
 (env.kindOf x=Za .local/\m x=Za u)∨((env.kindOf x=Za .cell∨env.kindOf x=Za .free)/\∃c,env.cells.lookup x=Za c/\h.IsCell c (Za u))
structure Cx.Ok (X:Cx):Prop where
 mod:Mod X.K X.mg X.base
 kind:X.env.scope.kind=.function
 glob:X.env.globals=Z3
 blt:X.env.builtins=Zct
 above:X.s₀.heap.objs.size<=X.env.locals
 inj:∀x y c,X.env.cells.lookup x=Za c->X.env.cells.lookup y=Za c->x=y
 has:∀x,(X.env.kindOf x=Za .cell∨X.env.kindOf x=Za .free)->∃c,X.env.cells.lookup x=Za c
 cab:∀x c,X.fn x=Zi->X.env.cells.lookup x=Za c->X.s₀.heap.objs.size<=c
 hd:X.calm=Zi->X.A.handled=Zc
 frames:X.A.frames=Za X.stack
 stk:X.stack=X.outer∨(X.stack=X.env::X.outer/\X.env.frame=Za X.env.locals)
 exf:∀b∈X.ex,b≠X.env.locals/\∀x c,X.env.cells.lookup x=Za c->c≠b
 bs:∀b o,X.base.get? b=Za o->X.s₀.heap.get? b=Za o/\X.H₀ b=Zc
 bsz:X.base.objs.size<=X.s₀.heap.objs.size
 noex:∀b o,X.base.get? b=Za o->b∉X.ex
 exfs:∀b∈X.ex,b∉X.fs
 funs:X.s₀.heap.FunFrames X.base X.outer
 frf:∀b∈X.fs,X.H₀ b=Zc
structure Inv (X:Cx)(pj:PnT)(σ:List (Option V))(H:Hp)(s:Zn):Prop where
 ok:X.Ok
 os:s.os=X.s₀.os
 bare:ZcT s.gens
 base:Un X.fs X.ex X.H₀ H X.s₀.heap s.heap
 loc:∃m,s.heap.Ns X.env.locals m/\∀(i:Nat)(x:Str)(v:V),X.N[i]?=Za x->σ[i]?=Za (Za v)->Vis X.env.scope x->∃u,RelV v u/\Look X.env s.heap m x u
 cell:∀x c,X.env.cells.lookup x=Za c->∃v,s.heap.IsCell c v
 free:H X.env.locals=Zc
 freeC:∀x c,X.env.cells.lookup x=Za c->H c=Zc
 pin:∀p∈X.pn++pj,s.heap.get? p.1=Za p.2/\H p.1=Zc/\p.1≠X.env.locals/\p.1∉X.fs/\∀v,p.2.data≠.cell v
 hok:HOk X.prog X.w H s.heap
 len:σ.length=X.N.length
section
variable {X:Cx}{pj:PnT}{σ:List (Option V)}{H H':Hp}{s:Zn}{h':Zau}
theorem Cx.Ok.nofr (ok:X.Ok){b:Zo}{o:Obj}(e:X.base.get? b=Za o):b∉X.fs:=λ hb=>by
 have:=(ok.funs.mem hb).1
 rw[e] at this;cases this
theorem Inv.bs (I:Inv X pj σ H s):∀b o,X.base.get? b=Za o->s.heap.get? b=Za o/\H b=Zc:=λ b o e =>
 ⟨I.base.keep b o (I.ok.bs b o e).1 (I.ok.bs b o e).2 (I.ok.nofr e) (I.ok.noex b o e),I.base.free b o (I.ok.bs b o e).1 (I.ok.bs b o e).2 (I.ok.noex b o e)⟩
theorem Inv.bk (I:Inv X pj σ H s):∀b o,X.base.get? b=Za o->s.heap.get? b=Za o:=λ b o e=>(I.bs b o e).1
theorem Inv.mod (I:Inv X pj σ H s):Mod X.K X.mg X.base:=I.ok.mod
theorem Inv.kIn (I:Inv X pj σ H s):X.K.In s.heap:=I.ok.mod.kin.keeps I.bk
theorem Inv.nolimit (I:Inv X pj σ H s):s.heap.NoLimit:=I.ok.mod.nolimit.keeps I.bk
theorem Inv.fr (I:Inv X pj σ H s):∃m,Fr X.base X.env.locals s.heap m :=
 let ⟨m,hn,_⟩:=I.loc
 ⟨m,hn,I.bk,Zak I.ok.bsz I.ok.above⟩
theorem Inv.lt (I:Inv X pj σ H s):X.env.locals<s.heap.objs.size:=let ⟨_,hn,_⟩:=I.loc;hn.lt
theorem Inv.sz (I:Inv X pj σ H s):X.s₀.heap.objs.size<=s.heap.objs.size:=Zak I.ok.above (Zcb I.lt)
theorem Inv.nofs (I:Inv X pj σ H s){a:Zo}(h:s.heap.objs.size<=a):a∉X.fs:=λ hb=>by
 obtain⟨_,o,ho,_⟩:=I.ok.funs.mem hb
 exact absurd (ZJ (Z4 ho) (Zak I.sz h)) (Zck _)
theorem Inv.cne (I:Inv X pj σ H s):∀x c,X.env.cells.lookup x=Za c->c≠X.env.locals:=λ x c e z=>by
 obtain⟨v,o,ho,hd⟩:=I.cell x c e
 obtain⟨m,⟨o',es,ep,ho',hd',_⟩,_⟩:=I.loc
 rw[z,ho'] at ho;cases ho;rw[hd'] at hd;cases hd
theorem Inv.funs (I:Inv X pj σ H s):s.heap.FunFrames X.base X.outer:=by
 have all:∀(l:List Env),(∀b∈frs l,b∈X.fs)->X.s₀.heap.FunFrames X.base l->s.heap.FunFrames X.base l:=by
  intro l
  induction l with
  | nil=>intro _ _;trivial
  | cons env r ih =>
   intro hs hl
   obtain⟨hk,⟨L,o,hf,hn,ho,hd⟩,hr⟩:=hl
   have hL:L∈X.fs:=hs L (by unfold frs;rw[ZcS,hf];exact Zx)
   obtain⟨sl,e⟩:=I.base.slot L o ho (I.ok.frf L hL) hL λ z=>I.ok.exfs L z hL
   exact⟨hk,⟨L,_,hf,hn,e,hd⟩,ih (λ b hb=>hs b (by unfold frs;rw[ZcS,hf];exact Zl _ hb)) hr⟩
 exact all X.outer (λ _ hb=>hb) I.ok.funs
theorem Inv.stack (I:Inv X pj σ H s):s.heap.FunFrames X.base X.stack:=by
 rcases I.ok.stk with e|⟨e,hf⟩
 ·rw[e];exact I.funs
 ·rw[e]
  obtain⟨m,hn,_⟩:=I.loc
  refine .cons (by rw[I.ok.kind];decide) hf hn ?_ I.funs
  exact Heap.get?_none_of_le (Zak I.ok.bsz I.ok.above)
theorem Inv.stkSub (I:Inv X pj σ H s):∀b∈frs X.stack,b∈X.env.locals::X.fs:=λ b hb=>by
 rcases I.ok.stk with e|⟨e,hf⟩
 ·rw[e] at hb;exact Zl _ hb
 ·rw[e] at hb
  unfold frs at hb
  rw[ZcS,hf] at hb
  exact hb
theorem Inv.stkFree (I:Inv X pj σ H s):∀b∈frs X.stack,H b=Zc:=λ b hb=>by
 rcases Z6.mp (I.stkSub b hb) with e|hb
 ·rw[e];exact I.free
 ·obtain⟨_,o,ho,_⟩:=I.ok.funs.mem hb
  exact I.base.free b o ho (I.ok.frf b hb) λ z=>I.ok.exfs b z hb
theorem Inv.step {g':Array Zel}{t':Nat}{d':Drawn}{ch:List Zo}(I:Inv X pj σ H s)
  (hch:∀b∈ch,(b∈X.ex∨X.s₀.heap.objs.size<=b)/\b≠X.env.locals/\(∀x c,X.env.cells.lookup x=Za c->c≠b)/\∀p∈X.pn++pj,p.1≠b)
  (keep:∀b o,b≠X.env.locals->b∉X.fs->b∉ch->s.heap.get? b=Za o->H b=Zc->h'.get? b=Za o)
  (slot:∀b o,b≠X.env.locals->b∈X.fs->b∉ch->s.heap.get? b=Za o->H b=Zc->∃sl,h'.get? b=Za { o with slots:=sl })(free:∀b o,b∉ch->s.heap.get? b=Za o->H b=Zc->H' b=Zc)
  (there:∀b o,b∉ch->s.heap.get? b=Za o->∃o',h'.get? b=Za o')
  (tups:∀b xs,H b=Za (.tup xs)->H' b=Za (.tup xs))(frzs:∀b o u,H b=Za (.frz o u)->H' b=Za (.frz o u))(tbls:∀b ps,H b=Za (.tbl ps)->∃more,H' b=Za (.tbl (ps++more)))
  (ns:∀m,s.heap.Ns X.env.locals m->h'.Ns X.env.locals m)(hok:HOk X.prog X.w H' h')(hg:ZcT g') :
  Inv X pj σ H' { s with heap:=h',gens:=g',drawn:=d',toks:=t' }:=by
 have neL:∀b o,X.s₀.heap.get? b=Za o->b≠X.env.locals:=λ b o e=>Z7 (ZJ (Z4 e) I.ok.above)
 have neC:∀b o,X.s₀.heap.get? b=Za o->b∉X.ex->b∉ch:=λ b o e hx hb=>by
  rcases(hch b hb).1 with z|z
  ·exact hx z
  ·exact absurd (ZJ (Z4 e) z) (Zck _)
 have cellK:∀x c,X.env.cells.lookup x=Za c->∀v,s.heap.IsCell c v->h'.IsCell c v:=λ x c e v ⟨o,ho,hd⟩=>by
  have nch:c∉ch:=λ z=>(hch c z).2.2.1 x c e rfl
  by_cases hc:c∈X.fs
  ·obtain⟨sl,q⟩:=slot c o (I.cne x c e) hc nch ho (I.freeC x c e)
   exact⟨_,q,hd⟩
  ·exact⟨o,keep c o (I.cne x c e) hc nch ho (I.freeC x c e),hd⟩
 refine⟨I.ok,I.os,hg,⟨λ b o e n hb hx=>?_,λ b o e n hb hx=>?_,λ b o e n hx=>?_,λ b o e hx=>?_,λ b xs e=>tups b xs (I.base.tups b xs e),λ b o xs e=>frzs b o xs (I.base.frzs b o xs e),λ b ps e=>?_⟩,?_,λ x c e=>?_,?_,λ x c e=>?_,λ p hp=>?_,hok,I.len⟩
 ·exact keep b o (neL b o e) hb (neC b o e hx) (I.base.keep b o e n hb hx) (I.base.free b o e n hx)
 ·obtain⟨sl,e1⟩:=I.base.slot b o e n hb hx
  obtain⟨sl',e2⟩:=slot b _ (neL b o e) hb (neC b o e hx) e1 (I.base.free b o e n hx)
  exact⟨sl',e2⟩
 ·obtain⟨o',e1⟩:=I.base.there b o e hx
  exact free b o' (neC b o e hx) e1 (I.base.free b o e n hx)
 ·obtain⟨o',e1⟩:=I.base.there b o e hx
  exact there b o' (neC b o e hx) e1
 ·obtain⟨m1,e1⟩:=I.base.tbls b ps e
  obtain⟨m2,e2⟩:=tbls b _ e1
  exact⟨m1++m2,by rw[e2,Array.append_assoc]⟩
 ·obtain⟨m,hn,hl⟩:=I.loc
  refine⟨m,ns m hn,λ i x v e1 e2 e3=>?_⟩
  obtain⟨u,r,l⟩:=hl i x v e1 e2 e3
  refine⟨u,r,?_⟩
  rcases l with l|⟨k,c,e,z⟩
  ·exact .inl l
  ·exact .inr ⟨k,c,e,cellK x c e _ z⟩
 ·obtain⟨v,z⟩:=I.cell x c e
  exact⟨v,cellK x c e v z⟩
 ·obtain⟨m,⟨o,_,_,ho,_⟩,_⟩:=I.loc
  exact free _ o (λ z=>(hch _ z).2.1 rfl) ho I.free
 ·obtain⟨v,o,ho,hd⟩:=I.cell x c e
  exact free c o (λ z=>(hch c z).2.2.1 x c e rfl) ho (I.freeC x c e)
 ·obtain⟨e,n,ne,nf,d⟩:=I.pin p hp
  have nch:p.1∉ch:=λ z=>(hch p.1 z).2.2.2 p hp rfl
  exact⟨keep p.1 p.2 ne nf nch e n,free p.1 p.2 nch e n,ne,nf,d⟩
theorem Inv.un {t':Nat}(I:Inv X pj σ H s)(u:Un X.fs [] H H' s.heap h')(hok:HOk X.prog X.w H' h'):Inv X pj σ H' { s with heap:=h',toks:=t' }:=by
 obtain⟨m,⟨o,es,ep,ho,r⟩,_⟩:=id I.loc
 obtain⟨sl,hL⟩:=u.any ho I.free 03
 exact I.step (g':=s.gens) (d':=s.drawn) (ch:=[]) (λ _ z=>nomatch z) (λ b o _ hb _ e n=>u.keep b o e n hb 03) (λ b o _ hb _ e n=>u.slot b o e n hb 03) (λ b o _ e n=>u.free b o e n 03) (λ b o _ e=>u.there b o e 03) u.tups u.frzs u.tbls (λ m' hm=>by
  obtain⟨o',es',ep',ho',r'⟩:=hm
  rw[ho] at ho';cases ho'
  exact⟨_,es',ep',hL,r'⟩) hok I.bare
theorem Inv.call {g':Array Zel}{t':Nat}{d':Drawn}{ch:List Zo}(I:Inv X pj σ H s)(u:Un (frs X.stack) ch H H' s.heap h')(hok:HOk X.prog X.w H' h')(hg:ZcT g')
  (hch:∀b∈ch,(b∈X.ex∨X.s₀.heap.objs.size<=b)/\b≠X.env.locals/\(∀x c,X.env.cells.lookup x=Za c->c≠b)/\∀p∈X.pn++pj,p.1≠b) :
  Inv X pj σ H' { s with heap:=h',gens:=g',drawn:=d',toks:=t' }:=by
 obtain⟨m,⟨o,es,ep,ho,r⟩,_⟩:=id I.loc
 obtain⟨sl,hL⟩:=u.any ho I.free λ z=>(hch _ z).2.1 rfl
 exact I.step (ch:=ch) hch (λ b o hL hb hc e n=>u.keep b o e n (λ z=>(Z6.mp (I.stkSub b z)).elim hL hb) hc) (λ b o _ _ hc e n=>u.any e n hc) (λ b o hc e n=>u.free b o e n hc) (λ b o hc e=>u.there b o e hc) u.tups u.frzs u.tbls (λ m' hm=>by
  obtain⟨o',es',ep',ho',r'⟩:=hm
  rw[ho] at ho';cases ho'
  exact⟨_,es',ep',hL,r'⟩) hok hg
theorem Inv.turned {t':Nat}{it:Zo}(I:Inv X pj σ H s)(k:∀b o,b≠it->s.heap.get? b=Za o->h'.get? b=Za o)(hn:H it=Zc)(hL:it≠X.env.locals)
  (h1:it∈X.ex∨X.s₀.heap.objs.size<=it)(h2:∀x c,X.env.cells.lookup x=Za c->c≠it)(h3:∀p∈X.pn++pj,p.1≠it):Inv X pj σ H { s with heap:=h',toks:=t' }:=by
 have nit:∀b u,H b=Za u->b≠it:=λ b u e z=>by rw[z,hn] at e;cases e
 refine I.step (g':=s.gens) (d':=s.drawn) (ch:=[it]) (λ b hb=>?_) (λ b o _ _ hc e _=>k b o (λ z=>hc (by simp[z])) e) (λ b o _ _ hc e _=>⟨o.slots,k b o (λ z=>hc (by simp[z])) e⟩) (λ _ _ _ _ n=>n)
  (λ b o hc e=>⟨o,k b o (λ z=>hc (by simp[z])) e⟩) (λ _ _ e=>e) (λ _ _ _ e=>e) (λ b ps e=>⟨#[],by rw[e];simp⟩) (λ m hm=>?_) (λ b u e=>?_) I.bare
 ·have e:b=it:=by simpa using hb
  subst e
  exact⟨h1,hL,h2,h3⟩
 ·obtain⟨o,es,ep,ho,r⟩:=hm
  exact⟨o,es,ep,k _ o (ZR hL) ho,r⟩
 ·refine(I.hok b u e).stay (λ c v hc q=>k c v ?_ q) (λ _ q=>q) λ _ _ q=>q
  rcases hc with z|z
  ·rw[z];exact nit b u e
  ·exact nit c _ z
theorem Inv.tok (I:Inv X pj σ H s)(t:Nat):Inv X pj σ H { s with toks:=t }:=I.un (h':=s.heap) (t':=t) Un.refl I.hok
theorem Inv.kept {t':Nat}(I:Inv X pj σ H s)(k:∀b u,s.heap.get? b=Za u->h'.get? b=Za u):Inv X pj σ H { s with heap:=h',toks:=t' }:=I.un (Un.kept k) (I.hok.kept k)
theorem Inv.laid {a:Zo}{o:HO}{t':Nat}(I:Inv X pj σ H s)(k:∀b u,s.heap.get? b=Za u->h'.get? b=Za u)(hp:s.heap.objs.size<=a)(new:JM X.prog X.w (upd H a o) h' a o) :
  Inv X pj σ (upd H a o) { s with heap:=h',toks:=t' }:=I.un (Un.laid k hp (I.hok.fresh hp)) (I.hok.laid k hp new)
theorem Inv.write {x e:Zo}{o:HO}{t':Nat}(I:Inv X pj σ H s)(mu:Mut (H x))(he:e=x∨H e=Za (.own x))(k:∀b u,b≠e->s.heap.get? b=Za u->h'.get? b=Za u)(heo:∃u,h'.get? e=Za u)
  (new:JM X.prog X.w (upd H x o) h' x o):Inv X pj σ (upd H x o) { s with heap:=h',toks:=t' }:=I.un (Un.write mu he k heo) (I.hok.write mu he k heo new)
theorem Inv.pins_of {pj':PnT}(I:Inv X pj σ H s)(h:∀p∈pj',s.heap.get? p.1=Za p.2/\H p.1=Zc/\p.1≠X.env.locals/\p.1∉X.fs/\∀v,p.2.data≠.cell v):Inv X pj' σ H s :=
 ⟨I.ok,I.os,I.bare,I.base,I.loc,I.cell,I.free,I.freeC,λ p hp=>(ZV.mp hp).elim (λ z=>I.pin p (Zaq _ z)) (h p),I.hok,I.len⟩
theorem Jnp {N:List Str}(hN:N.Nodup){i j:Nat}{x:Str}(a:N[i]?=Za x)(b:N[j]?=Za x):i=j:=by
 obtain⟨h1,e1⟩:=Zq.mp a
 obtain⟨h2,e2⟩:=Zq.mp b
 exact(Zdm hN).mp (e1.trans e2.symm)
theorem Jso {M:Model}{A:ZK}{E:QvT}{i:Nat}{x:Str}{v:V}{u:Zg}{Q:Unit->Zn->Prop}(I:Inv X pj σ H s)(hN:X.N.Nodup)(hi:X.N[i]?=Za x)(hx:Loc X.env.scope x)(r:RelV v u)
  (h:∀s',Inv X pj (σ.set i (Za v)) H s'->(∃a,Zc0 a s.heap s'.heap/\(a=X.env.locals∨X.env.cells.lookup x=Za a))->Q () s')(hf:X.fn x=Zi∨X.env.scope.names.lookup x=Za .local:=by assumption):Zy M A (storeName X.env x u) Q E s:=by
 obtain⟨m,hn,hl⟩:=id I.loc
 have hcls:(X.env.scope.kind==.class||(X.env.scope.kind==.module&&X.env.locals != X.env.globals))=Zk:=by rw[I.ok.kind];rfl
 have hiσ:i<σ.length:=by rw[I.len];exact(Zq.mp hi).1
 have cne:=I.cne
 have tracked:∀{a:Zo}{h':Zau},(∃o,s.heap.get? a=Za o/\H a=Zc)->Zc0 a s.heap h'->HOk X.prog X.w H h':=λ {a h'} ha hs b ob e=>by
  obtain⟨_,_,hfree⟩:=ha
  refine(I.hok b ob e).stay (λ c w' hc q=>(hs.2 c ?_).trans q) (λ _ q=>q) λ _ _ q=>q
  rintro rfl
  rcases hc with rfl|hc
  ·rw[hfree] at e;cases e
  ·rw[hfree] at hc;cases hc
 rcases hx with hk|hk
 ·refine wpAny_storeName_local hk hn (λ h' hn' hs=>?_) hcls
  obtain⟨oL,_,_,hoL,_⟩:=id hn
  refine h _ ⟨I.ok,I.os,I.bare,⟨λ b o e n hb hx=>?_,λ b o e n hb hx=>?_,I.base.free,λ b o e hx=>?_,I.base.tups,I.base.frzs,I.base.tbls⟩,⟨_,hn',λ j y v' e1 e2 e3=>?_⟩,λ y c e=>?_,I.free,I.freeC,λ p hp=>?_,tracked ⟨oL,hoL,I.free⟩ hs,by simpa using I.len⟩ ⟨_,hs,.inl rfl⟩
  ·exact(hs.2 b (Z7 (ZJ (Z4 e) I.ok.above))).trans (I.base.keep b o e n hb hx)
  ·obtain⟨sl,e1⟩:=I.base.slot b o e n hb hx
   exact⟨sl,(hs.2 b (Z7 (ZJ (Z4 e) I.ok.above))).trans e1⟩
  ·obtain⟨o',e1⟩:=I.base.there b o e hx
   exact⟨o',(hs.2 b (Z7 (ZJ (Z4 e) I.ok.above))).trans e1⟩
  ·by_cases hj:j=i
   ·subst hj
    rw[hi] at e1;cases e1
    rw[ZW hiσ] at e2
    cases e2
    exact⟨u,r,.inl ⟨hk,03⟩⟩
   ·rw[Zaa (ZR hj)] at e2
    obtain⟨u',r',q⟩:=hl j y v' e1 e2 e3
    refine⟨u',r',?_⟩
    rcases q with⟨k,e⟩|⟨k,c,e,z⟩
    ·refine .inl ⟨k,?_⟩
     have:y≠x:=λ e=>hj (Jnp hN e1 (e▸hi))
     simp[this,e]
    ·exact .inr ⟨k,c,e,z.sameBut hs (cne y c e)⟩
  ·obtain⟨w',z⟩:=I.cell y c e
   exact⟨w',z.sameBut hs (cne y c e)⟩
  ·obtain⟨e,n,ne,nf,d⟩:=I.pin p hp
   exact⟨(hs.2 p.1 ne).trans e,n,ne,nf,d⟩
 ·have hfn:X.fn x=Zi:=by
   rcases hf with z|z
   ·exact z
   ·rw[z] at hk;cases hk
  obtain⟨c,hc⟩:=I.ok.has x (.inl hk)
  obtain⟨w',z⟩:=I.cell x c hc
  refine wpAny_storeName_cell I.ok.kind hk hc z (λ h' hc' hs=>?_)
  obtain⟨oc,hoc,hocd⟩:=id z
  refine h { s with heap:=h' } ⟨I.ok,I.os,I.bare,⟨λ b o e n hb hx=>?_,λ b o e n hb hx=>?_,I.base.free,λ b o e hx=>?_,I.base.tups,I.base.frzs,I.base.tbls⟩,⟨m,hn.sameBut hs (ZR (cne x c hc)),λ j y v' e1 e2 e3=>?_⟩,λ y c' e=>?_,I.free,I.freeC,λ p hp=>?_,tracked ⟨oc,hoc,I.freeC x c hc⟩ hs,by simpa using I.len⟩ ⟨c,hs,.inr hc⟩
  ·exact(hs.2 b (Z7 (ZJ (Z4 e) (I.ok.cab x c hfn hc)))).trans (I.base.keep b o e n hb hx)
  ·obtain⟨sl,e1⟩:=I.base.slot b o e n hb hx
   exact⟨sl,(hs.2 b (Z7 (ZJ (Z4 e) (I.ok.cab x c hfn hc)))).trans e1⟩
  ·obtain⟨o',e1⟩:=I.base.there b o e hx
   exact⟨o',(hs.2 b (Z7 (ZJ (Z4 e) (I.ok.cab x c hfn hc)))).trans e1⟩
  ·by_cases hj:j=i
   ·subst hj
    rw[hi] at e1;cases e1
    rw[ZW hiσ] at e2
    cases e2
    exact⟨u,r,.inr ⟨.inl hk,c,hc,hc'⟩⟩
   ·rw[Zaa (ZR hj)] at e2
    obtain⟨u',r',q⟩:=hl j y v' e1 e2 e3
    refine⟨u',r',?_⟩
    rcases q with q|⟨k,c',e,z'⟩
    ·exact .inl q
    ·refine .inr ⟨k,c',e,z'.sameBut hs ?_⟩
     rintro rfl
     exact hj (Jnp hN e1 (I.ok.inj _ _ _ e hc▸hi))
  ·by_cases hcc:c'=c
   ·subst hcc;exact⟨_,hc'⟩
   ·obtain⟨w2,z2⟩:=I.cell y c' e
    exact⟨w2,z2.sameBut hs hcc⟩
  ·obtain⟨e,n,ne,nf,d⟩:=I.pin p hp
   refine⟨(hs.2 p.1 ?_).trans e,n,ne,nf,d⟩
   intro q
   rw[q,hoc] at e
   have q':oc=p.2:=ZQ e
   exact d w' (by rw[<- q'];exact hocd)
theorem Jge {M:Model}{A:ZK}{E:QvT}{i:Nat}{x:Str}{v:V}{u:Zg}{Q:Unit->Zn->Prop}(I:Inv X pj σ H s)(hN:X.N.Nodup)(hi:X.N[i]?=Za x)(hx:Loc X.env.scope x)(r:RelV v u)
  (h:∀s',Inv X pj (σ.set i (Za v)) H s'->Q () s')(hf:X.fn x=Zi∨X.env.scope.names.lookup x=Za .local:=by assumption):Zy M A (storeName X.env x u) Q E s :=
 Jso I hN hi hx r (λ s' I' _=>h s' I') hf
theorem Inv.call' {s':Zn}{ch:List Zo}(I:Inv X pj σ H s)(ho:s'.os=s.os)(u:Un (frs X.stack) ch H H' s.heap s'.heap)(hok:HOk X.prog X.w H' s'.heap)(hg:ZcT s'.gens)
  (hch:∀b∈ch,(b∈X.ex∨X.s₀.heap.objs.size<=b)/\b≠X.env.locals/\(∀x c,X.env.cells.lookup x=Za c->c≠b)/\∀p∈X.pn++pj,p.1≠b):Inv X pj σ H' s':=by
 obtain⟨h',g',d',t',o'⟩:=s'
 have e:o'=s.os:=ho
 subst e
 exact I.call (g':=g') (t':=t') (d':=d') u hok hg hch
end
abbrev XK:=Zg->Option Zo->Hp->Prop
abbrev St:=List (Option V)
abbrev VK:=V->Hp->Prop
abbrev TE:=St->Hp->VK->Prop
abbrev TT:=St->Hp->(Bool->Hp->Prop)->Prop
abbrev TA:=St->Hp->(List V->Hp->Prop)->Prop
structure Ends where
 nx:St->Hp->Prop
 rt:VK
 bk:St->Hp->Prop:=λ _ _=>False
 ct:St->Hp->Prop:=λ _ _=>False
abbrev TS:=Ends->St->Hp->Prop
def EP (X:Cx)(pj:PnT)(σ:St)(Q:VK)(u:Zg)(s':Zn):Prop:=∃v H',Inv X pj σ H' s'/\RelV v u/\Q v H'
def TP (X:Cx)(pj:PnT)(σ:St)(Q:Bool->Hp->Prop)(b:Bool)(s':Zn):Prop:=∃H',Inv X pj σ H' s'/\Q b H'
def SP (X:Cx)(pj:PnT)(D:Ends)(f:Flow)(s':Zn):Prop :=
 match f with
 | .next=>∃σ' H',Inv X pj σ' H' s'/\D.nx σ' H'
 | .brk=>∃σ' H',Inv X pj σ' H' s'/\D.bk σ' H'
 | .cont=>∃σ' H',Inv X pj σ' H' s'/\D.ct σ' H'
 | .ret u=>∃v σ' H',Inv X pj σ' H' s'/\RelV v u/\D.rt v H'
def PE (X:Cx)(e:Expr)(t:TE):Prop :=
 ∀(pj:PnT)(s:Zn)(σ:St)(H:Hp)(Q:VK),Inv X pj σ H s->t σ H Q->Zy (Z8 X.prog X.w) X.A (ZaU e X.env) (EP X pj σ Q) X.xe s
def PT (X:Cx)(e:Expr)(t:TT):Prop :=
 ∀(pj:PnT)(s:Zn)(σ:St)(H:Hp)(Q:Bool->Hp->Prop),Inv X pj σ H s->t σ H Q->Zy (Z8 X.prog X.w) X.A (Zef e X.env (ZaU e X.env)) (TP X pj σ Q) X.xe s
def PW (X:Cx)(e:Expr)(t:TT):Prop :=
 ∀(whole:Sem Zg)(pj:PnT)(s:Zn)(σ:St)(H:Hp)(Q:Bool->Hp->Prop),Inv X pj σ H s->t σ H Q->Zy (Z8 X.prog X.w) X.A (Zef e X.env whole) (TP X pj σ Q) X.xe s
theorem PW.pt {X:Cx}{e:Expr}{t:TT}(h:PW X e t):PT X e t:=h _
def PSs (X:Cx)(st:List ZcC)(t:TS):Prop :=
 ∀(pj:PnT)(s:Zn)(σ:St)(H:Hp)(D:Ends),Inv X pj σ H s->t D σ H->Zy (Z8 X.prog X.w) X.A (execs st X.env) (SP X pj D) X.xe s
theorem thn {α:Type}{t:Sem α}{Q Q':α->Zn->Prop}{M:Model}{A:ZK}{E:QvT}{s:Zn}(h:Zy M A t Q E s)(hQ:∀a s,Q a s->Q' a s):Zy M A t Q' E s:=Zaf h hQ λ _ _ x=>x
section
variable {X:Cx}
def tVar (i:Nat):TE:=λ σ H Q=>∃v,σ[i]?=Za (Za v)/\Q v H
def tC (v:V):TE:=λ _ H Q=>Q v H
theorem J1k {i:Nat}{x:Str}{pos:Pos}(hN:X.N[i]?=Za x)(hv:Vis X.env.scope x)(hd:(x==("__debug__":Str))=Zk:=by decide)(hcd:(x==("__classdict__":Str))=Zk:=by decide):PE X (.Name x pos) (tVar i):=by
 intro pj s σ H Q I h
 obtain⟨v,e,h⟩:=h
 obtain⟨m,hn,hl⟩:=I.loc
 obtain⟨u,r,l⟩:=hl i x v hN e hv
 have fin:EP X pj σ Q u s:=⟨v,H,I,r,h⟩
 rcases l with⟨hk,hm⟩|⟨hk,c,hc,hcell⟩
 ·exact wpAny_Name (wpAny_loadName_local I.ok.kind hk hn hm fin) hd
 ·rcases hk with hk|hk
  ·exact wpAny_Name (wpAny_loadName_cell I.ok.kind hk hc hcell fin) hd
  ·exact wpAny_Name (wpAny_loadName_free I.ok.kind hk hc hcell fin hcd) hd
theorem J1h {i j pos}:PE X (.Constant (.int i) j pos) (tC (.int i)):=λ _ _ _ H _ I h=>wpAny_Constant_int ⟨.int i,H,I.tok _,⟨_,rfl⟩,h⟩
theorem J3s {b j pos}:PE X (.Constant (.bool b) j pos) (tC (.bl b)):=λ _ _ _ H _ I h=>Constant_bool ⟨.bl b,H,I,rfl,h⟩
theorem J1i {j pos}:PE X (.Constant .none j pos) (tC .non):=λ _ _ _ H _ I h=>Constant_none ⟨.non,H,I,rfl,h⟩
theorem J1j {x j pos}:PE X (.Constant (.str x) j pos) (tC (.str x)):=λ _ _ _ H _ I h=>Calls.Constant_str ⟨.str x,H,I.tok _,⟨_,rfl⟩,h⟩
def Gl (X:Cx)(x:Str):Prop:=X.env.kindOf x=Za .globalImplicit
theorem Xa {E:QvT}{pj:PnT}{s:Zn}{σ:St}{H:Hp}{x:Str}{u:Zg}{pos:Pos}{Q:QvT}(I:Inv X pj σ H s)(hg:Gl X x)(hm:X.mg x=Za u)(h:Q u s)
  (hd:(x==("__debug__":Str))=Zk:=by decide):Zy (Z8 X.prog X.w) X.A (ZaU (.Name x pos) X.env) Q E s :=
 ZcW I.ok.kind hg (Calls.loadGlobal_global (by rw[I.ok.glob];exact I.mod.glob.keeps I.bk) hm h) hd
theorem Qz {E:QvT}{pj:PnT}{s:Zn}{σ:St}{H:Hp}{x:Str}{u:Zg}{pos:Pos}{Q:QvT}(I:Inv X pj σ H s)(hg:Gl X x)(hm:X.mg x=Zc)(hv:Zca x=Za u)(h:Q u s)
  (hn:x≠"__name__":=by decide)(hd:(x==("__debug__":Str))=Zk:=by decide):Zy (Z8 X.prog X.w) X.A (ZaU (.Name x pos) X.env) Q E s:=by
 obtain⟨mb,h1,h2⟩:=I.mod.blt
 exact ZcW I.ok.kind hg (Calls.loadGlobal_builtin (by rw[I.ok.glob];exact I.mod.glob.keeps I.bk) hm (by rw[I.ok.blt];exact h1.keeps I.bk) ((h2 x hn).trans hv) h) hd
theorem Jyf {x:Str}{v:V}{u:Zg}{pos:Pos}(hg:Gl X x)(hm:X.mg x=Za u)(r:RelV v u)(hd:(x==("__debug__":Str))=Zk:=by decide):PE X (.Name x pos) (tC v) :=
 λ _ _ _ H _ I h=>Xa I hg hm ⟨v,H,I,r,h⟩ hd
variable {a b:Expr}{ta tb:TE}{pos:Pos}
variable {tA tB':TT}{rest:List Expr}
end
def SqL (K:W.Frag)(H:Hp)(a:Zo)(xs:List V):Prop :=
 Rd H a (.lst xs) ∨
  ∃(o:Obj) (its:Array Zg) (n:Nat),K.lookup a=Za o/\o.cls=.type "list"/\o.dict=Zc/\o.data=.seq its n/\its.size<=sizeLine/\Vals xs its.toList
def SqT (K:W.Frag)(H:Hp)(a:Zo)(xs:List V):Prop :=
 Rd H a (.tup xs) ∨
  ∃(o:Obj) (its:Array Zg) (n:Nat),K.lookup a=Za o/\o.cls=.type "tuple"/\o.data=.seq its n/\its.size<=sizeLine/\Vals xs its.toList
def absV:Zg->Option V
 | .none=>Za .non
 | .bool b=>Za (.bl b)
 | .int i _=>Za (.int i)
 | .str x _=>Za (.str x)
 | .bytes b _=>Za (.byt b)
 | .float b _=>Za (.flt b)
 | .ref a=>Za (.ref a)
 | .type n=>Za (.ty n)
 | _=>Zc
theorem RelV.abs {x:V}{u:Zg}(r:RelV x u):absV u=Za x:=by
 cases x with
 | non=>cases r;rfl
 | bl _=>cases r;rfl
 | int _=>obtain⟨t,rfl⟩:=r;rfl
 | str _=>obtain⟨t,rfl⟩:=r;rfl
 | byt _=>obtain⟨t,rfl⟩:=r;rfl
 | flt _=>obtain⟨t,rfl⟩:=r;rfl
 | ref _=>cases r;rfl
 | ty _=>cases r;rfl
theorem RelV.inj {x y:V}{u:Zg}(r:RelV x u)(q:RelV y u):x=y:=ZQ (r.abs.symm.trans q.abs)
theorem Vals.inj:∀{xs ys:List V}{us:List Zg},Vals xs us->Vals ys us->xs=ys
 | _,_,_,.nil,.nil=>rfl
 | _,_,_,.cons r t,.cons r' t'=>by rw[r.inj r',Vals.inj t t']
section
variable {X:Cx}{pj:PnT}{σ:St}{H:Hp}{s:Zn}{a:Zo}{xs ys:List V}
theorem SqL.of {K:W.Frag}(h:H a=Za (.lst xs)):SqL K H a xs:=.inl (.inl h)
theorem SqT.of {K:W.Frag}(h:H a=Za (.tup xs)):SqT K H a xs:=.inl (.inl h)
theorem Inv.list (I:Inv X pj σ H s)(h:SqL X.K H a xs):∃its:List Zg,Vals xs its/\PlainL s.heap a its.toArray/\xs.length<=sizeLine:=by
 rcases h with h|⟨o,its,n,hk,hc,hd,hs,hz,r⟩
 ·obtain⟨z,its,n,r,e⟩:=h.ok I.hok
  exact⟨its,r,⟨_,n,e,rfl,rfl,rfl⟩,z⟩
 ·refine⟨its.toList,r,⟨o,n,I.kIn a o hk,hc,hd,by simpa using hs⟩,?_⟩
  have e:=r.length
  simp only[Zbd] at e
  omega
theorem Inv.tuple (I:Inv X pj σ H s)(h:SqT X.K H a xs):∃its:List Zg,Vals xs its/\IsTup s.heap a its.toArray/\xs.length<=sizeLine:=by
 rcases h with h|⟨o,its,n,hk,hc,hs,hz,r⟩
 ·obtain⟨z,its,r,p⟩:=h.ok I.hok
  exact⟨its,r,p,z⟩
 ·refine⟨its.toList,r,⟨o,I.kIn a o hk,hc,n,by simpa using hs⟩,?_⟩
  have e:=r.length
  simp only[Zbd] at e
  omega
theorem Inv.list_inj (I:Inv X pj σ H s)(h:SqL X.K H a xs)(h':SqL X.K H a ys):xs=ys:=by
 obtain⟨its,r,⟨o,n,e,_,_,d⟩,_⟩:=I.list h
 obtain⟨its',r',⟨o',n',e',_,_,d'⟩,_⟩:=I.list h'
 rw[e] at e';cases e'
 rw[d] at d'
 injection d' with d1 _
 have:its=its':=by simpa using congrArg Array.toList d1
 subst this
 exact r.inj r'
theorem Inv.tuple_inj (I:Inv X pj σ H s)(h:SqT X.K H a xs)(h':SqT X.K H a ys):xs=ys:=by
 obtain⟨its,r,⟨o,e,_,n,d⟩,_⟩:=I.tuple h
 obtain⟨its',r',⟨o',e',_,n',d'⟩,_⟩:=I.tuple h'
 rw[e] at e';cases e'
 rw[d] at d'
 injection d' with d1 _
 have:its=its':=by simpa using congrArg Array.toList d1
 subst this
 exact r.inj r'
end
abbrev Cx.wish (X:Cx)(E:QvT):Cx:={ X with xe:=E }
abbrev Cx.nox (X:Cx):Cx:=X.wish λ _ _=>False
theorem Cx.Ok.wish {X:Cx}(ok:X.Ok)(E:QvT):(X.wish E).Ok :=
 ⟨ok.mod,ok.kind,ok.glob,ok.blt,ok.above,ok.inj,ok.has,ok.cab,ok.hd,ok.frames,ok.stk,ok.exf,ok.bs,ok.bsz,ok.noex,ok.exfs,ok.funs,ok.frf⟩
theorem Cx.Ok.unwish {X:Cx}{E:QvT}(ok:(X.wish E).Ok):X.Ok :=
 ⟨ok.mod,ok.kind,ok.glob,ok.blt,ok.above,ok.inj,ok.has,ok.cab,ok.hd,ok.frames,ok.stk,ok.exf,ok.bs,ok.bsz,ok.noex,ok.exfs,ok.funs,ok.frf⟩
section
variable {X:Cx}{pj:PnT}{σ:St}{H:Hp}{s:Zn}{E:QvT}
theorem Inv.wish (I:Inv X pj σ H s)(E:QvT):Inv (X.wish E) pj σ H s:=⟨I.ok.wish E,I.os,I.bare,I.base,I.loc,I.cell,I.free,I.freeC,I.pin,I.hok,I.len⟩
theorem Inv.unwish (I:Inv (X.wish E) pj σ H s):Inv X pj σ H s:=⟨I.ok.unwish,I.os,I.bare,I.base,I.loc,I.cell,I.free,I.freeC,I.pin,I.hok,I.len⟩
theorem SP.unwish {D:Ends}{f:Flow}{s':Zn}(h:SP (X.wish E) pj D f s'):SP X pj D f s':=by
 cases f with
 | next=>obtain⟨σ',H',I,q⟩:=h;exact⟨σ',H',I.unwish,q⟩
 | brk=>obtain⟨σ',H',I,q⟩:=h;exact⟨σ',H',I.unwish,q⟩
 | cont=>obtain⟨σ',H',I,q⟩:=h;exact⟨σ',H',I.unwish,q⟩
 | ret u=>obtain⟨v,σ',H',I,r,q⟩:=h;exact⟨v,σ',H',I.unwish,r,q⟩
theorem PE.nox {e:Expr}{t:TE}(h:PE X.nox e t):PE X e t:=λ pj s σ H Q I hw =>
 Zaf (h pj s σ H Q (I.wish _) hw) (λ _ _ ⟨v,H',I',r,q⟩=>⟨v,H',I'.unwish,r,q⟩) λ _ _ z=>ZaT z
theorem PT.nox {e:Expr}{t:TT}(h:PT X.nox e t):PT X e t:=λ pj s σ H Q I hw =>
 Zaf (h pj s σ H Q (I.wish _) hw) (λ _ _ ⟨H',I',q⟩=>⟨H',I'.unwish,q⟩) λ _ _ z=>ZaT z
theorem PSs.nox {st:List ZcC}{t:TS}(h:PSs X.nox st t):PSs X st t:=λ pj s σ H D I hw =>
 Zaf (h pj s σ H D (I.wish _) hw) (λ _ _ q=>q.unwish) λ _ _ z=>ZaT z
end
section
variable {X:Cx}{st:ZcC}{rest:List ZcC}{t u:TS}{e:Expr}{te:TE}{pos:Pos}
theorem Inv.quiet {pj:PnT}{σ:St}{H:Hp}{s:Zn}(I:Inv X pj σ H s):interactive X.env=Zk:=by simp[interactive,I.ok.kind]
end
abbrev TSet:=V->V->V->Hp->(Hp->Prop)->Prop
def PSet (X:Cx)(t:TSet):Prop :=
 ∀(pj:PnT)(s:Zn)(σ:St)(H:Hp)(o i v:V)(ov iv u:Zg)(Q:Hp->Prop),Inv X pj σ H s->RelV o ov->RelV i iv->RelV v u->t o i v H Q ->
  Zy (Z8 X.prog X.w) X.A (setItem ov iv u) (λ _ s'=>∃H',Inv X pj σ H' s'/\Q H') X.xe s
section
variable {X:Cx}{pos:Pos}
end
structure It where
 go:Nat->Hp->Prop
 yld:Nat->Hp->V->Hp->Prop
 stop:Nat->Hp->Prop
def FpOk (X:Cx)(pj:PnT)(H:Hp)(b:Zo):Prop :=
 H b=Zc/\b≠X.env.locals/\b∉X.fs/\(b∈X.ex∨X.s₀.heap.objs.size<=b)/\(∀x c,X.env.cells.lookup x=Za c->c≠b)/\∀p∈X.pn++pj,p.1≠b
theorem Inv.fpOk {X:Cx}{pj:PnT}{σ:St}{H H':Hp}{s:Zn}{b:Zo}(I:Inv X pj σ H s)(hb:s.heap.objs.size<=b)(hn:H' b=Zc):FpOk X pj H' b:=by
 refine⟨hn,ZaP (ZJ I.lt hb),I.nofs hb,.inr (Zak I.sz hb),λ x c e z=>?_,λ p hp z=>?_⟩
 ·obtain⟨v,q⟩:=I.cell x c e
  exact absurd (ZJ q.lt (by rw[z];exact hb)) (Zck _)
 ·exact absurd (ZJ (Z4 (I.pin p hp).1) (by rw[z];exact hb)) (Zck _)
structure Turn (P:ZB)(w:Zab)(K:W.Frag)(tg:Expr)(J:It)(fp:List Zo)(it:Zo)(tn:Nat->Zau->Prop):Prop where
 mem:it∈fp
 obj:∀i h,tn i h->∀b∈fp,∃o,h.get? b=Za o/\∀v,o.data≠.cell v
 keep:∀i h h',tn i h->(∀b∈fp,∀o,h.get? b=Za o->h'.get? b=Za o)->tn i h'
 item:∀(X:Cx),X.prog=P->X.w=w->X.K=K->X.calm=Zi->∀(i:Nat)(pj:PnT)(s:Zn)(σ:St)(H:Hp)(E:QvT),Inv X pj σ H s->(∀b∈fp,FpOk X pj H b)->tn i s.heap->J.go i H ->
  Zy (Z8 P w) X.A (ZbC (.ref it)) (λ r s1=>∃u,r=Za u /\
   Zy (Z8 P w) X.A (Zco tg (.ref it) u) (λ _ s2=>∃x H',Inv X pj σ H' s2/\RelV x u/\J.yld i H x H'/\tn (i+1) s2.heap/\∀b∈fp,H' b=Zc) E s1) E s
 done:∀(X:Cx),X.prog=P->X.w=w->X.K=K->X.calm=Zi->∀(i:Nat)(pj:PnT)(s:Zn)(σ:St)(H:Hp)(E:QvT),Inv X pj σ H s->(∀b∈fp,FpOk X pj H b)->tn i s.heap->J.stop i H ->
  Zy (Z8 P w) X.A (ZbC (.ref it)) (λ r s1=>r=Zc/\Inv X pj σ H s1) E s
 self:∀(A:ZK)(i:Nat)(s:Zn)(Q:QvT)(E:QvT),tn i s.heap->Q (.ref it) s->Zy (Z8 P w) A (Zeg (.ref it)) Q E s
def PIE (X:Cx)(pj:PnT)(σ:St)(tg:Expr)(R:It->Hp->Prop)(itv:Zg)(s2:Zn):Prop :=
 ∃(it:Zo)(fp:List Zo)(tn:Nat->Zau->Prop)(J:It)(H':Hp),itv=.ref it/\Inv X pj σ H' s2/\Turn X.prog X.w X.K tg J fp it tn/\tn 0 s2.heap/\(∀b∈fp,FpOk X pj H' b)/\R J H'
theorem Jto {M:Model}{A:ZK}{E:QvT}{s:Zn}{tg:Expr}{it:Zo}{u:Zg}{o:Obj}{n:String}{vs:Array Zg}{Q:Unit->Zn->Prop}(ho:s.heap.get? it=Za o)(hc:o.cls=.type n)(hd:o.data=.fields vs)
  (hn:["enumerate","zip","dict_itemiterator","dict_reverseitemiterator","odict_iterator","itertools.zip_longest","itertools.pairwise"].contains n=Zk)(hQ:Q () s):Zy M A (Zco tg (.ref it) u) Q E s:=by
 unfold Zco
 cases tg<;>first
  | exact Zw hQ
  | (cases u<;>first
    | exact Zw hQ
    | (refine Zd (wpAny_load ho ?_)
       rw[hc,hd]
       show Zy M A (if (["enumerate","zip","dict_itemiterator","dict_reverseitemiterator","odict_iterator","itertools.zip_longest","itertools.pairwise"].contains n&&vs[0]?==Za (Zet _))=Zi then _ else _) Q E s
       rw[if_neg (by intro h;rw[hn,Bool.false_and] at h;cases h)]
       exact Zw hQ))
def Itl (K:W.Frag)(a:Zo):It :=
 ⟨λ i H=>∃xs x,SqL K H a xs/\xs[i]?=Za x,λ i H x H'=>H'=H/\∀xs,SqL K H a xs->xs[i]?=Za x,λ i H=>∃xs,SqL K H a xs/\xs.length<=i⟩
def Itt (K:W.Frag)(a:Zo):It :=
 ⟨λ i H=>∃xs x,SqT K H a xs/\xs[i]?=Za x,λ i H x H'=>H'=H/\∀xs,SqT K H a xs->xs[i]?=Za x,λ i H=>∃xs,SqT K H a xs/\xs.length<=i⟩
def Itr (lo:Int)(n:Nat):It:=⟨λ i _=>i<n,λ i H x H'=>H'=H/\x=.int (lo+i),λ i _=>n<=i⟩
theorem Jl3 {P:ZB}{w:Zab}{K:W.Frag}{tg:Expr}(a it:Zo):Turn P w K tg (Itl K a) [it] it (λ i h=>h.IsListIter it a i) where
 mem:=03
 obj:=λ i h st b hb=>by
  have e:b=it:=by simpa using hb
  subst e
  obtain⟨o,e,c,d⟩:=st
  exact⟨o,e,λ v z=>by rw[d] at z;cases z⟩
 keep:=λ i h h' st k=>st.at λ o e=>k it 03 o e
 item:=by
  intro X hP hw hK hc i pj s σ H E I hf st hg
  subst hP hw hK
  obtain⟨xs,x,hq,hx⟩:=hg
  obtain⟨its,rv,p,hz⟩:=I.list hq
  obtain⟨u,hu,ru⟩:=rv.get hx
  obtain⟨f0,f1,f2,f3,f4,f5⟩:=hf it 03
  refine Zd1 st p.isList (x:=u) (by simpa using hu) λ h' st' sb=>?_
  have I1:Inv X pj σ H { s with heap:=h' }:=I.turned (t':=s.toks) (λ b o hb e=>(sb.2 b hb).trans e) f0 f1 f3 f4 f5
  obtain⟨o,e,c,d⟩:=id st'
  exact⟨u,rfl,Jto (s:={ s with heap:=h' }) e c d 01 ⟨x,H,I1,ru,⟨rfl,λ ys hy=>by rw[I.list_inj hy hq];exact hx⟩,st',λ b hb=>(hf b hb).1⟩⟩
 done:=by
  intro X hP hw hK hc i pj s σ H E I hf st hg
  subst hP hw hK
  obtain⟨xs,hq,hx⟩:=hg
  obtain⟨its,rv,p,hz⟩:=I.list hq
  obtain⟨f0,f1,f2,f3,f4,f5⟩:=hf it 03
  have hl:=rv.length
  exact ZdE (I.ok.hd hc) st p.isList (by simp;omega) λ h' eb=>⟨rfl,I.turned (t':=s.toks) (λ b o hb e=>eb b o hb e) f0 f1 f3 f4 f5⟩
 self:=λ _ _ _ _ _ st h=>wpAny_pyIter_listiter st h
theorem Jpy {P:ZB}{w:Zab}{K:W.Frag}{tg:Expr}(a it:Zo):Turn P w K tg (Itt K a) [it] it (λ i h=>h.IsTupleIter it a i) where
 mem:=03
 obj:=λ i h st b hb=>by
  have e:b=it:=by simpa using hb
  subst e
  obtain⟨o,e,c,d⟩:=st
  exact⟨o,e,λ v z=>by rw[d] at z;cases z⟩
 keep:=λ i h h' st k=>st.at λ o e=>k it 03 o e
 item:=by
  intro X hP hw hK hc i pj s σ H E I hf st hg
  subst hP hw hK
  obtain⟨xs,x,hq,hx⟩:=hg
  obtain⟨its,rv,p,hz⟩:=I.tuple hq
  obtain⟨u,hu,ru⟩:=rv.get hx
  obtain⟨f0,f1,f2,f3,f4,f5⟩:=hf it 03
  refine wpAny_pyNext_tuple_item st (show s.heap.IsTuple a its.toArray from p) (x:=u) (by simpa using hu) λ h' st' sb=>?_
  have I1:Inv X pj σ H { s with heap:=h' }:=I.turned (t':=s.toks) (λ b o hb e=>(sb.2 b hb).trans e) f0 f1 f3 f4 f5
  obtain⟨o,e,c,d⟩:=id st'
  exact⟨u,rfl,Jto (s:={ s with heap:=h' }) e c d 01 ⟨x,H,I1,ru,⟨rfl,λ ys hy=>by rw[I.tuple_inj hy hq];exact hx⟩,st',λ b hb=>(hf b hb).1⟩⟩
 done:=by
  intro X hP hw hK hc i pj s σ H E I hf st hg
  subst hP hw hK
  obtain⟨xs,hq,hx⟩:=hg
  obtain⟨its,rv,p,hz⟩:=I.tuple hq
  obtain⟨f0,f1,f2,f3,f4,f5⟩:=hf it 03
  have hl:=rv.length
  exact wpAny_pyNext_tuple_end (I.ok.hd hc) st (show s.heap.IsTuple a its.toArray from p) (by simp;omega) λ h' eb=>⟨rfl,I.turned (t':=s.toks) (λ b o hb e=>eb b o hb e) f0 f1 f3 f4 f5⟩
 self:=λ _ _ _ _ _ st h=>wpAny_pyIter_tupleiter st h
theorem Jpx {P:ZB}{w:Zab}{K:W.Frag}{tg:Expr}(it:Zo)(lo:Int)(n:Nat):Turn P w K tg (Itr lo n) [it] it (λ i h=>IsRangeIter h it (lo+(i:Nat)*1) ((n:Int)-(i:Nat)) 1) where
 mem:=03
 obj:=λ i h st b hb=>by
  have e:b=it:=by simpa using hb
  subst e
  exact⟨_,st,λ v z=>by
   have z':Data.fields _=Zeu v:=z
   cases z'⟩
 keep:=λ i h h' st k=>k it 03 _ st
 item:=by
  intro X hP hw hK hc i pj s σ H E I hf st hg
  subst hP hw hK
  obtain⟨f0,f1,f2,f3,f4,f5⟩:=hf it 03
  have W:=Walks.range (prog:=X.prog) (w:=X.w) (I.ok.hd hc) it lo 1 n
  refine W.item i s _ _ hg st λ v h' tk hv st' kk=>?_
  obtain⟨t,rfl⟩:=hv
  have I1:Inv X pj σ H { s with heap:=h',toks:=tk }:=I.turned (λ b o hb e=>kk b o (by simpa using hb) e) f0 f1 f3 f4 f5
  refine⟨_,rfl,Jto (s:={ s with heap:=h',toks:=tk }) (n:="range_iterator") st' rfl rfl 01 ⟨.int (lo+i),H,I1,⟨t,?_⟩,⟨rfl,rfl⟩,st',λ b hb=>(hf b hb).1⟩⟩
  rw[Int.mul_one]
 done:=by
  intro X hP hw hK hc i pj s σ H E I hf st hg
  subst hP hw hK
  obtain⟨f0,f1,f2,f3,f4,f5⟩:=hf it 03
  exact wpAny_pyNext_range_end (I.ok.hd hc) st (by have:n<=i:=hg;omega) λ h' eb=>⟨rfl,I.turned (t':=s.toks) (λ b o hb e=>eb b o hb e) f0 f1 f3 f4 f5⟩
 self:=λ _ _ _ _ _ st h=>wpAny_pyIter_rangeiter st h
section
variable {X:Cx}{tg:Expr}
theorem Juq {pj:PnT}{σ:St}{H:Hp}{s:Zn}{R:It->Hp->Prop}{E:QvT}{lo hi:Int}{t u v:Tok}{tk:Nat}(I:Inv X pj σ H s)(h1: -(2^62)<=lo)(h2:lo<2^62)(h3: -(2^62)<=hi)(h4:hi<2^62)
  (q:R (Itr lo (hi-lo).toNat) H):Zy (Z8 X.prog X.w) X.A (Zeg (.ref s.heap.objs.size)) (PIE X pj σ tg R) E { s with heap:=s.heap.push { cls:=.type "range",data:=.fields #[.int lo t,.int hi u,.int 1 v] },toks:=tk }:=by
 refine wpAny_pyIter_range (IsRange.new ..) (small_one h1 h2 h3 h4) ?_
 have I1:Inv X pj σ H { s with heap:=s.heap.push { cls:=.type "range",data:=.fields #[.int lo t,.int hi u,.int 1 v] },toks:=tk }:=I.kept λ b o e=>Zh _ e
 refine⟨(s.heap.push { cls:=.type "range",data:=.fields #[.int lo t,.int hi u,.int 1 v] }).objs.size,[(s.heap.push { cls:=.type "range",data:=.fields #[.int lo t,.int hi u,.int 1 v] }).objs.size],_,_,H,rfl,
  I1.kept (t':=tk) λ b o e=>Zh _ e,Jpx _ lo (hi-lo).toNat,?_,λ b hb=>?_,q⟩
 ·have e1:lo+((0:Nat):Int)*1=lo:=03
  have e2:(((hi-lo).toNat:Nat):Int)-((0:Nat):Int)=Zdn lo hi 1:=by rw[rangeSize_one];split<;>omega
  show IsRangeIter _ _ (lo+((0:Nat):Int)*1) ((((hi-lo).toNat:Nat):Int)-((0:Nat):Int)) 1
  rw[e1,e2]
  exact Z1 _ rfl
 ·have e:b=(s.heap.push { cls:=.type "range",data:=.fields #[.int lo t,.int hi u,.int 1 v] }).objs.size:=by simpa using hb
  subst e
  exact I1.fpOk (Zp _) (I1.hok.fresh (Zp _))
def QZ (fp:List Zo)(h:Zau):PnT:=fp.filterMap λ b=>(h.get? b).map λ o=>(b,o)
theorem Ys {fp:List Zo}{h:Zau}{b:Zo}{o:Obj}(hb:b∈fp)(e:h.get? b=Za o):(b,o)∈QZ fp h:=List.mem_filterMap.mpr ⟨b,hb,by rw[e];rfl⟩
theorem Jr2 {fp:List Zo}{h:Zau}{p:Zo×Obj}(hp:p∈QZ fp h):p.1∈fp/\h.get? p.1=Za p.2:=by
 obtain⟨b,hb,e⟩:=List.mem_filterMap.mp hp
 cases q:h.get? b with
 | none=>rw[q] at e;cases e
 | some o =>
  rw[q] at e
  have e':(b,o)=p:=ZQ e
  subst e'
  exact⟨hb,q⟩
theorem Inv.pinned {pj:PnT}{σ:St}{H:Hp}{s:Zn}{fp:List Zo}(I:Inv X pj σ H s)(hf:∀b∈fp,FpOk X pj H b)(ho:∀b∈fp,∃o,s.heap.get? b=Za o/\∀v,o.data≠.cell v):Inv X (pj++QZ fp s.heap) σ H s :=
 I.pins_of λ p hp=>(ZV.mp hp).elim (λ z=>I.pin p (Zj _ z)) λ z=>by
  obtain⟨hb,e⟩:=Jr2 z
  obtain⟨f0,f1,f2,_⟩:=hf p.1 hb
  obtain⟨o,e',d⟩:=ho p.1 hb
  rw[e] at e';cases e'
  exact⟨e,f0,f1,f2,d⟩
theorem Inv.unpinned {pj pl:PnT}{σ:St}{H:Hp}{s:Zn}(I:Inv X (pj++pl) σ H s):Inv X pj σ H s:=I.pins_of λ p hp=>I.pin p (Zj _ (Zaq _ hp))
end
abbrev R2:=V->V->Hp->VK->Prop
def OpR (X:Cx)(f:Zg->Zg->Sem Zg)(r:R2):Prop :=
 ∀(pj:PnT)(s:Zn)(σ:St)(H:Hp)(x y:V)(v u:Zg)(Q:VK),Inv X pj σ H s->RelV x v->RelV y u->r x y H Q ->
  Zy (Z8 X.prog X.w) X.A (f v u) (EP X pj σ Q) X.xe s
def UnR (X:Cx)(f:Zg->Sem Zg)(r:V->Hp->VK->Prop):Prop :=
 ∀(pj:PnT)(s:Zn)(σ:St)(H:Hp)(x:V)(v:Zg)(Q:VK),Inv X pj σ H s->RelV x v->r x H Q ->
  Zy (Z8 X.prog X.w) X.A (f v) (EP X pj σ Q) X.xe s
def Xl (X:Cx)(f:Zg)(r:List V->Hp->VK->Prop):Prop :=
 ∀(pj:PnT)(s:Zn)(σ:St)(H:Hp)(xs:List V)(us:List Zg)(Q:VK),Inv X pj σ H s->Vals xs us->r xs H Q ->
  Zy (Z8 X.prog X.w) X.A (call f us) (EP X pj σ Q) X.xe s
def TruR (X:Cx)(r:V->Hp->(Bool->Hp->Prop)->Prop):Prop :=
 ∀(pj:PnT)(s:Zn)(σ:St)(H:Hp)(x:V)(v:Zg)(Q:Bool->Hp->Prop),Inv X pj σ H s->RelV x v->r x H Q ->
  Zy (Z8 X.prog X.w) X.A (truthy v) (TP X pj σ Q) X.xe s
def rI (C:Int->Int->Prop)(g:Int->Int->V):R2:=λ x y H Q=>∃i j,x=.int i/\y=.int j/\C i j/\Q (g i j) H
def rI0 (g:Int->Int->V):R2:=λ x y H Q=>∃i j,x=.int i/\y=.int j/\Q (g i j) H
def rU (g:Int->V):V->Hp->VK->Prop:=λ x H Q=>∃i,x=.int i/\Q (g i) H
section
variable {X:Cx}{a b c:Expr}{ta tb tc:TE}{pos:Pos}
theorem opI {f:Zg->Zg->Sem Zg}{C:Int->Int->Prop}{g:Int->Int->Int}
  (rule:∀(i j:Int)(t u:Tok)(s:Zn)(Q:QvT)(E:QvT),C i j->Q (.int (g i j) s.toks) { s with toks:=s.toks+1 }->Zy (Z8 X.prog X.w) X.A (f (.int i t) (.int j u)) Q E s) :
  OpR X f (rI C λ i j=>.int (g i j)):=by
 intro pj s σ H x y v u Q I rx ry h
 obtain⟨i,j,rfl,rfl,hc,q⟩:=h
 obtain⟨t,rfl⟩:=rx
 obtain⟨t',rfl⟩:=ry
 exact rule i j t t' s _ _ hc ⟨.int (g i j),H,I.tok _,⟨_,rfl⟩,q⟩
theorem opI0 {f:Zg->Zg->Sem Zg}{g:Int->Int->Int}
  (rule:∀(i j:Int)(t u:Tok)(s:Zn)(Q:QvT)(E:QvT),Q (.int (g i j) s.toks) { s with toks:=s.toks+1 }->Zy (Z8 X.prog X.w) X.A (f (.int i t) (.int j u)) Q E s) :
  OpR X f (rI0 λ i j=>.int (g i j)):=by
 intro pj s σ H x y v u Q I rx ry h
 obtain⟨i,j,rfl,rfl,q⟩:=h
 obtain⟨t,rfl⟩:=rx
 obtain⟨t',rfl⟩:=ry
 exact rule i j t t' s _ _ ⟨.int (g i j),H,I.tok _,⟨_,rfl⟩,q⟩
theorem opB0 {f:Zg->Zg->Sem Zg}{g:Int->Int->Bool}
  (rule:∀(i j:Int)(t u:Tok)(s:Zn)(Q:QvT)(E:QvT),Q (.bool (g i j)) s->Zy (Z8 X.prog X.w) X.A (f (.int i t) (.int j u)) Q E s) :
  OpR X f (rI0 λ i j=>.bl (g i j)):=by
 intro pj s σ H x y v u Q I rx ry h
 obtain⟨i,j,rfl,rfl,q⟩:=h
 obtain⟨t,rfl⟩:=rx
 obtain⟨t',rfl⟩:=ry
 exact rule i j t t' s _ _ ⟨.bl (g i j),H,I,rfl,q⟩
def CPow (i j:Int):Prop:=0<=j/\j<=1000000/\i.natAbs<2^64
def CMul (i j:Int):Prop:=(-(2^64)<i/\i<2^64)∨(-(2^64)<j/\j<2^64)
theorem CMul.ok {i j:Int}(h:CMul i j):IntMulOk i j:=by
 rcases h with⟨h1,h2⟩|⟨h1,h2⟩
 ·exact .of_left (Zdf h1 h2)
 ·exact .of_right (Zdf h1 h2)
theorem J08:OpR X (ZaV .Add) (rI0 λ i j=>.int (i+j)):=opI0 λ _ _ _ _ _ _ _ q=>add_int q
theorem J1d:OpR X (ZaV .Sub) (rI0 λ i j=>.int (i-j)):=opI0 λ _ _ _ _ _ _ _ q=>sub_int q
theorem J1a:OpR X (ZaV .Mod) (rI (λ _ j=>0<j) λ i j=>.int (i%j)):=opI λ i j _ _ _ _ _ hc q=>by
 have h1:(0:Int)<j:=hc
 exact mod_int' 00 (by rw[Int.fmod_eq_emod_of_nonneg i 00];exact q)
theorem J1b:OpR X (ZaV .Pow) (rI CPow λ i j=>.int (i^j.toNat)):=opI λ _ _ _ _ _ _ _ hc q=>pow_int_small hc.1 hc.2.1 hc.2.2 q
theorem unI {f:Zg->Sem Zg}{g:Int->Int}
  (rule:∀(i:Int)(t:Tok)(s:Zn)(Q:QvT)(E:QvT),Q (.int (g i) s.toks) { s with toks:=s.toks+1 }->Zy (Z8 X.prog X.w) X.A (f (.int i t)) Q E s) :
  UnR X f (rU λ i=>.int (g i)):=by
 intro pj s σ H x v Q I rx h
 obtain⟨i,rfl,q⟩:=h
 obtain⟨t,rfl⟩:=rx
 exact rule i t s _ _ ⟨.int (g i),H,I.tok _,⟨_,rfl⟩,q⟩
theorem J19:UnR X (unaryOp .USub) (rU λ i=>.int (-i)):=unI λ _ _ _ _ _ q=>neg_int q
end
def scal:V->V->Bool
 | .non,.non=>Zi|.non,.int _=>Zi|.int _,.non=>Zi|.non,.bl _=>Zi|.bl _,.non=>Zi|.non,.str _=>Zi|.str _,.non=>Zi
 | .int _,.int _=>Zi|.bl _,.bl _=>Zi|.str _,.str _=>Zi|.byt _,.byt _=>Zi
 | .int _,.str _=>Zi|.str _,.int _=>Zi|.bl _,.str _=>Zi|.str _,.bl _=>Zi
 | _,_=>Zk
def rEq:R2:=λ x y H Q=>scal x y=Zi/\Q (.bl (decide (x=y))) H
def rNe:R2:=λ x y H Q=>scal x y=Zi/\Q (.bl (!decide (x=y))) H
theorem Jqt {i j:Int}:decide (V.int i=V.int j)=(i==j):=by
 rw[Zbr]
 simp
theorem Jvw {i j:Bool}:decide (V.bl i=V.bl j)=(i==j):=by
 rw[Zbr]
 simp
theorem Jqu {i j:Str}:decide (V.str i=V.str j)=(i==j):=by
 rw[Zbr]
 simp
theorem Jqs {i j:Array UInt8}:decide (V.byt i=V.byt j)=(i.toList==j.toList):=by
 rw[Zbr]
 cases i
 cases j
 simp
section
variable {X:Cx}{a b c:Expr}{ta tb tc:TE}{pos:Pos}
theorem J9 {pj:PnT}{σ:St}{H:Hp}{s:Zn}{Q:VK}{k k':Bool}(I:Inv X pj σ H s)(q:Q (.bl k) H)(e:k=k'):EP X pj σ Q (.bool k') s:=by
 subst e
 exact⟨.bl k,H,I,rfl,q⟩
theorem J3m:OpR X (Zav .Eq) rEq:=by
 intro pj s σ H x y v u Q I rx ry h
 obtain⟨hs,q⟩:=h
 cases x with
 | non =>
  cases rx
  cases y with
  | non=>cases ry;exact PySem.EqNone.eq_none_none (J9 I q 03)
  | bl j=>cases ry;exact PySem.EqNone.eq_none_bool (J9 I q 03)
  | int j=>obtain⟨t',rfl⟩:=ry;exact PySem.EqNone.eq_none_int (J9 I q 03)
  | str j=>obtain⟨t',rfl⟩:=ry;exact PySem.EqNone.eq_none_str (J9 I q 03)
  | _=>exact absurd (show Zk=Zi from hs) Zu
 | bl i =>
  cases rx
  cases y with
  | non=>cases ry;exact PySem.EqNone.eq_bool_none (J9 I q 03)
  | bl j=>cases ry;exact eq_bool (J9 I q Jvw)
  | str j=>obtain⟨t',rfl⟩:=ry;exact PySem.EqMixed.eq_bool_str (J9 I q 03)
  | _=>exact absurd (show Zk=Zi from hs) Zu
 | int i =>
  obtain⟨t,rfl⟩:=rx
  cases y with
  | non=>cases ry;exact PySem.EqNone.eq_int_none (J9 I q 03)
  | int j=>obtain⟨t',rfl⟩:=ry;exact eq_int (J9 I q Jqt)
  | str j=>obtain⟨t',rfl⟩:=ry;exact PySem.EqMixed.eq_int_str (J9 I q 03)
  | _=>exact absurd (show Zk=Zi from hs) Zu
 | str i =>
  obtain⟨t,rfl⟩:=rx
  cases y with
  | non=>cases ry;exact PySem.EqNone.eq_str_none (J9 I q 03)
  | bl j=>cases ry;exact PySem.EqMixed.eq_str_bool (J9 I q 03)
  | int j=>obtain⟨t',rfl⟩:=ry;exact PySem.EqMixed.eq_str_int (J9 I q 03)
  | str j=>obtain⟨t',rfl⟩:=ry;exact eq_str (J9 I q Jqu)
  | _=>exact absurd (show Zk=Zi from hs) Zu
 | byt i =>
  obtain⟨t,rfl⟩:=rx
  cases y with
  | byt j=>obtain⟨t',rfl⟩:=ry;exact W.eq_bytes (J9 I q Jqs)
  | _=>exact absurd (show Zk=Zi from hs) Zu
 | _=>cases y<;>exact absurd (show Zk=Zi from hs) Zu
theorem J3r:OpR X (Zav .NotEq) rNe:=by
 intro pj s σ H x y v u Q I rx ry h
 obtain⟨hs,q⟩:=h
 cases x with
 | non =>
  cases rx
  cases y with
  | non=>cases ry;exact PySem.EqNone.ne_none_none (J9 I q 03)
  | bl j=>cases ry;exact PySem.EqNone.ne_none_bool (J9 I q 03)
  | int j=>obtain⟨t',rfl⟩:=ry;exact PySem.EqNone.ne_none_int (J9 I q 03)
  | str j=>obtain⟨t',rfl⟩:=ry;exact PySem.EqNone.ne_none_str (J9 I q 03)
  | _=>exact absurd (show Zk=Zi from hs) Zu
 | bl i =>
  cases rx
  cases y with
  | non=>cases ry;exact PySem.EqNone.ne_bool_none (J9 I q 03)
  | bl j=>cases ry;exact ne_bool (J9 I q (congrArg not Jvw))
  | str j=>obtain⟨t',rfl⟩:=ry;exact PySem.EqMixed.ne_bool_str (J9 I q 03)
  | _=>exact absurd (show Zk=Zi from hs) Zu
 | int i =>
  obtain⟨t,rfl⟩:=rx
  cases y with
  | non=>cases ry;exact PySem.EqNone.ne_int_none (J9 I q 03)
  | int j=>obtain⟨t',rfl⟩:=ry;exact ne_int (J9 I q (congrArg not Jqt))
  | str j=>obtain⟨t',rfl⟩:=ry;exact PySem.EqMixed.ne_int_str (J9 I q 03)
  | _=>exact absurd (show Zk=Zi from hs) Zu
 | str i =>
  obtain⟨t,rfl⟩:=rx
  cases y with
  | non=>cases ry;exact PySem.EqNone.ne_str_none (J9 I q 03)
  | bl j=>cases ry;exact PySem.EqMixed.ne_str_bool (J9 I q 03)
  | int j=>obtain⟨t',rfl⟩:=ry;exact PySem.EqMixed.ne_str_int (J9 I q 03)
  | str j=>obtain⟨t',rfl⟩:=ry;exact ne_str (J9 I q (congrArg not Jqu))
  | _=>exact absurd (show Zk=Zi from hs) Zu
 | byt i =>
  obtain⟨t,rfl⟩:=rx
  cases y with
  | byt j=>obtain⟨t',rfl⟩:=ry;exact W.ne_bytes (J9 I q (congrArg not Jqs))
  | _=>exact absurd (show Zk=Zi from hs) Zu
 | _=>cases y<;>exact absurd (show Zk=Zi from hs) Zu
theorem J3q:OpR X (Zav .Lt) (rI0 λ i j=>.bl (decide (i<j))):=opB0 λ _ _ _ _ _ _ _ q=>lt_int q
theorem J3p:OpR X (Zav .LtE) (rI0 λ i j=>.bl (decide (i<=j))):=opB0 λ _ _ _ _ _ _ _ q=>le_int q
theorem J3o:OpR X (Zav .Gt) (rI0 λ i j=>.bl (decide (j<i))):=opB0 λ _ _ _ _ _ _ _ q=>gt_int q
theorem J3n:OpR X (Zav .GtE) (rI0 λ i j=>.bl (decide (j<=i))):=opB0 λ _ _ _ _ _ _ _ q=>ge_int q
theorem Jr3:OpR X (Zav .Lt) (λ x y H Q=>∃i j,x=.str i/\y=.str j/\Q (.bl (decide (i.cps.toList<j.cps.toList))) H):=by
 intro pj s σ H x y v u Q I rx ry h
 obtain⟨i,j,rfl,rfl,q⟩:=h
 obtain⟨t,rfl⟩:=rx
 obtain⟨t',rfl⟩:=ry
 exact lt_str (J9 I q rfl)
def TruV (K:W.Frag)(x:V)(H:Hp)(k:Bool):Prop :=
 match x with
 | .non=>k=Zk
 | .bl b=>k=b
 | .int i=>k=(i != 0)
 | .str y=>y.length<=sizeLine/\k=((y.length:Int) != 0)
 | .byt y=>y.size<=sizeLine/\k=((y.size:Int) != 0)
 | .ref p=>(∃xs,SqL K H p xs/\k=!xs.isEmpty)∨(∃xs,SqT K H p xs/\k=!xs.isEmpty)∨∃kvs,H p=Za (.dK kvs)/\k=!kvs.isEmpty
 | _=>False
theorem Jo9 {κ:Type}{kvs:List (κ×V)}{vs:List (κ×Zg)}(r:KV kvs vs):(!vs.isEmpty)=!kvs.isEmpty:=by
 cases r<;>rfl
theorem Jiq {xs:List V}{its:List Zg}(r:Vals xs its):(!its.toArray.isEmpty)=!xs.isEmpty:=by
 cases r<;>simp
theorem Xb:(sizeLine:Nat)<2^63:=by rw[Zbn];decide
theorem VM:TruR X (λ x H Q=>∃k,TruV X.K x H k/\Q k H):=by
 intro pj s σ H x v Q I rx h
 obtain⟨k,e,q⟩:=h
 have hl:=Xb
 have hs:sizeLine=16777216:=Zbn
 cases x with
 | non =>
  cases rx
  have e':k=Zk:=e
  subst e'
  exact truthy_none ⟨H,I,q⟩
 | bl b =>
  cases rx
  have e':k=b:=e
  subst e'
  exact ZaK ⟨H,I,q⟩
 | int i =>
  obtain⟨t,rfl⟩:=rx
  have e':k=(i != 0):=e
  subst e'
  exact PySem.P.truthy_int ⟨H,I,q⟩
 | str y =>
  obtain⟨t,rfl⟩:=rx
  obtain⟨hy,e'⟩:y.length<=sizeLine/\k=((y.length:Int) != 0):=e
  subst e'
  exact PySem.P.truthy_str 00 ⟨H,I.tok _,q⟩
 | byt y =>
  obtain⟨t,rfl⟩:=rx
  obtain⟨hy,e'⟩:y.size<=sizeLine/\k=((y.size:Int) != 0):=e
  subst e'
  exact W.truthy_bytes 00 ⟨H,I.tok _,q⟩
 | ref p =>
  cases rx
  have e':(∃xs,SqL X.K H p xs/\k=!xs.isEmpty)∨(∃xs,SqT X.K H p xs/\k=!xs.isEmpty)∨∃kvs,H p=Za (.dK kvs)/\k=!kvs.isEmpty:=e
  rcases e' with⟨xs,hx,e'⟩|⟨xs,hx,e'⟩|⟨kvs,hx,e'⟩
  ·subst e'
   obtain⟨its,r,pl,hz⟩:=I.list hx
   have hlen:=r.length
   exact wpAny_truthy_list pl.isList (by simp only[Zs];omega) ⟨H,I.tok _,by rw[Jiq r];exact q⟩
  ·subst e'
   obtain⟨its,r,pl,hz⟩:=I.tuple hx
   have hlen:=r.length
   exact truthy_tuple pl (by simp only[Zs];omega) ⟨H,I.tok _,by rw[Jiq r];exact q⟩
  ·subst e'
   obtain⟨hz,hS,vs,r,m⟩:kvs.length<=sizeLine/\(p==Zcs)=Zk/\∃vs,KV kvs vs/\s.heap.DictOf (Vo X.prog X.w) p vs:=I.hok p _ hx
   have hlen:kvs.length=vs.length:=ZdZ r
   exact wpAny_truthy_dict hS m 00 ⟨H,I.tok _,by rw[Jo9 r];exact q⟩
 | _=>exact Zf e
theorem Jpj:OpR X (ZaV .Add) (λ x y H Q=>∃i j,x=.str i/\y=.str j/\i.length+j.length<=sizeLine/\Q (.str (i++j)) H):=by
 intro pj s σ H x y v u Q I rx ry h
 obtain⟨i,j,rfl,rfl,hz,q⟩:=h
 obtain⟨t,rfl⟩:=rx
 obtain⟨t',rfl⟩:=ry
 exact add_str (λ t' tk=>⟨.str (i++j),H,I.tok _,⟨_,rfl⟩,q⟩) hz
theorem Vf {x:V}{us:List Zg}(r:Vals [x] us):∃u,us=[u]/\RelV x u:=by
 cases r with
 | cons r1 r2=>cases r2;exact⟨_,rfl,r1⟩
theorem J2b {x y:V}{us:List Zg}(r:Vals [x,y] us):∃u w',us=[u,w']/\RelV x u/\RelV y w':=by
 cases r with
 | cons r1 r2 =>
  cases r2 with
  | cons r3 r4=>cases r4;exact⟨_,_,rfl,r1,r3⟩
theorem Jqn (hc:X.calm=Zi):Xl X (.builtin "max") (λ xs H Q=>∃i j,xs=[.int i,.int j]/\Q (.int (if j>i then j else i)) H):=by
 intro pj s σ H xs us Q I r h
 obtain⟨i,j,rfl,q⟩:=h
 obtain⟨u,w',rfl,⟨t,rfl⟩,⟨t',rfl⟩⟩:=J2b r
 refine max_two_ints (I.ok.hd hc) λ h' tk k=>⟨_,H,I.kept k,?_,q⟩
 by_cases hj:j>i
 ·rw[if_pos hj,if_pos hj];exact⟨_,rfl⟩
 ·rw[if_neg hj,if_neg hj];exact⟨_,rfl⟩
theorem Jqo (hc:X.calm=Zi):Xl X (.builtin "min") (λ xs H Q=>∃i j,xs=[.int i,.int j]/\Q (.int (if j<i then j else i)) H):=by
 intro pj s σ H xs us Q I r h
 obtain⟨i,j,rfl,q⟩:=h
 obtain⟨u,w',rfl,⟨t,rfl⟩,⟨t',rfl⟩⟩:=J2b r
 refine min_two_ints (I.ok.hd hc) λ h' tk k=>⟨_,H,I.kept k,?_,q⟩
 by_cases hj:j<i
 ·rw[if_pos hj,if_pos hj];exact⟨_,rfl⟩
 ·rw[if_neg hj,if_neg hj];exact⟨_,rfl⟩
def LenV (K:W.Frag)(x:V)(H:Hp)(n:Nat):Prop :=
 match x with
 | .str y=>y.length<=sizeLine/\n=y.length
 | .byt y=>y.size<=sizeLine/\n=y.size
 | .ref p=>(∃xs,SqL K H p xs/\n=xs.length)∨∃xs,SqT K H p xs/\n=xs.length
 | _=>False
theorem Jf2:Xl X (.builtin "len") (λ xs H Q=>∃x n,xs=[x]/\LenV X.K x H n/\Q (.int n) H):=by
 intro pj s σ H xs us Q I r h
 obtain⟨x,n,rfl,e,q⟩:=h
 obtain⟨u,rfl,rx⟩:=Vf r
 have hl:=Xb
 have hs:sizeLine=16777216:=Zbn
 cases x with
 | str y =>
  obtain⟨t,rfl⟩:=rx
  obtain⟨hy,e'⟩:y.length<=sizeLine/\n=y.length:=e
  subst e'
  exact len_str 00 ⟨.int _,H,I.tok _,⟨_,rfl⟩,q⟩
 | byt y =>
  obtain⟨t,rfl⟩:=rx
  obtain⟨hy,e'⟩:y.size<=sizeLine/\n=y.size:=e
  subst e'
  exact W.len_bytes 00 ⟨.int _,H,I.tok _,⟨_,rfl⟩,q⟩
 | ref p =>
  cases rx
  have e':(∃xs,SqL X.K H p xs/\n=xs.length)∨∃xs,SqT X.K H p xs/\n=xs.length:=e
  rcases e' with⟨xs,hx,e'⟩|⟨xs,hx,e'⟩
  ·subst e'
   obtain⟨its,r',pl,hz⟩:=I.list hx
   have hlen:=r'.length
   exact Calls.call_len_list pl.isList (by simp only[Zs];omega) ⟨.int xs.length,H,I.tok _,⟨_,by simp only[Zs];rw[hlen]⟩,q⟩
  ·subst e'
   obtain⟨its,r',pl,hz⟩:=I.tuple hx
   have hlen:=r'.length
   exact len_tuple pl (by simp only[Zs];omega) ⟨.int xs.length,H,I.tok _,⟨_,by simp only[Zs];rw[hlen]⟩,q⟩
 | _=>exact Zf e
end
structure ObjM (h:Zau)(x dx C:Zo)(mA:Str->Option Zg):Prop where
 obj:h.get? x=Za (W.instObj C dx)
 ns:h.Ns1 dx mA
 ne:dx≠x
theorem Jrt {h:Zau}{dx:Zo}{mA:Str->Option Zg}(n:h.Ns1 dx mA):∃od,h.get? dx=Za od/\∀name,W.lookIn name od=Za (mA name):=by
 obtain⟨o,es,ep,ho,hd,hk,_,hm⟩:=n
 refine⟨o,ho,λ name=>?_⟩
 have e:=hm name
 unfold nsFind findBy at e
 rw[<- Array.find?_toList] at e
 unfold W.lookIn
 rw[hd]
 dsimp only
 split
 ·rename_i y q
  rw[q] at e
  exact congrArg Za e
 ·rename_i q
  rw[q] at e
  have a:es.toList.any (·.refKey)=Zk:=by
   rw[List.any_eq_false]
   intro y hy
   obtain⟨z,t,hkey⟩:=hk y (Array.mem_toList_iff.mp hy)
   simp[DictEntry.refKey,hkey]
  have a':¬es.toList.any (·.refKey)=Zi:=by rw[a];exact Zu
  rw[if_neg a']
  exact congrArg Za e
theorem ObjM.look {h:Zau}{x dx C:Zo}{mA:Str->Option Zg}(I:ObjM h x dx C mA):∃od,W.InstAt h x (W.instObj C dx) C (Za od)/\∀name,W.lookIn name od=Za (mA name) :=
 let ⟨od,ho,hl⟩:=Jrt I.ns
 ⟨od,⟨I.obj,rfl,rfl,ho⟩,hl⟩
section
variable {prog:ZB}{w:Zab}{A:ZK}{E:QvT}{s:Zn}{K:W.Frag}{x dx C f:Zo}{mA:Str->Option Zg}{name:Str}{v:Zg}
theorem Jxi {expr:Bool}{Q:QvT}(X:K.In s.heap)(I:ObjM s.heap x dx C mA)(hg:W.plainGet K C name=Zi)(hh:W.hasDictIn K C=Zi)
  (ha:W.findIn K (.ref C) name=Za Zc)(hv:mA name=Za v)(hv':W.handedIn v=Zi)(h:Q v { s with toks:=s.toks+1 }) :
  Zy (Z8 prog w) A (getAttr (.ref x) name expr) Q E s:=by
 obtain⟨od,J,hl⟩:=I.look
 exact W.get_value X J (W.plainGet_of hg).1 (W.findObj_own hh ha rfl (by rw[hl,hv])) hv' h
theorem Jtn {pl:Sem Bool}{Q:Zg×List Zg->Zn->Prop}(X:K.In s.heap)(I:ObjM s.heap x dx C mA)(hg:W.plainGet K C name=Zi)
  (hf:W.findIn K (.ref C) name=Za (Za (.ref f)))(ht:W.isFn K (.ref f)=Zi)(hv:mA name=Zc)(h:Q (.ref f,[.ref x]) s) :
  Zy (Z8 prog w) A (Zdo (.ref x) name pl) Q E s:=by
 obtain⟨od,J,hl⟩:=I.look
 exact W.method_fn X J (W.plainGet_of hg).1 (W.plainGet_of hg).2 hf (beq_iff_eq.mp ht) (by show(W.lookIn name od).map (·.isSome)=Za Zk;rw[hl,hv];rfl) h
theorem Jyv {ns:List Str}{Q:Unit->Zn->Prop}(X:K.In s.heap)(I:ObjM s.heap x dx C mA)
  (hs:W.findIn K (.ref C) "__setattr__"=Za (Za (.builtin "object.__setattr__")))(hp:W.plainOver K C=Zi)(ht:W.takerIn K C name=Za Zc)(hh:W.hasDictIn K C=Zi)
  (hw:Zek mA ns)(hsz:ns.length<=sizeLine)
  (h:∀h',ObjM h' x dx C (λ y=>if y=name then Za v else mA y)->Zc0 dx s.heap h'->Q () { s with heap:=h',toks:=s.toks+2 }) :
  Zy (Z8 prog w) A (setAttr (.ref x) name v) Q E s:=by
 obtain⟨od,J,hl⟩:=I.look
 refine W.set_plain X J hs (W.osa_open (s:={ s with toks:=s.toks+1 }) (r:=Zc) X J hp ht λ b=>?_)
 obtain⟨cd,hc,hd'⟩:=W.any_some hh
 have hx:s.heap.get? x=Za ⟨.ref C,Za dx,.plain,#[]⟩:=I.obj
 refine Zd (Zw (Zd (Zd (wpAny_loadPart hx (Zd (W.Looks.here (s:={ s with toks:=s.toks+1 }) (W.looks_clsIn X hc) ?_))))))
 rw[hd']
 refine Zw (a:=Za dx) (Zd (Zw (Zd ?_)))
 refine wpAny_nsSet1 (s:={ s with toks:=s.toks+1 }) I.ns λ h' hn2 hs2=>?_
 obtain⟨oD,esD,epD,hoD,hdD,hcD⟩:=hn2.count (PySem.Within.cons name v hw)
 refine Zd (wpAny_lookBehind hoD (by rw[hdD];exact pastItsLine_dict (Zak hcD (by rw[ZD];omega))) ?_)
 exact Zw (h _ ⟨(hs2.2 _ (ZR I.ne)).trans I.obj,hn2,I.ne⟩ hs2)
theorem Jue {R:Zd2->Zn->Prop}{vs:List Zg}{kw:List (Str×Zg)}(X:K.In s.heap)(hm:W.makesIn K C=Zi)
  (hi:W.findIn K (.ref C) "__init__"=Za (Za (.ref f)))(hf:W.typeIn K (.ref f)=Za (.type "function"))
  (h:Zcp (Z8 prog w) (A.under (.builtin "type.__call__" ⟨.ref C::vs,kw⟩)) (.call (.ref f) ⟨.ref (s.heap.objs.size+1)::vs,kw⟩) (W.InitBack (s.heap.objs.size+1) R)
   { s with heap:=(s.heap.push W.emptyDict).push (W.instObj C s.heap.objs.size) }) :
  Zcp (Z8 prog w) A (.call (.ref C) ⟨vs,kw⟩) R s:=by
 obtain⟨hh,g,d,t,os⟩:=s
 exact W.make_core (W.makes_of X hm) (W.looks_findIn X hi) (λ self=>W.bind_fn X self hf) (.inl rfl) h
end
def putF (f:Str)(v:V):List (Str×V)->List (Str×V)
 | []=>[(f,v)]
 | (g,x)::r=>if g=f then(g,v)::r else(g,x)::putF f v r
theorem Jhf (f g:Str)(v:V):∀fs:List (Str×V),(putF f v fs).lookup g=if g=f then Za v else fs.lookup g
 | []=>by
  show Zb3 g [(f,v)]=_
  by_cases h:g=f
  ·have hb:(g==f)=Zi:=beq_iff_eq.mpr h
   simp only[Zb3,hb,if_pos h]
  ·have hb:(g==f)=Zk:=beq_eq_false_iff_ne.mpr h
   simp only[Zb3,hb,if_neg h]
 | (k,x)::r=>by
  have ih:=Jhf f g v r
  rw[show putF f v ((k,x)::r)=(if k=f then(k,v)::r else(k,x)::putF f v r) from rfl]
  by_cases hk:k=f
  ·rw[if_pos hk]
   by_cases h:g=k
   ·have hb:(g==k)=Zi:=beq_iff_eq.mpr h
    simp only[Zb3,hb,if_pos (h.trans hk)]
   ·have hb:(g==k)=Zk:=beq_eq_false_iff_ne.mpr h
    simp only[Zb3,hb,if_neg (λ e:g=f=>h (e.trans hk.symm))]
  ·rw[if_neg hk]
   by_cases h:g=k
   ·have hb:(g==k)=Zi:=beq_iff_eq.mpr h
    simp only[Zb3,hb,if_neg (λ e:g=f=>hk (h.symm.trans e))]
   ·have hb:(g==k)=Zk:=beq_eq_false_iff_ne.mpr h
    simp only[Zb3,hb]
    exact ih
theorem Jhd (f:Str)(v:V):∀fs:List (Str×V),f∈(putF f v fs).map (·.1)/\∀g,g∈fs.map (·.1)->g∈(putF f v fs).map (·.1)
 | []=>⟨by simp[putF],λ g h=>by simp at h⟩
 | (k,x)::r=>by
  obtain⟨i1,i2⟩:=Jhd f v r
  rw[show putF f v ((k,x)::r)=(if k=f then(k,v)::r else(k,x)::putF f v r) from rfl]
  by_cases hk:k=f
  ·rw[if_pos hk]
   subst hk
   exact⟨03,λ g h=>by simpa using h⟩
  ·rw[if_neg hk]
   refine⟨?_,λ g h=>?_⟩
   ·rw[Z5]
    exact Zl _ i1
   ·rw[Z5] at h ⊢
    rcases Z6.mp h with e|e
    ·exact Z6.mpr (.inl e)
    ·exact Zl _ (i2 g e)
theorem Jhe (f:Str)(v:V):∀fs:List (Str×V),(putF f v fs).length<=fs.length+1
 | []=>by simp[putF]
 | (k,x)::r=>by
  have ih:=Jhe f v r
  rw[show putF f v ((k,x)::r)=(if k=f then(k,v)::r else(k,x)::putF f v r) from rfl]
  by_cases hk:k=f
  ·rw[if_pos hk,ZD,ZD];omega
  ·rw[if_neg hk,ZD,ZD];omega
theorem RelO.some_of {v:V}{o:Option Zg}(r:RelO (Za v) o):∃u,o=Za u/\RelV v u:=by
 cases o with
 | none=>exact Zf r
 | some u=>exact⟨u,rfl,r⟩
theorem RelO.none_of {o:Option Zg}(r:RelO Zc o):o=Zc:=by
 cases o with
 | none=>rfl
 | some u=>exact Zf r
theorem Jq8 {v:V}{u:Zg}(r:RelV v u):W.handedIn u=Zi:=by
 cases v with
 | non=>cases (show u=ZaD from r);rfl
 | bl b=>cases (show u=ZcB b from r);rfl
 | int i=>obtain⟨t,e⟩:=(show ∃t,u=ZbO i t from r);cases e;rfl
 | str x=>obtain⟨t,e⟩:=(show ∃t,u=ZdT x t from r);cases e;rfl
 | byt b=>obtain⟨t,e⟩:=(show ∃t,u=Value.bytes b t from r);cases e;rfl
 | flt b=>obtain⟨t,e⟩:=(show ∃t,u=Value.float b t from r);cases e;rfl
 | ref a=>cases (show u=ZdU a from r);rfl
 | ty n=>cases (show u=Zee n from r);rfl
section
variable {P:ZB}{w:Zab}{H H':Hp}{h h':Zau}{a C dx:Zo}{fs fs':List (Str×V)}
theorem Jjl (hok:HOk P w H h)(e:H a=Za (.ins C dx fs)):∃mA,ObjM h a dx C mA/\(∀f,RelO (fs.lookup f) (mA f))/\Zek mA (fs.map (·.1))/\fs.length<=1000/\H dx=Za (.own a):=by
 obtain⟨d,z,ne,ob,mA,n,r,q⟩:=(show JM P w H h a (.ins C dx fs) from hok a _ e)
 exact⟨mA,⟨ob,n,ne⟩,r,q,z,d⟩
end
structure Cls (K:W.Frag)(C:Zo):Prop where
 pg:W.plainGet K C Str.empty=Zi
 hd:W.hasDictIn K C=Zi
 po:W.plainOver K C=Zi
 sa:W.findIn K (.ref C) "__setattr__"=Za (Za (.builtin "object.__setattr__"))
theorem Cls.get {K:W.Frag}{C:Zo}(c:Cls K C)(f:Str):W.plainGet K C f=Zi:=c.pg
def QJ (K:W.Frag)(C:Zo)(f:Str):Prop:=W.findIn K (.ref C) f=Za Zc
theorem QJ.taker {K:W.Frag}{C:Zo}{f:Str}(n:QJ K C f):W.takerIn K C f=Za Zc:=by
 unfold W.takerIn
 rw[show W.findIn K (.ref C) f=Za Zc from n]
 rfl
structure Meth (K:W.Frag)(C:Zo)(m:Str)(f:Zo):Prop where
 at_:W.findIn K (.ref C) m=Za (Za (.ref f))
 fn:W.isFn K (.ref f)=Zi
 kp:W.keepIn K (.ref f)=Zi
section
variable {X:Cx}{pj:PnT}{σ:St}{H:Hp}{s:Zn}{a C dx:Zo}{fs:List (Str×V)}{f:Str}{v:V}{A:ZK}{E:QvT}
theorem Jin {b:Bool}{Q:QvT}(I:Inv X pj σ H s)(e:H a=Za (.ins C dx fs))(c:Cls X.K C)(n:QJ X.K C f)(l:fs.lookup f=Za v)
  (h:∀u s',Inv X pj σ H s'->RelV v u->Q u s'):Zy (Z8 X.prog X.w) A (getAttr (.ref a) f b) Q E s:=by
 obtain⟨mA,O,r,_,_,_⟩:=Jjl I.hok e
 obtain⟨u,hu,ru⟩:=RelO.some_of (v:=v) (o:=mA f) (by rw[<- l];exact r f)
 exact Jxi I.kIn O (c.get f) c.hd n hu (Jq8 ru) (h u _ (I.tok _) ru)
theorem Jio {m:Str}{g:Zo}{pl:Sem Bool}{Q:Zg×List Zg->Zn->Prop}(I:Inv X pj σ H s)(e:H a=Za (.ins C dx fs))(c:Cls X.K C)(k:Meth X.K C m g)(l:fs.lookup m=Zc)
  (h:Q (.ref g,[.ref a]) s):Zy (Z8 X.prog X.w) A (Zdo (.ref a) m pl) Q E s:=by
 obtain⟨mA,O,r,_,_,_⟩:=Jjl I.hok e
 have hn:mA m=Zc:=RelO.none_of (by rw[<- l];exact r m)
 exact Jtn I.kIn O (c.get m) k.at_ k.fn hn h
theorem Jit {y:V}{u:Zg}{Q:Unit->Zn->Prop}(I:Inv X pj σ H s)(e:H a=Za (.ins C dx fs))(c:Cls X.K C)(n:QJ X.K C f)(hl:fs.length<1000)(ry:RelV y u)
  (h:∀s',Inv X pj σ (upd H a (.ins C dx (putF f y fs))) s'->Q () s'):Zy (Z8 X.prog X.w) A (setAttr (.ref a) f u) Q E s:=by
 obtain⟨mA,O,r,wi,_,ho⟩:=Jjl I.hok e
 have hz:(fs.map (·.1)).length<=sizeLine:=by rw[Zm,Zbn];omega
 refine Jyv I.kIn O c.sa c.po n.taker c.hd wi hz λ h' O' sb=>h _ ?_
 have hd:∃o,h'.get? dx=Za o:=let ⟨o,_,_,e',_⟩:=O'.ns;⟨o,e'⟩
 refine I.write (x:=a) (e:=dx) (by rw[e];exact Zam) (.inr ho) (λ b q hb z=>(sb.2 b hb).trans z) hd ?_
 refine⟨by rw[Jx O.ne];exact ho,?_,O.ne,O'.obj,_,O'.ns,λ g=>?_,λ g hg=>?_⟩
 ·have:=Jhe f y fs;omega
 ·show RelO ((putF f y fs).lookup g) (if g=f then Za u else mA g)
  rw[Jhf]
  by_cases q:g=f
  ·rw[if_pos q,if_pos q];exact ry
  ·rw[if_neg q,if_neg q];exact r g
 ·by_cases q:g=f
  ·rw[q];exact(Jhd f y fs).1
  ·refine(Jhd f y fs).2 g (wi g λ z=>hg ?_)
   show(if g=f then Za u else mA g)=Zc
   rw[if_neg q];exact z
theorem Inv.made (I:Inv X pj σ H s):Inv X pj σ (upd (upd H s.heap.objs.size (.own (s.heap.objs.size+1))) (s.heap.objs.size+1) (.ins C s.heap.objs.size []))
  { s with heap:=(s.heap.push W.emptyDict).push (W.instObj C s.heap.objs.size) }:=by
 have e1:(s.heap.push W.emptyDict).get? s.heap.objs.size=Za W.emptyDict:=Z1 s.heap rfl
 have e2:((s.heap.push W.emptyDict).push (W.instObj C s.heap.objs.size)).get? (s.heap.objs.size+1)=Za (W.instObj C s.heap.objs.size):=by
  have:=Z1 (s.heap.push W.emptyDict) (o:=W.instObj C s.heap.objs.size) rfl
  rwa [Zc1] at this
 have e3:(s.heap.push W.emptyDict).Ns s.heap.objs.size (λ _=>Zc):=⟨W.emptyDict,#[],_,e1,rfl,(λ e he=>absurd he 03),λ _=>rfl⟩
 have I1:=I.laid (a:=s.heap.objs.size) (o:=.own (s.heap.objs.size+1)) (h':=s.heap.push W.emptyDict) (t':=s.toks) (λ b u q=>Zh _ q) (Zp _) ⟨_,e1⟩
 refine I1.laid (a:=s.heap.objs.size+1) (o:=.ins C s.heap.objs.size []) (t':=s.toks) (λ b u q=>Zh _ q) (Zc2 (Zc1 _ _)) ?_
 have ne:s.heap.objs.size≠s.heap.objs.size+1:=Z7 (Za0 _)
 refine⟨by rw[Jx ne,JE],Zac _,ne,e2,λ _=>Zc,(Heap.Ns1.of_empty e3).at λ o q=>Zh _ q,λ _=>Zam,λ y hy=>absurd rfl hy⟩
theorem Jw2 {prog:ZB}{w:Zab}{env:Env}{e:Expr}{f:Str}{pos:Pos}{s:Zn}{Q:QvT}(hb:ZcH e f env (ZaU e env)=ZaU e env)
  (h:Zy (Z8 prog w) A (ZaU e env) (λ o s₁=>Zy (Z8 prog w) A (getAttr o f Zi) Q E s₁) E s):Zy (Z8 prog w) A (ZaU (.Attribute e f pos) env) Q E s :=
 Attribute_any_ h (by rw[arm_eval_Attribute,hb])
end
section
variable {X:Cx}{o e value:Expr}{f:Str}{pos pos' tpos:Pos}{ta tv:TE}
end
section
variable {X:Cx}{pj:PnT}{σ:St}{H:Hp}{s:Zn}{A:ZK}{E:QvT}{Q:QvT}{c:Zg}{b:Bool}
end
structure Room (k:Nat)(A:ZK):Prop where
 hd:A.handled=Zc
 dp:A.depth+3*k+5<recursionLimit
 un:A.units+16*k+200<cLine
theorem Room.mono {j k:Nat}{A:ZK}(r:Room k A)(h:j<=k):Room j A:=⟨r.hd,by have:=r.dp;omega,by have:=r.un;omega⟩
theorem Room.deeper {k:Nat}{A:ZK}(r:Room (k+1) A)(env:Env):Room k (A.deeper env) :=
 ⟨r.hd,by have:=r.dp;show A.depth+1+3*k+5<_;omega,by have:=r.un;show A.units+3+16*k+200<_;omega⟩
theorem Room.in1 {k:Nat}{A:ZK}(r:Room (k+1) A):Room k A.in1 :=
 ⟨r.hd,by have:=r.dp;show A.depth+3*k+5<_;omega,by have:=r.un;show A.units+1+16*k+200<_;omega⟩
theorem Jpg {A:ZK}{C:Zo}{us:List Zg}{kw:List (Str×Zg)}:(A.under (.builtin "type.__call__" ⟨.ref C::us,kw⟩)).depth=A.depth+1:=by
 first|rfl|simp[Zem,Code.weight,Code.isCreation,Code.isGuard,Code.isCaller,Code.frames,Zen,guardIds]
theorem Jph {A:ZK}{C:Zo}{us:List Zg}{kw:List (Str×Zg)}:(A.under (.builtin "type.__call__" ⟨.ref C::us,kw⟩)).units=A.units+1:=by
 first|rfl|simp[Zem,Code.cUnits,Code.frames,Zen]
theorem Room.make {k:Nat}{A:ZK}(r:Room (k+1) A)(C:Zo)(us:List Zg)(kw:List (Str×Zg)):Room k (A.under (.builtin "type.__call__" ⟨.ref C::us,kw⟩)) :=
 ⟨r.hd,by have:=r.dp;rw[Jpg];omega,by have:=r.un;rw[Jph];omega⟩
theorem Room.depth {k:Nat}{A:ZK}(r:Room k A):A.depth<recursionLimit:=by have:=r.dp;omega
theorem Room.units {k:Nat}{A:ZK}(r:Room k A):A.units+64<cLine:=by have:=r.un;omega
section
variable {X:Cx}{e:Expr}{es:List Expr}{te:TE}{t:TA}{pos:Pos}
end
abbrev Sp:=List V->Hp->VK->XK->Prop
abbrev CXT:=List Env->Hp->Zn->XK->QvT
structure Env0 (P:ZB)(w:Zab)(K:W.Frag)(mg:Str->Option Zg)(base:Zau)(A:ZK)(outer:List Env)(s:Zn)(H:Hp):Prop where
 frames:A.frames=Za outer
 mod:Mod K mg base
 bs:∀b o,base.get? b=Za o->s.heap.get? b=Za o/\H b=Zc
 bsz:base.objs.size<=s.heap.objs.size
 funs:s.heap.FunFrames base outer
 frf:∀b∈frs outer,H b=Zc
 hok:HOk P w H s.heap
 bare:ZcT s.gens
def CE (outer:List Env)(P:ZB)(w:Zab)(H:Hp)(s:Zn)(Q:VK)(u:Zg)(s':Zn):Prop :=
 ∃v H',s'.os=s.os/\ZcT s'.gens/\Un (frs outer) [] H H' s.heap s'.heap/\HOk P w H' s'.heap/\RelV v u/\Q v H'
def CR (CX:CXT)(outer:List Env)(P:ZB)(w:Zab)(H:Hp)(s:Zn)(Q:VK)(E:XK)(r:Zd2)(s':Zn):Prop :=
 match r with
 | .ok (.ret u)=>CE outer P w H s Q u s'
 | .ok _=>False
 | .error e=>CX outer H s E e s'
structure FnOk (P:ZB)(w:Zab)(K:W.Frag)(mg:Str->Option Zg)(base:Zau)(CX:CXT)(k:Nat)(f:Zo)(fd:Za2)(ps:List Str)(sp:Sp):Prop where
 len:∀vs H Q E,sp vs H Q E->vs.length=ps.length
 run:∀(A:ZK)(outer:List Env)(s:Zn)(H:Hp)(args:Args)(us:List Zg)(vs:List V)(Q:VK)(E:XK),Room k A->Env0 P w K mg base A outer s H->Zc3 s fd args (ps.zip us)->Vals vs us->sp vs H Q E ->
  Zcp (Z8 P w) A (.call (.ref f) args) (CR CX outer P w H s Q E) s
theorem FnOk.mono {P:ZB}{w:Zab}{K:W.Frag}{mg:Str->Option Zg}{base:Zau}{CX:CXT}{j k:Nat}{f:Zo}{fd:Za2}{ps:List Str}{sp:Sp}(F:FnOk P w K mg base CX j f fd ps sp)(h:j<=k) :
  FnOk P w K mg base CX k f fd ps sp:=⟨F.len,λ A outer s H args us vs Q E hr=>F.run A outer s H args us vs Q E (hr.mono h)⟩
theorem FnOk.imp {P:ZB}{w:Zab}{K:W.Frag}{mg:Str->Option Zg}{base:Zau}{CX:CXT}{k:Nat}{f:Zo}{fd:Za2}{ps:List Str}{sp sp':Sp}(F:FnOk P w K mg base CX k f fd ps sp)
  (h:∀vs H Q E,sp' vs H Q E->sp vs H Q E):FnOk P w K mg base CX k f fd ps sp' :=
 ⟨λ vs H Q E q=>F.len vs H Q E (h _ _ _ _ q),λ A outer s H args us vs Q E hr he hb hv hs=>F.run A outer s H args us vs Q E hr he hb hv (h _ _ _ _ hs)⟩
theorem Env0.make {P:ZB}{w:Zab}{K:W.Frag}{mg:Str->Option Zg}{base:Zau}{A:ZK}{outer:List Env}{s:Zn}{H:Hp}(e:Env0 P w K mg base A outer s H)(C:Zo)(us:List Zg)(kw:List (Str×Zg)) :
  Env0 P w K mg base (A.under (.builtin "type.__call__" ⟨.ref C::us,kw⟩)) outer s H:=⟨by first|exact e.frames|(simpa [Zem,Code.envs,Zen,pushEnvs] using e.frames),e.mod,e.bs,e.bsz,e.funs,e.frf,e.hok,e.bare⟩
theorem Env0.in1 {P:ZB}{w:Zab}{K:W.Frag}{mg:Str->Option Zg}{base:Zau}{A:ZK}{outer:List Env}{s:Zn}{H:Hp}(e:Env0 P w K mg base A outer s H) :
  Env0 P w K mg base A.in1 outer s H:=⟨e.frames,e.mod,e.bs,e.bsz,e.funs,e.frf,e.hok,e.bare⟩
section
variable {X:Cx}{pj:PnT}{σ:St}{H:Hp}{s s':Zn}
theorem Inv.env0 (I:Inv X pj σ H s):Env0 X.prog X.w X.K X.mg X.base X.A X.stack s H :=
 ⟨I.ok.frames,I.ok.mod,I.bs,Zak I.ok.bsz I.sz,I.stack,I.stkFree,I.hok,I.bare⟩
theorem Inv.after {Q:VK}{u:Zg}(I:Inv X pj σ H s)(h:CE X.stack X.prog X.w H s Q u s'):EP X pj σ Q u s':=by
 obtain⟨v,H',os,bare,un,hok,r,q⟩:=h
 obtain⟨hh,g,d,t,os'⟩:=s'
 obtain rfl:os'=s.os:=os
 exact⟨v,H',I.call (h':=hh) (g':=g) (d':=d) (t':=t) (ch:=[]) un hok bare (λ b z=>absurd z 03),r,q⟩
end
def Qn (K:W.Frag)(fd:Za2)(ps:List Str)(ds:List Zg):Prop :=
 ∀(s:Zn)(us:List Zg),K.In s.heap->(us++ds).length=ps.length->Zc3 s fd ⟨us,[]⟩ (ps.zip (us++ds))
theorem Qn.all {K:W.Frag}{fd:Za2}{ps:List Str}(h:∀us:List Zg,us.length=ps.length->Zdp fd ⟨us,[]⟩=pure (ps.zip us)):Qn K fd ps []:=λ s us _ hl=>by
 rw[Zay] at hl ⊢
 exact .of_eq (h us hl)
section
variable {X:Cx}{CX:CXT}{k:Nat}{f C:Zo}{fd:Za2}{ps:List Str}{sp:Sp}{dvs:List V}{ds:List Zg}{E:XK}{x m:Str}{p pos apos:Pos}{e o:Expr}{es:List Expr}{ta:TE}{t:TA}
structure Mk (K:W.Frag)(C f:Zo):Prop where
 makes:W.makesIn K C=Zi
 init:W.findIn K (.ref C) "__init__"=Za (Za (.ref f))
 fn:W.isFn K (.ref f)=Zi
 kp:W.keepIn K (.ref C)=Zi
end
section
variable {X:Cx}{CX:CXT}{k:Nat}{f C:Zo}{fd:Za2}{ps ks:List Str}{sp:Sp}{E:XK}{x m:Str}{p pos apos kpos:Pos}{e o:Expr}{es:List Expr}{kws:List ZdV}{te ta:TE}{t tk:TA}{nm:Option Str}
variable {g:List Zg->List Zg->List Zg}{gV:List V->List V->List V}
end
structure FnScope (N P:List Str)(sc:Zbj):Prop where
 kind:sc.kind=.function
 co:sc.isCoroutine=Zk
 gen:sc.isGenerator=Zk
 nd:N.Nodup
 pre:N.take P.length=P
 par:∀x∈P,sc.names.lookup x=Za .local∨sc.names.lookup x=Za .cell
 nofree:∀y∈sc.names,y.2≠.free
theorem Jkf {kindOf:Str->Option Zbh}{x:Str}:∀{binds:List (Str×Zg)}{m:Str->Option Zg},(∀v,(x,v)∉binds)->bindL kindOf binds m x=m x
 | [],_,_=>rfl
 | (n,v)::r,m,h=>by
  unfold bindL
  rw[Jkf λ w hw=>h w (Zl _ hw)]
  split
  ·have:x≠n:=by rintro rfl;exact h v Zx
   simp[this]
  ·rfl
theorem Jkd {kindOf:Str->Option Zbh}{x:Str}:∀{binds:List (Str×Zg)}{m:Str->Option Zg},(∀v,(x,v)∉binds)->bindC kindOf binds m x=m x
 | [],_,_=>rfl
 | (n,v)::r,m,h=>by
  unfold bindC
  rw[Jkd λ w hw=>h w (Zl _ hw)]
  split
  ·rfl
  ·have:x≠n:=by rintro rfl;exact h v Zx
   simp[this]
theorem Jke {kindOf:Str->Option Zbh}{x:Str}{v:Zg}:∀{P:List Str}{vs:List Zg}{i:Nat}{m:Str->Option Zg},P.Nodup->P[i]?=Za x->vs[i]?=Za v->kindOf x=Za .local ->
  bindL kindOf (P.zip vs) m x=Za v
 | [],_,_,_,_,h,_,_=>by simp at h
 | _::_,[],_,_,_,_,h,_=>by simp at h
 | p::P,w::vs,0,m,nd,h1,h2,hk=>by
  simp at h1 h2;subst h1;subst h2
  show bindL kindOf ((p,w)::P.zip vs) m p=_
  unfold bindL
  rw[Jkf λ v hv=>(Zcq.mp nd).1 (ZdB hv).1,if_pos hk]
  simp
 | p::P,w::vs,i+1,m,nd,h1,h2,hk=>by
  show bindL kindOf ((p,w)::P.zip vs) m x=_
  unfold bindL
  exact Jke (i:=i) (Zcq.mp nd).2 (by simpa using h1) (by simpa using h2) hk
theorem Jkc {kindOf:Str->Option Zbh}{x:Str}{v:Zg}:∀{P:List Str}{vs:List Zg}{i:Nat}{m:Str->Option Zg},P.Nodup->P[i]?=Za x->vs[i]?=Za v->kindOf x≠Za .local ->
  bindC kindOf (P.zip vs) m x=Za v
 | [],_,_,_,_,h,_,_=>by simp at h
 | _::_,[],_,_,_,_,h,_=>by simp at h
 | p::P,w::vs,0,m,nd,h1,h2,hk=>by
  simp at h1 h2;subst h1;subst h2
  show bindC kindOf ((p,w)::P.zip vs) m p=_
  unfold bindC
  rw[Jkd λ v hv=>(Zcq.mp nd).1 (ZdB hv).1,if_neg hk]
  simp
 | p::P,w::vs,i+1,m,nd,h1,h2,hk=>by
  show bindC kindOf ((p,w)::P.zip vs) m x=_
  unfold bindC
  exact Jkc (i:=i) (Zcq.mp nd).2 (by simpa using h1) (by simpa using h2) hk
def start (N:List Str)(vs:List V):St:=vs.map Za++ZI (N.length-vs.length) Zc
def cxOf (CX:CXT)(P:ZB)(w:Zab)(K:W.Frag)(mg:Str->Option Zg)(base:Zau)(N:List Str)(qual:Str)(scope:Zbj)(f:Zo)(cd:Zg)(A:ZK)(outer:List Env)(s:Zn)(H:Hp)(E:XK):Cx where
 prog:=P
 w:=w
 K:=K
 mg:=mg
 base:=base
 A:=A.deeper (Zd3 qual scope s.heap.objs.size f cd)
 N:=N
 s₀:=s
 H₀:=H
 env:=Zd3 qual scope s.heap.objs.size f cd
 outer:=outer
 stack:=Zd3 qual scope s.heap.objs.size f cd::outer
 ex:=[]
 calm:=Zi
 fn:=λ _=>Zi
 pn:=[]
 xe:=λ e s'=>Zy (Z8 P w) (A.deeper (Zd3 qual scope s.heap.objs.size f cd)) (leaving (Zd3 qual scope s.heap.objs.size f cd) e) (λ _ s''=>CX outer H s E e s'') (λ e' s''=>CX outer H s E e' s'') s'
theorem Jnc {sc:Zbj}{n:Nat}{x:Str}(h:sc.names.lookup x=Za .cell):∃c,(cellsFrom n sc.names []).lookup x=Za c:=by
 have q:=W.cellsFrom_some sc.names n [] (.inl h)
 exact Zbk.mp q
theorem Jre {CX:CXT}{P:ZB}{w:Zab}{K:W.Frag}{mg:Str->Option Zg}{base:Zau}{N ps:List Str}{qual:Str}{scope:Zbj}{f:Zo}{cd:Zg}{A:ZK}{outer:List Env}{s s1:Zn}{H:Hp}{E:XK}{us:List Zg}{vs:List V}
  (S:FnScope N ps scope)(hd:A.handled=Zc)(e0:Env0 P w K mg base A outer s H)(hl:vs.length=ps.length)(r:Vals vs us)
  (x:InCallC s s.heap.objs.size (bindL (Zd3 qual scope s.heap.objs.size f cd).kindOf (ps.zip us) λ _=>Zc) (cellsFrom (s.heap.objs.size+1) scope.names []) (bindC (Zd3 qual scope s.heap.objs.size f cd).kindOf (ps.zip us) λ _=>Zc) s1) :
  Inv (cxOf CX P w K mg base N qual scope f cd A outer s H E) [] (start N vs) H s1:=by
 have hpl:ps.length<=N.length:=by have:=congrArg ZdK S.pre;rw[Za6] at this;omega
 obtain⟨h1,tk,rfl,hk⟩:=x.done
 have noA:∀b:Zo,b∉(cxOf CX P w K mg base N qual scope f cd A outer s H E).ex:=λ b z=>absurd (show b∈([]:List Zo) from z) 03
 refine⟨⟨e0.mod,S.kind,rfl,rfl,Zp _,λ y z c h1 h2=>?_,λ y hy=>?_,λ y c _ h=>?_,λ _=>hd,Around.frames_deeper e0.frames,.inr ⟨rfl,rfl⟩,λ b z=>absurd z (noA b),e0.bs,e0.bsz,λ b _ _=>noA b,λ b z=>absurd z (noA b),e0.funs,e0.frf⟩,
  rfl,e0.bare,Un.kept hk,⟨_,x.toInCall.ns,λ i y v h1 h2 h3=>?_⟩,λ y c h=>⟨_,x.cell y c h⟩,e0.hok.fresh (Zp _),λ y c h=>?_,λ p hp=>absurd (show p∈([]:PnT) from hp) 03,e0.hok.kept hk,?_⟩
 ·exact name_of_addr x.apart (Zai h1) (Zai h2)
 ·have hy:scope.names.lookup y=Za .cell∨scope.names.lookup y=Za .free:=hy
  rcases hy with hy|hy
  ·exact Jnc hy
  ·exact absurd rfl (S.nofree _ (Zai hy))
 ·exact Zcb (x.above y c (Zai h))
 ·have hi:i<vs.length:=by
   unfold start at h2
   by_cases hi:i<vs.length
   ·exact hi
   ·rw[Z9 (by simpa using hi)] at h2
    rw[ZbD] at h2
    split at h2<;>cases h2
  have ha:vs[i]?=Za v:=by
   unfold start at h2
   rw[ZC (by simpa using hi),Zt] at h2
   cases e:vs[i]? with
   | none=>rw[e] at h2;cases h2
   | some a=>rw[e] at h2;cases h2;rfl
  obtain⟨u,hu,rv⟩:=r.get ha
  have hp:ps[i]?=Za y:=by
   rw[<- S.pre,List.getElem?_take_of_lt 00];exact h1
  have ndP:ps.Nodup:=by rw[<- S.pre];exact S.nd.sublist (List.take_sublist _ _)
  refine⟨u,rv,?_⟩
  rcases S.par y (Zb4 hp) with k|k
  ·exact .inl ⟨k,Jke ndP hp hu k⟩
  ·obtain⟨c,e⟩:=Jnc (n:=s.heap.objs.size+1) k
   refine .inr ⟨.inl k,c,e,?_⟩
   have q:=x.cell y c e
   rw[Jkc ndP hp hu (by show scope.names.lookup y≠_;rw[k];decide)] at q
   exact q
 ·exact e0.hok.fresh (Zcb (x.above y c (Zai h)))
 ·unfold start
  show _=N.length
  rw[Z0,Zm,Zby]
  omega
theorem Jz2 {CX:CXT}{P:ZB}{w:Zab}{K:W.Frag}{mg:Str->Option Zg}{base:Zau}{k:Nat}{f:Zo}{name qual:Str}{params:ZbP}{body:List ZcC}{scope:Zbj}{dV kV doc pm cdv ct oc:Zg}{an od:Option Zo}
  {osl:Array (Option Zg)}{N ps:List Str}{sp:Sp}(lk:K.lookup f=Za ⟨oc,od,.func (W.fnOf name qual params body scope dV kV doc pm an cdv ct),osl⟩)(hcd:W.codeIn K cdv qual=Zi)(S:FnScope N ps scope)
  (len:∀vs H Q E,sp vs H Q E->vs.length=ps.length)
  (hbody:∀(A:ZK)(outer:List Env)(s:Zn)(H:Hp)(vs:List V)(Q:VK)(E:XK),Room k (A.deeper (Zd3 qual scope s.heap.objs.size f cdv))->sp vs H Q E ->
   ∃t,PSs (cxOf CX P w K mg base N qual scope f cdv A outer s H E) body t/\t { nx:=λ _ H'=>Q .non H',rt:=Q } (start N vs) H) :
  FnOk P w K mg base CX (k+1) f (W.fnOf name qual params body scope dV kV doc pm an cdv ct) ps sp:=by
 refine⟨len,λ A outer s H args us vs Q E hr e0 hb r hsp=>?_⟩
 have hl:=len _ _ _ _ hsp
 have KX:K.In s.heap:=e0.mod.kin.keeps λ b o e=>(e0.bs b o e).1
 have lim:s.heap.NoLimit:=e0.mod.nolimit.keeps λ b o e=>(e0.bs b o e).1
 have hkind:∀y∈ps.zip us,scope.names.lookup y.1=Za .local∨(scope.names.lookup y.1=Za .cell/\((cellsFrom (s.heap.objs.size+1) scope.names []).lookup y.1).isSome=Zi):=λ ⟨n,v⟩ hy=>by
  rcases S.par n (ZdB hy).1 with q|q
  ·exact .inl q
  ·exact .inr ⟨q,W.cellsFrom_some _ _ _ (.inl q)⟩
 refine codeAny_call_function hr.depth (KX _ _ lk) rfl S.co S.gen rfl (W.codeRec_of KX hcd) (hb _ _ _ _ ?_)
 refine wpAny_newFunctionEnv_cells S.kind hkind λ env he s1 x=>?_
 subst he
 refine⟨lim.keeps x.toInCall.keep,codeAny_func ?_⟩
 obtain⟨t,ht,hq⟩:=hbody A outer s H vs Q E (hr.deeper _) hsp
 have I:Inv (cxOf CX P w K mg base N qual scope f cdv A outer s H E) [] (start N vs) H s1:=Jre S hr.hd e0 hl r x
 refine Zaf (ht [] s1 (start N vs) H _ I hq) (λ fl s' hs=>?_) λ e s' hs=>hs
 have fin:∀{σ':St}{H':Hp}{v:V}{u:Zg},Inv (cxOf CX P w K mg base N qual scope f cdv A outer s H E) [] σ' H' s'->RelV v u->Q v H'->CE outer P w H s Q u s' :=
  λ {σ' H' v u} J rv q=>⟨v,H',J.os,J.bare,J.base,J.hok,rv,q⟩
 cases fl with
 | ret u =>
  obtain⟨v,σ',H',J,rv,q⟩:=hs
  exact fin J rv q
 | next =>
  obtain⟨σ',H',J,q⟩:=hs
  exact fin (v:=V.non) (u:=ZaD) J rfl q
 | brk =>
  obtain⟨_,_,_,q⟩:=hs
  exact ZaT q
 | cont =>
  obtain⟨_,_,_,q⟩:=hs
  exact ZaT q
section
variable {X:Cx}{x:Str}{p pos:Pos}{e:Expr}{es:List Expr}{t:TA}{id T:String}{r:List V->Hp->VK->Prop}
end
end L2
namespace HT
open PySem PyProof.Rows
section
open PySem.SeqAt
open PySem.AutoSeq1 (wpAny_loadPart')
open PySem.MeetsSeq PySem.MeetsSeq2 PySem.MeetsSeq3
end
section
variable {prog:ZB}{w:Zab}{A:ZK}{E:QvT}{s:Zn}
theorem cat_tup {t b:Zo}{vs ws:List Zg}{Q:QvT}(ht:IsTup s.heap t vs.toArray)(hb:IsTup s.heap b ws.toArray)(hv:vs≠[])
  (h1:ws=[]->Q (.ref t) s)(h2:ws≠[]->Q (.ref s.heap.objs.size) { s with heap:=s.heap.push { cls:=.type "tuple",data:=.seq (vs++ws).toArray } })
  (hsz:vs.length+ws.length<=sizeLine):Zy (Z8 prog w) A (ZaV .Add (.ref t) (.ref b)) Q E s:=by
 obtain⟨⟨cls,dd,data,sl⟩,ho,hc,n,hd⟩:=id ht
 obtain⟨⟨cls2,dd2,data2,sl2⟩,ho2,hc2,n2,hd2⟩:=id hb
 simp only at hc hd hc2 hd2
 subst hc hd hc2 hd2
 have e:vs.toArray++ws.toArray=(vs++ws).toArray:=03
 by_cases hw:ws=[]
 ·exact concat_meets ⟨_,ho,rfl⟩ ⟨_,ho2,rfl⟩ noFill_tuple_add seq_tuple_add Zd4 Zdq (Zdg _ _)
   (tuple_addW1 t b vs.toArray ws.toArray n n2 dd dd2 sl sl2 (by simpa using hv) (by simp[hw])) ⟨ho,ho2,h1 hw⟩
 ·refine concat_meets ⟨_,ho,rfl⟩ ⟨_,ho2,rfl⟩ noFill_tuple_add seq_tuple_add Zd4 Zdq (Zdg _ _)
   (tuple_addW2 t b vs.toArray ws.toArray n n2 dd dd2 sl sl2 (by simpa using hv) (by simpa using hw) (by rw[Zs,Zs];exact hsz)) ⟨ho,ho2,?_⟩
  rw[e]
  exact h2 hw
def sIx (n d:Nat):Option Int->Nat
 | none=>d
 | some v=>if v<0 then(v+(n:Int)).toNat else min v.toNat n
theorem sIx_none (n d:Nat):sIx n d Zc=d:=rfl
theorem sIx_nat (n d k:Nat):sIx n d (Za (k:Int))=min k n:=by
 show(if (k:Int)<0 then((k:Int)+(n:Int)).toNat else min (k:Int).toNat n)=min k n
 rw[if_neg 00,Za1]
end
end HT
namespace L2
open PySem PySem.Spec PyProof.Rows
abbrev TO:=St->Hp->(Option Int->Hp->Prop)->Prop
section
variable {X:Cx}{e:Expr}{te:TE}{lo hi:Option Expr}{tl th:TO}{pos p2:Pos}
def SlR (X:Cx)(r:V->Option Int->Option Int->Hp->VK->Prop):Prop :=
 ∀(pj:PnT)(s:Zn)(σ:St)(H:Hp)(x:V)(v vl vu:Zg)(lo hi:Option Int)(sl:Zo)(Q:VK),Inv X pj σ H s->RelV x v->s.heap.IsSliceOf sl vl vu .none->Zev vl lo->Zev vu hi->r x lo hi H Q ->
  ∃T id,typeLookup (.type T) "__getitem__"=pure (Za (.builtin id))/\s.TypeIs v T/\Zy (Z8 X.prog X.w) X.A (Zd5 v (.ref sl)) (EP X pj σ Q) X.xe s
def cutV (xs:List V)(lo hi:Option Int):List V:=(xs.drop (HT.sIx xs.length 0 lo)).take (HT.sIx xs.length xs.length hi-HT.sIx xs.length 0 lo)
theorem Jmd (xs:List V)(lo hi:Option Int):(cutV xs lo hi).length<=xs.length:=by
 unfold cutV
 rw[Za6,List.length_drop]
 omega
def J3v (K:W.Frag):R2:=λ x y H Q=>∃a b xs ys,x=.ref a/\y=.ref b/\SqT K H a xs/\SqT K H b ys/\xs≠[]/\xs.length+ys.length<=sizeLine /\
 (ys=[]->Q (.ref a) H)/\(ys≠[]->∀p,H p=Zc->Q (.ref p) (upd H p (.tup (xs++ys))))
theorem Vals.nil_iff {xs:List V}{us:List Zg}(r:Vals xs us):us=[]↔xs=[]:=by
 cases r with
 | nil=>simp
 | cons _ _=>simp
theorem Jyc:OpR X (ZaV .Add) (J3v X.K):=by
 intro pj s σ H x y v u Q I rx ry h
 obtain⟨a,b,xs,ys,rfl,rfl,ha,hb,hx,hz,q1,q2⟩:=h
 cases rx
 cases ry
 obtain⟨its,r1,p1,_⟩:=I.tuple ha
 obtain⟨its2,r2,p2,_⟩:=I.tuple hb
 refine HT.cat_tup p1 p2 (λ z=>hx (r1.nil_iff.mp z)) (λ z=>⟨.ref a,H,I,rfl,q1 (r2.nil_iff.mp z)⟩) (λ z=>?_) (by rw[<- r1.length,<-r2.length];exact hz)
 refine⟨.ref s.heap.objs.size,_,I.laid (t':=s.toks) (o:=.tup (xs++ys)) (λ b ob q=>Zh _ q) (Zp _) ?_,rfl,q2 (λ w=>z (r2.nil_iff.mpr w)) _ (I.hok.fresh (Zp _))⟩
 exact⟨by rw[Z0];exact hz,_,r1.append r2,IsTup.new _ _⟩
end
noncomputable def ixN (n:Nat)(i:Int):Option Nat:=if 0<=i then(if i<n then Za i.toNat else Zc) else if -(n:Int)<=i then Za (i+n).toNat else Zc
noncomputable def atI {α:Type}(xs:List α)(i:Int):Option α:=(ixN xs.length i).bind λ j=>xs[j]?
theorem Jri {n:Nat}{i:Int}{j:Nat}(h:ixN n i=Za j):seqIndex? i n=Za j/\j<n/\ -(n:Int)<=i/\i<n:=by
 unfold ixN at h
 by_cases h0:0<=i
 ·rw[if_pos h0] at h
  by_cases h1:i<n
  ·rw[if_pos h1] at h
   have e:i.toNat=j:=ZQ h
   exact⟨by rw[ZdL h0 h1,e],00,00,h1⟩
  ·rw[if_neg h1] at h;cases h
 ·rw[if_neg h0] at h
  by_cases h1: -(n:Int)<=i
  ·rw[if_pos h1] at h
   have e:(i+n).toNat=j:=ZQ h
   exact⟨by rw[Zeo 00 h1,e],00,h1,00⟩
  ·rw[if_neg h1] at h;cases h
theorem Jiz {α:Type}{xs:List α}{i:Int}{v:α}(h:atI xs i=Za v):∃j,seqIndex? i xs.length=Za j/\xs[j]?=Za v/\j<xs.length/\ -(xs.length:Int)<=i/\i<xs.length:=by
 unfold atI at h
 cases e:ixN xs.length i with
 | none=>rw[e] at h;cases h
 | some j =>
  rw[e] at h
  obtain⟨h1,h2,h3,h4⟩:=Jri e
  exact⟨j,h1,h,h2,h3,h4⟩
def Jp0 (b:Expr):Prop:=∀o i,ZdM b Zk o i=operate [o,i] (Zd5 o i)
def IxR (X:Cx)(r:R2):Prop :=
 ∀(value slice:Expr)(pj:PnT)(s:Zn)(σ:St)(H:Hp)(x y:V)(v u:Zg)(Q:VK),Inv X pj σ H s->RelV x v->RelV y u->r x y H Q ->
  ZdM slice Zk v u=operate [v,u] (Zd5 v u)->Zy (Z8 X.prog X.w) X.A (Zdh value slice v u) (EP X pj σ Q) X.xe s
section
variable {X:Cx}{a b:Expr}{ta tb:TE}{pos:Pos}
def rIxL (K:W.Frag):R2:=λ x y H Q=>∃p xs i v,x=.ref p/\y=.int i/\SqL K H p xs/\atI xs i=Za v/\Q v H
def rIxT (K:W.Frag):R2:=λ x y H Q=>∃p xs i v,x=.ref p/\y=.int i/\SqT K H p xs/\atI xs i=Za v/\Q v H
def rIxS:R2:=λ x y H Q=>∃z i c,x=.str z/\y=.int i/\z.length<=sizeLine/\atI z.cps.toList i=Za c/\Q (.str ⟨#[c]⟩) H
theorem Jrj:IxR X (rIxL X.K):=by
 intro value slice pj s σ H x y v u Q I rx ry h hs
 obtain⟨p,xs,i,z,rfl,rfl,hq,he,q⟩:=h
 cases rx
 obtain⟨t,rfl⟩:=ry
 obtain⟨its,r,pl,hz⟩:=I.list hq
 obtain⟨j,h1,h2,h3,h4,h5⟩:=Jiz he
 obtain⟨w,ew,rw'⟩:=r.get h2
 have hl:=r.length
 have hn:=Xb
 have fin:EP X pj σ Q w s:=⟨z,H,I,rw',q⟩
 by_cases h0:0<=i
 ·have hj:i.toNat=j:=by
   rw[ZdL h0 h5] at h1
   exact ZQ h1
  exact item_listR pl.isList h0 00 (by rw[hj];simpa using ew) fin hs
 ·have hj:(i+(its.toArray.size:Int)).toNat=j:=by
   rw[Zeo 00 h4] at h1
   rw[Zs,<-hl]
   exact ZQ h1
  exact Zc4 (x:=w) pl.isList.typeIs slot_list_getitem.lookup
   (wpAny_getItem_list_neg (Q:=λ r s'=>r=w/\EP X pj σ Q r s') pl.isList 00 (by rw[Zs]<;>omega) 00 (by rw[hj];simpa using ew) ⟨rfl,fin⟩) hs
theorem J0r:IxR X (rIxT X.K):=by
 intro value slice pj s σ H x y v u Q I rx ry h hs
 obtain⟨p,xs,i,z,rfl,rfl,hq,he,q⟩:=h
 cases rx
 obtain⟨t,rfl⟩:=ry
 obtain⟨its,r,pl,hz⟩:=I.tuple hq
 obtain⟨j,h1,h2,h3,h4,h5⟩:=Jiz he
 obtain⟨w,ew,rw'⟩:=r.get h2
 have hl:=r.length
 have hn:=Xb
 have fin:EP X pj σ Q w s:=⟨z,H,I,rw',q⟩
 exact Zc4 (x:=w) pl.typeIs slot_tuple_getitem.lookup
  (getItem_tuple (j:=j) (Q:=λ r s'=>r=w/\EP X pj σ Q r s') pl 00 00 (by rw[Zs,<-hl];exact h1) (by simpa using ew) ⟨rfl,fin⟩) hs
theorem J0q:IxR X rIxS:=by
 intro value slice pj s σ H x y v u Q I rx ry h hs
 obtain⟨z,i,c,rfl,rfl,hz,he,q⟩:=h
 obtain⟨t,rfl⟩:=rx
 obtain⟨t',rfl⟩:=ry
 obtain⟨j,h1,h2,h3,h4,h5⟩:=Jiz he
 have hl:z.cps.toList.length=z.length:=by simp[Str.length]
 rw[hl] at h1 h4 h5
 have hn:=Xb
 exact tail_any (typeIs_str s z t) slot_str_getitem.lookup (getItem_str (c:=c) (by
  have e1:decide (i< -(2^63:Int))=Zk:=decide_eq_false 00
  have e2:decide (i ≥ 2^63)=Zk:=decide_eq_false 00
  rw[e1,e2,Bool.or_false]) (by rw[h1];simpa using h2) ⟨.str ⟨#[c]⟩,H,I.tok _,⟨_,rfl⟩,q⟩) hs
theorem Jpi (its:List Zg)(n j:Nat)(u:Zg):Zad (·.setIfInBounds j u) { cls:=.type "list",data:=.seq its.toArray n }={ cls:=.type "list",data:=.seq (its.set j u).toArray n }:=by
 simp[Zad]
theorem Inv.lst {pj:PnT}{σ:St}{H:Hp}{s:Zn}{p:Zo}{xs:List V}(I:Inv X pj σ H s)(h:H p=Za (.lst xs)) :
  ∃(its:List Zg) (n:Nat),Vals xs its/\s.heap.get? p=Za { cls:=.type "list",data:=.seq its.toArray n }/\xs.length<=sizeLine:=by
 obtain⟨z,its,n,r,e⟩:=I.hok p _ h
 exact⟨its,n,r,e,z⟩
theorem Inv.lstUpd {pj:PnT}{σ:St}{H:Hp}{s:Zn}{p:Zo}{xs ys:List V}{its its':List Zg}{n n':Nat}{f:Obj->Obj}(I:Inv X pj σ H s)(h:H p=Za (.lst xs))
  (ho:s.heap.get? p=Za { cls:=.type "list",data:=.seq its.toArray n })(hf:f { cls:=.type "list",data:=.seq its.toArray n }={ cls:=.type "list",data:=.seq its'.toArray n' })(r:Vals ys its')(hz:ys.length<=sizeLine)(t:Nat) :
  Inv X pj σ (upd H p (.lst ys)) { s with heap:=s.heap.update p f,toks:=t }:=by
 have e:(s.heap.update p f).get? p=Za { cls:=.type "list",data:=.seq its'.toArray n' }:=by
  rw[Zbz f ho (by rw[hf]<;>rfl),hf]
 refine I.write (x:=p) (e:=p) (by rw[h];trivial) (.inl rfl) (λ b u hb q=>(Z2 _ _ (ZR hb)).trans q) ⟨_,e⟩ ?_
 exact⟨hz,its',n',r,e⟩
def J3w:V->V->V->Hp->(Hp->Prop)->Prop:=λ o i v H Q=>∃p xs k j,o=.ref p/\i=.int k/\H p=Za (.lst xs)/\ixN xs.length k=Za j/\Q (upd H p (.lst (xs.set j v)))
theorem Jnz:PSet X J3w:=by
 intro pj s σ H o i v ov iv u Q I ro ri rv h
 obtain⟨p,xs,k,j,rfl,rfl,hp,hj,q⟩:=h
 cases ro
 obtain⟨t,rfl⟩:=ri
 obtain⟨its,n,r,ho,hz⟩:=I.lst hp
 obtain⟨h1,h2,h3,h4⟩:=Jri hj
 have hl:=r.length
 have hn:=Xb
 have I':Inv X pj σ (upd H p (.lst (xs.set j v))) { s with heap:=s.heap.update p (Zad (·.setIfInBounds j u)) } :=
  I.lstUpd hp ho (Jpi its n j u) (r.set rv j) (by rw[Zbf];exact hz) s.toks
 by_cases h0:0<=k
 ·have hk:k.toNat=j:=by
   rw[ZdL h0 h4] at h1
   exact ZQ h1
  exact W.ki_setAt ho h0 00 (by rw[Zs,<-hl];exact h4) (by rw[hk];exact⟨_,I',q⟩)
 ·have hk:(k+(its.toArray.size:Int)).toNat=j:=by
   rw[Zeo 00 h3] at h1
   rw[Zs,<-hl]
   exact ZQ h1
  exact W.ki_setBack ho 00 (by rw[Zs,<-hl];exact h3) 00 (by rw[hk];exact⟨_,I',q⟩)
theorem Jlz (lo hi:Option Int)(n:Nat):(Zcx lo hi Zc n).1=((HT.sIx n 0 lo:Nat):Int)/\(Zcx lo hi Zc n).2.1=((HT.sIx n n hi:Nat):Int)/\(Zcx lo hi Zc n).2.2=1:=by
 refine⟨?_,?_,rfl⟩
 ·cases lo with
  | none=>simp[Zcx,HT.sIx]
  | some i =>
   simp only[Zcx,HT.sIx,Option.getD_none,show(1:Int)>0 by decide,if_true]
   by_cases h:i<0
   ·simp only[h,if_true]<;>omega
   ·simp only[h,if_false]<;>omega
 ·cases hi with
  | none=>simp[Zcx,HT.sIx]
  | some i =>
   simp only[Zcx,HT.sIx,Option.getD_none,show(1:Int)>0 by decide,if_true]
   by_cases h:i<0
   ·simp only[h,if_true]<;>omega
   ·simp only[h,if_false]<;>omega
theorem Jjx (its:List Zg)(lo hi:Option Int):slicePick its.toArray lo hi Zc=((its.drop (HT.sIx its.length 0 lo)).take (HT.sIx its.length its.length hi-HT.sIx its.length 0 lo)).toArray:=by
 obtain⟨h1,h2,h3⟩:=Jlz lo hi its.toArray.size
 unfold slicePick
 rw[h1,h2,h3]
 simp only[sliceRange_one,pick_run,Zs]<;>rfl
def rSlL (K:W.Frag):V->Option Int->Option Int->Hp->VK->Prop:=λ x lo hi H Q=>∃a xs,x=.ref a/\SqL K H a xs/\∀p,H p=Zc->Q (.ref p) (upd H p (.lst (cutV xs lo hi)))
theorem Jsi:SlR X (rSlL X.K):=by
 intro pj s σ H x v vl vu lo hi sl Q I rx hs pl pu h
 obtain⟨a,xs,rfl,hx,q⟩:=h
 cases rx
 obtain⟨its,r,ht,hz⟩:=I.list hx
 have hlen:=r.length
 refine⟨"list",_,slot_list_getitem.lookup,ht.isList.typeIs,?_⟩
 refine wpAny_getItem_list_slice ht.isList hs pl pu .none 03 ?_ (by rw[Zs]<;>omega)
 rw[Jjx,<-hlen]
 refine⟨.ref s.heap.objs.size,_,I.laid (t':=s.toks) (o:=.lst (cutV xs lo hi)) (λ b ob q=>Zh _ q) (Zp _) ?_,rfl,q _ (I.hok.fresh (Zp _))⟩
 exact⟨Zak (Jmd xs lo hi) hz,_,0,(r.drop (HT.sIx xs.length 0 lo)).take (HT.sIx xs.length xs.length hi-HT.sIx xs.length 0 lo),Z1 _ rfl⟩
theorem Jcx:Xl X (.type "list") (λ xs H Q=>∃p ys,xs=[.ref p]/\(SqL X.K H p ys∨SqT X.K H p ys)/\∀l,H l=Zc->Q (.ref l) (upd H l (.lst ys))):=by
 intro pj s σ H xs us Q I r h
 obtain⟨p,ys,rfl,hq,q⟩:=h
 obtain⟨u,rfl,rx⟩:=Vf r
 cases rx
 have fin:∀(its:List Zg),Vals ys its->ys.length<=sizeLine->∀(h':Zau)(c':Nat),(∀b o',s.heap.get? b=Za o'->h'.get? b=Za o') ->
   h'.get? s.heap.objs.size=Za { cls:=.type "list",dict:=Zc,data:=.seq its.toArray c',slots:=#[] }->EP X pj σ Q (.ref s.heap.objs.size) { s with heap:=h' }:=λ its r' hz h' c' kp e =>
  ⟨.ref s.heap.objs.size,_,I.laid (t':=s.toks) kp (Zp _) (show JM X.prog X.w _ h' _ (.lst ys) from⟨hz,its,c',r',e⟩),rfl,q _ (I.hok.fresh (Zp _))⟩
 rcases hq with hq|hq
 ·obtain⟨its,r',pl,hz⟩:=I.list hq
  have hlen:=r'.length
  obtain⟨o,ho,hc,n,hd⟩:=pl.isList
  exact call_list_seq p (.inl rfl) ho hc hd (λ h' c' kp e=>fin its r' hz h' c' kp e) (by simp only[Zs]<;>omega)
 ·obtain⟨its,r',pl,hz⟩:=I.tuple hq
  have hlen:=r'.length
  obtain⟨o,ho,hc,n,hd⟩:=pl
  exact call_list_seq p (.inr rfl) ho hc hd (λ h' c' kp e=>fin its r' hz h' c' kp e) (by simp only[Zs]<;>omega)
theorem Jek:Xl X (.type "tuple") (λ xs H Q=>∃p ys,xs=[.ref p]/\((SqL X.K H p ys/\∀l,H l=Zc->Q (.ref l) (upd H l (.tup ys)))∨(SqT X.K H p ys/\Q (.ref p) H))):=by
 intro pj s σ H xs us Q I r h
 obtain⟨p,ys,rfl,h⟩:=h
 obtain⟨u,rfl,rx⟩:=Vf r
 cases rx
 rcases h with⟨hq,q⟩|⟨hq,q⟩
 ·obtain⟨its,r',pl,hz⟩:=I.list hq
  have hlen:=r'.length
  refine call_tuple_list pl.isList (λ h' kp=>?_) (by simp only[Zs]<;>omega)
  have I1:Inv X pj σ H { s with heap:=h' }:=I.kept (t':=s.toks) kp
  have I2:Inv X pj σ (upd H h'.objs.size (.tup ys)) { s with heap:=h'.push { cls:=.type "tuple",data:=.seq its.toArray } } :=
   I1.laid (t':=s.toks) (λ b o e=>Zh _ e) (Zp _) (show JM X.prog X.w _ _ _ (.tup ys) from⟨hz,its,r',IsTup.new _ _⟩)
  exact⟨.ref h'.objs.size,_,I2,rfl,q _ (I1.hok.fresh (Zp _))⟩
 ·obtain⟨its,r',pl,hz⟩:=I.tuple hq
  exact call_tuple_same pl ⟨.ref p,H,I,rfl,q⟩
def tyV (K:W.Frag)(T:String)(x:V)(H:Hp):Prop:=match x with
 | .str _=>T="str"
 | .int _=>T="int"
 | .ref p=>(T="list"/\∃xs,SqL K H p xs)∨(T="tuple"/\∃o,K.lookup p=Za o/\o.cls=.type "tuple"/\o.dict=Zc) ∨
   (T="dict"/\((∃kvs,H p=Za (.dK kvs))∨∃kvs,H p=Za (.dT kvs)))∨(T="set"/\∃S n,H p=Za (.set S n))
 | _=>False
theorem Jwr {pj:PnT}{σ:St}{H:Hp}{s:Zn}{T:String}{x:V}{v:Zg}(I:Inv X pj σ H s)(r:RelV x v)(ty:tyV X.K T x H) :
  s.TypeIs v T/\∀a,v=.ref a->∃ob,s.heap.get? a=Za ob/\ob.dict=Zc:=by
 cases x with
 | str z =>
  obtain⟨t,rfl⟩:=r
  cases (show T="str" from ty)
  exact⟨typeIs_str s z t,λ _ e=>nomatch e⟩
 | int i =>
  obtain⟨t,rfl⟩:=r
  cases (show T="int" from ty)
  exact⟨typeIs_int s i t,λ _ e=>nomatch e⟩
 | ref p =>
  cases r
  rcases ty with⟨rfl,xs,hq⟩|⟨rfl,o,hk,hc,hd⟩|⟨rfl,hk⟩|⟨rfl,S,n,hk⟩
  ·obtain⟨its,_,pl,_⟩:=I.list hq
   refine⟨pl.isList.typeIs,λ a e=>?_⟩
   cases e
   obtain⟨o,n,e,c,hd,_⟩:=pl
   exact⟨o,e,hd⟩
  ·refine⟨⟨o,I.kIn p o hk,hc⟩,λ a e=>?_⟩
   cases e
   exact⟨o,I.kIn _ o hk,hd⟩
  ·have z:∃o,s.heap.get? p=Za o/\o.ExactDict:=by
    rcases hk with⟨kvs,hk⟩|⟨kvs,hk⟩
    ·obtain⟨_,_,_,_,o,_,_,e,ex,_⟩:=I.hok p _ hk
     exact⟨o,e,ex⟩
    ·obtain⟨_,_,_,_,o,_,_,e,ex,_⟩:=I.hok p _ hk
     exact⟨o,e,ex⟩
   obtain⟨o,e,ex⟩:=z
   refine⟨⟨o,e,ex.1⟩,λ a e2=>?_⟩
   cases e2
   exact⟨o,e,ex.2.1⟩
  ·obtain⟨o,_,_,_,e,ex,_⟩:=I.hok p _ hk
   refine⟨⟨o,e,ex.1⟩,λ a e2=>?_⟩
   cases e2
   exact⟨o,e,ex.2.1⟩
 | _=>exact ZaT ty
variable {o e:Expr}{es:List Expr}{to:TE}{t:TA}{name:Str}{apos cpos:Pos}{T id:String}{r:V->List V->Hp->VK->Prop}
end
def MtM (X:Cx)(id:String)(r:V->List V->Hp->VK->Prop):Prop :=
 ∀(pj:PnT)(s:Zn)(σ:St)(H:Hp)(x:V)(xs:List V)(v:Zg)(us:List Zg)(Q:VK),Inv X pj σ H s->RelV x v->Vals xs us->r x xs H Q ->
  Zy (Z8 X.prog X.w) X.A (call (.builtin id) (v::us)) (EP X pj σ Q) X.xe s
theorem Vals.one {x:V}{us:List Zg}(h:Vals [x] us):∃u,us=[u]/\RelV x u:=by
 cases h with|cons r e=>cases e;exact⟨_,rfl,r⟩
theorem Vals.two {x y:V}{us:List Zg}(h:Vals [x,y] us):∃u v,us=[u,v]/\RelV x u/\RelV y v:=by
 cases h with|cons r t=>cases t with|cons q e=>cases e;exact⟨_,_,rfl,r,q⟩
theorem Vals.zero:∀{us:List Zg},Vals [] us->us=[]
 | _,.nil=>rfl
theorem Vals.dropLast {xs:List V}{us:List Zg}(h:Vals xs us):Vals xs.dropLast us.dropLast:=by
 induction h with
 | nil=>exact .nil
 | cons r t ih =>
  cases t with
  | nil=>exact .nil
  | cons q t'=>exact .cons r ih
theorem Vals.eraseIdx:∀{xs:List V}{us:List Zg}(i:Nat),Vals xs us->Vals (xs.eraseIdx i) (us.eraseIdx i)
 | _,_,_,.nil=>.nil
 | _,_,0,.cons _ t=>t
 | _,_,i+1,.cons r t=>.cons r (Vals.eraseIdx i t)
theorem Vals.reverse {xs:List V}{us:List Zg}(h:Vals xs us):Vals xs.reverse us.reverse:=by
 induction h with
 | nil=>exact .nil
 | cons r t ih=>rw[ZbR,ZbR];exact Vals.append ih (.cons r .nil)
theorem Vals.rep {xs:List V}{us:List Zg}(h:Vals xs us):∀k:Nat,Vals (ZI k xs).flatten (ZI k us).flatten
 | 0=>.nil
 | k+1=>by
  rw[Zbe,Zbe,Zb5,Zb5]
  exact Vals.append h (Vals.rep h k)
theorem Jow {α:Type}(l:List α):l.eraseIdx (l.length-1)=l.dropLast:=by
 induction l with
 | nil=>rfl
 | cons a r ih =>
  cases r with
  | nil=>rfl
  | cons b r =>
   have e:(a::b::r).length-1=((b::r).length-1)+1:=by
    have h1:(a::b::r).length=r.length+2:=rfl
    have h2:(b::r).length=r.length+1:=rfl
    omega
   rw[e,List.eraseIdx_cons_succ,ih]
   all_goals rfl
theorem Jk9 {α:Type}:∀(l:List α)(i:Nat),(l.eraseIdx i).length<=l.length
 | [],_=>Zp _
 | _::_,0=>Zbg _
 | _::r,i+1=>ZcD (Jk9 r i)
theorem Jks (its:List Zg):∀(k:Nat)(acc:List Zg),
  List.foldl (λ x1 x2=>x1++x2) acc.toArray (ZI k its.toArray)=(acc++(ZI k its).flatten).toArray
 | 0,acc=>03
 | k+1,acc=>by
  have e:acc.toArray++its.toArray=(acc++its).toArray:=03
  have e2:(acc++its)++(ZI k its).flatten=acc++(ZI (k+1) its).flatten:=by
   rw[Zbe,Zb5,ZZ]
  rw[<- e2,<-Jks its k (acc++its),<-e,Zbe,List.foldl_cons]
section
variable {X:Cx}{pj:PnT}{σ:St}{H:Hp}{s:Zn}{l b:Zo}{xs ys zs:List V}
theorem Inv.lset {its its':List Zg}{n:Nat}{f:Array Zg->Array Zg}{t':Nat}(I:Inv X pj σ H s)(hH:H l=Za (.lst xs))
  (e:s.heap.get? l=Za { cls:=.type "list",data:=.seq its.toArray n })(hf:f its.toArray=its'.toArray)(hv:Vals ys its')(hz:ys.length<=sizeLine) :
  Inv X pj σ (upd H l (.lst ys)) { s with heap:=s.heap.update l (Zad f),toks:=t' }:=by
 have q:=PySem.IsL.update e f
 rw[hf] at q
 refine I.write (x:=l) (e:=l) (by rw[hH];exact trivial) (.inl rfl) (λ b' u hb hu=>(Z2 s.heap (Zad f) (ZR hb)).trans hu) ⟨_,q⟩ ?_
 exact⟨hz,its',_,hv,q⟩
theorem Inv.lnew {its:List Zg}{t':Nat}(I:Inv X pj σ H s)(hv:Vals ys its)(hz:ys.length<=sizeLine) :
  Inv X pj σ (upd H s.heap.objs.size (.lst ys)) { s with heap:=s.heap.push { cls:=.type "list",data:=.seq its.toArray },toks:=t' } :=
 I.laid (λ _ _ q=>Zh _ q) (Zp _) ⟨hz,its,0,hv,Z1 _ rfl⟩
theorem Inv.fresh (I:Inv X pj σ H s):H s.heap.objs.size=Zc:=I.hok.fresh (Zp _)
theorem Inv.lstM (I:Inv X pj σ H s)(hH:H l=Za (.lst xs)):xs.length<=sizeLine/\∃(its:List Zg) (n:Nat),Vals xs its/\xs.length=its.length/\s.heap.get? l=Za { cls:=.type "list",data:=.seq its.toArray n }:=by
 obtain⟨z,its,n,r,e⟩:=I.hok l _ hH
 exact⟨z,its,n,r,r.length,e⟩
theorem Jnq {n:Nat}(h:n<=sizeLine):Zb8 n=Zk:=by
 unfold Zb8
 exact decide_eq_false 00
end
section
variable {X:Cx}
def Jyi:V->List V->Hp->VK->Prop:=λ x vs H Q=>∃l xs y,x=.ref l/\vs=[y]/\H l=Za (.lst xs)/\xs.length<sizeLine/\Q .non (upd H l (.lst (xs++[y])))
theorem Jlc:MtM X "list.append" Jyi:=by
 intro pj s σ H x vs v us Q I rx rv h
 obtain⟨l,xs,y,rfl,rfl,hH,hz,q⟩:=h
 cases rx
 obtain⟨u,rfl,ru⟩:=rv.one
 obtain⟨z,its,n,r,hl,e⟩:=I.lstM hH
 refine ZcX F.slot_list_append ⟨_,e,rfl⟩ F.entry_list_append (F.args_list_append_2 _ _) (PySem.list_append l its.toArray n u (by rw[Zs];omega)) ⟨e,?_⟩
 refine⟨.non,_,I.lset (its':=its++[u]) hH e 03 (r.append (.cons ru .nil)) ?_,rfl,q⟩
 rw[Z0,Za9]
 omega
def Jyj:V->List V->Hp->VK->Prop:=λ x vs H Q=>∃l b xs zs,x=.ref l/\vs=[.ref b]/\H l=Za (.lst xs)/\H b=Za (.lst zs)/\xs.length+zs.length<=sizeLine/\Q .non (upd H l (.lst (xs++zs)))
theorem Jry:MtM X "list.extend" Jyj:=by
 intro pj s σ H x vs v us Q I rx rv h
 obtain⟨l,b,xs,zs,rfl,rfl,hH,hB,hz,q⟩:=h
 cases rx
 obtain⟨u,rfl,ru⟩:=rv.one
 cases ru
 obtain⟨z,its,n,r,hl,e⟩:=I.lstM hH
 obtain⟨z2,its2,n2,r2,hl2,e2⟩:=I.lstM hB
 have hsz:its.toArray.size+its2.toArray.size<=sizeLine:=by rw[Zs,Zs];omega
 have hlong:¬(!its.toArray.isEmpty&&Zb8 (its.toArray.size+its2.toArray.size))=Zi:=by
  rw[Jnq hsz,Bool.and_false]
  exact Zu
 refine ZcX F.slot_list_extend ⟨_,e,rfl⟩ F.entry_list_extend (F.args_list_extend_2 _ _)
  (AutoSeq1.list_extend_list_list_0 l its.toArray n b its2.toArray n2 hlong (by rw[Zs];omega) 00) ⟨e,e2,?_⟩
 refine⟨.non,_,I.lset (its':=its++its2) hH e 03 (r.append r2) ?_,rfl,q⟩
 rw[Z0]
 omega
def rPop:V->List V->Hp->VK->Prop:=λ x vs H Q=>∃l xs y,x=.ref l/\vs=[]/\H l=Za (.lst xs)/\xs[xs.length-1]?=Za y/\Q y (upd H l (.lst xs.dropLast))
theorem J04:MtM X "list.pop" rPop:=by
 intro pj s σ H x vs v us Q I rx rv h
 obtain⟨l,xs,y,rfl,rfl,hH,hy,q⟩:=h
 cases rx
 have hus:=rv.zero
 subst hus
 obtain⟨z,its,n,r,hl,e⟩:=I.lstM hH
 obtain⟨u,hu,ru⟩:=r.get hy
 have hy':its.toArray[its.toArray.size-1]?=Za u:=by
  show its.toArray[its.length-1]?=Za u
  rw[<- ZdF,<-hl]
  exact hu
 refine ZcX F.slot_list_pop ⟨_,e,rfl⟩ F.entry_list_pop (F.args_list_pop_1 _) (MeetsSeq.list_pop_last l its.toArray n u hy' (by rw[Zs];omega)) ⟨e,?_⟩
 refine⟨y,_,I.lset (its':=its.dropLast) hH e ?_ r.dropLast ?_,ru,q⟩
 ·show its.toArray.eraseIdxIfInBounds (its.toArray.size-1)=its.dropLast.toArray
  rw[Zs,Zc9,Jow]
 ·rw[List.length_dropLast]
  omega
def rCat:R2:=λ x y H Q=>∃l b xs zs,x=.ref l/\y=.ref b/\H l=Za (.lst xs)/\H b=Za (.lst zs)/\xs.length+zs.length<=sizeLine/\∀p,H p=Zc->Q (.ref p) (upd H p (.lst (xs++zs)))
theorem J09:OpR X (ZaV .Add) rCat:=by
 intro pj s σ H x y v u Q I rx ry h
 obtain⟨l,b,xs,zs,rfl,rfl,hH,hB,hz,q⟩:=h
 cases rx
 cases ry
 obtain⟨z,its,n,r,hl,e⟩:=I.lstM hH
 obtain⟨z2,its2,n2,r2,hl2,e2⟩:=I.lstM hB
 refine PySem.P.add_list e e2 ?_ (by rw[Zs,Zs];omega)
 have ea:its.toArray++its2.toArray=(its++its2).toArray:=03
 rw[ea]
 exact⟨.ref _,_,I.lnew (t':=s.toks) (r.append r2) (by rw[Z0];omega),rfl,q _ I.fresh⟩
def rRep:R2:=λ x y H Q=>∃l k xs,x=.ref l/\y=.int k/\H l=Za (.lst xs)/\ -(2^63)<=k/\k<2^63/\xs.length*k.toNat<=sizeLine /\
 ∀p,H p=Zc->Q (.ref p) (upd H p (.lst (ZI k.toNat xs).flatten))
theorem Jxx {α:Type}(xs:List α)(k:Nat):(ZI k xs).flatten.length=k*xs.length:=by
 induction k with
 | zero=>simp
 | succ k ih=>rw[Zbe,Zb5,Z0,ih,Nat.succ_mul,Nat.add_comm]
theorem J1c:OpR X (ZaV .Mult) rRep:=by
 intro pj s σ H x y v u Q I rx ry h
 obtain⟨l,k,xs,rfl,rfl,hH,h1,h2,hz,q⟩:=h
 cases rx
 obtain⟨t,rfl⟩:=ry
 obtain⟨z,its,n,r,hl,e⟩:=I.lstM hH
 have hlen:its.toArray.size*k.toNat<=sizeLine:=by rw[Zs,<-hl];exact hz
 have hcap:¬its.toArray.size*k.toNat>(2^63-1)/8:=by
  have:(sizeLine:Nat)<=(2^63-1)/8:=01
  omega
 have hfit:¬(!Builtin.List.listFitsIndex k)=Zi:=by
  rw[fitsIndex_both h1 h2]
  exact Zu
 have hlong:¬Zb8 (its.toArray.size*k.toNat)=Zi:=by
  rw[Jnq hlen]
  exact Zu
 have hnew:List.foldl (λ x1 x2=>x1++x2) #[] (ZI (if its.toArray.isEmpty=Zi then 0 else k.toNat) its.toArray)=(ZI k.toNat its).flatten.toArray:=by
  have f0:∀m:Nat,List.foldl (λ x1 x2=>x1++x2) #[] (ZI m its.toArray)=(ZI m its).flatten.toArray:=λ m=>by
   have:=Jks its m []
   rw[Zaz] at this
   exact this
  rw[f0]
  cases its with
  | nil=>simp
  | cons a r'=>rw[if_neg 03]
 refine wpAny_binaryOp_repeat_ref (T:="list") (U:="int") 01 ⟨_,e,rfl⟩ (λ s'=>typeIs_int s' k t) noFill_list_mul F.fills_int_mul F.slot_int_rmul repeat_list F.slot_int_index.lookup
  (ZcX F.slot_int_rmul (typeIs_int s k t) F.entry_int_rmul (F.args_int_rmul_2 _ _) (int___rmul___int_list k t l its.toArray n)
   ⟨e,rfl,⟨_,e,rfl⟩,ZcX F.slot_list_mul ⟨_,e,rfl⟩ F.entry_list_mul (F.args_list_mul_2 _ _) (AutoListH.list___mul___list_int_3 l its.toArray n k t hfit hcap hlong) ⟨e,?_⟩⟩)
 rw[hnew]
 exact⟨.ref _,_,I.lnew (t':=s.toks) (r.rep k.toNat) (by rw[Jxx,Nat.mul_comm];exact hz),rfl,q _ I.fresh⟩
end
section
variable {prog:ZB}{w:Zab}{A:ZK}{E:QvT}{s:Zn}
end
section
variable {X:Cx}
end
section
variable {κ:Type}[DecidableEq κ]
def valV (kvs:List (κ×V))(k:κ):Option V:=(kvs.find? λ kv=>decide (kv.1=k)).map (·.2)
def putK (kvs:List (κ×V))(k:κ)(v:V):List (κ×V) :=
 if (kvs.any λ kv=>decide (kv.1=k))=Zi then kvs.map (λ kv=>if kv.1=k then(kv.1,v) else kv) else kvs++[(k,v)]
def Jzu (kvs:List (κ×V))(k:κ):List (κ×V):=kvs.filter λ kv=>decide (kv.1≠k)
theorem Jgh {p:κ×V}{r:List (κ×V)}{k:κ}(e:p.1=k):valV (p::r) k=Za p.2:=by simp[valV,Zbs,e]
theorem Jgg {p:κ×V}{r:List (κ×V)}{k:κ}(e:¬p.1=k):valV (p::r) k=valV r k:=by simp[valV,Zbs,e]
theorem Jjz (k:κ):∀kvs:List (κ×V),(kvs.any λ kv=>decide (kv.1=k))=(valV kvs k).isSome
 | []=>rfl
 | p::r=>by
  rw[Zcl]
  by_cases e:p.1=k
  ·simp only[Jgh e,decide_eq_true e,Bool.true_or,Option.isSome_some]
  ·rw[Jgg e,decide_eq_false e,Bool.false_or];exact Jjz k r
theorem Jmk (kvs:List (κ×V))(k:κ)(v:V):(putK kvs k v).length<=kvs.length+1:=by
 unfold putK
 split
 ·rw[Zm];omega
 ·rw[Z0,ZD,ZaQ];omega
theorem Jjp {kvs:List (κ×V)}{k:κ}(v:V)(h:valV kvs k=Zc):putK kvs k v=kvs++[(k,v)]:=by
 unfold putK
 rw[Jjz,h]
 exact if_neg 01
theorem RelO.isSome_eq {o:Option V}{u:Option Zg}(r:RelO o u):o.isSome=u.isSome:=by
 cases o with
 | none=>cases u with
  | none=>rfl
  | some _=>exact Zf r
 | some _=>cases u with
  | none=>exact Zf r
  | some _=>rfl
theorem RelO.getD {o:Option V}{u:Option Zg}{d:V}{d':Zg}(r:RelO o u)(rd:RelV d d'):RelV (o.getD d) (u.getD d'):=by
 cases o with
 | none=>cases u with
  | none=>exact rd
  | some _=>exact Zf r
 | some _=>cases u with
  | none=>exact Zf r
  | some _=>exact r
theorem KV.val {kvs:List (κ×V)}{vs:List (κ×Zg)}(r:KV kvs vs)(k:κ):RelO (valV kvs k) (Zep vs k):=by
 unfold KV at r
 induction r with
 | nil=>exact Zam
 | @cons p q ps qs h t ih =>
  obtain⟨h1,h2⟩:=h
  by_cases e:p.1=k
  ·have e':q.1=k:=h1.symm.trans e
   have b:Zep (q::qs) k=Za q.2:=by simp[Zep,Zbs,e']
   rw[Jgh e,b];exact h2
  ·have e':¬q.1=k:=λ z=>e (h1.trans z)
   have b:Zep (q::qs) k=Zep qs k:=by simp[Zep,Zbs,e']
   rw[Jgg e,b];exact ih
theorem KV.any {kvs:List (κ×V)}{vs:List (κ×Zg)}(r:KV kvs vs)(k:κ):(kvs.any λ kv=>decide (kv.1=k))=vs.any λ kv=>decide (kv.1=k):=by
 unfold KV at r
 induction r with
 | nil=>rfl
 | cons h t ih=>rw[Zcl,Zcl,ih,h.1]
theorem KV.repl {kvs:List (κ×V)}{vs:List (κ×Zg)}(r:KV kvs vs)(k:κ){y:V}{u:Zg}(ry:RelV y u) :
  KV (kvs.map λ kv=>if kv.1=k then(kv.1,y) else kv) (vs.map λ kv=>if kv.1=k then(kv.1,u) else kv):=by
 unfold KV at r ⊢
 induction r with
 | nil=>exact .nil
 | @cons p q ps qs h t ih =>
  rw[Z5,Z5]
  refine .cons ?_ ih
  obtain⟨h1,h2⟩:=h
  by_cases e:p.1=k
  ·rw[if_pos e,if_pos (h1.symm.trans e)];exact⟨h1,ry⟩
  ·rw[if_neg e,if_neg (λ z=>e (h1.trans z))];exact⟨h1,h2⟩
theorem KV.put {kvs:List (κ×V)}{vs:List (κ×Zg)}(r:KV kvs vs)(k:κ){y:V}{u:Zg}(ry:RelV y u):KV (putK kvs k y) (stored vs k u):=by
 unfold putK stored
 rw[r.any k]
 by_cases e:(vs.any λ kv=>decide (kv.1=k))=Zi
 ·rw[if_pos e,if_pos e];exact r.repl k ry
 ·rw[if_neg e,if_neg e];exact Paired.snoc r ⟨rfl,ry⟩
theorem KV.drop {kvs:List (κ×V)}{vs:List (κ×Zg)}(r:KV kvs vs)(k:κ):KV (Jzu kvs k) (without vs k):=by
 unfold KV at r ⊢
 unfold Jzu without
 induction r with
 | nil=>exact .nil
 | @cons p q ps qs h t ih =>
  obtain⟨h1,h2⟩:=h
  rw[Zbi,Zbi]
  by_cases e:p.1=k
  ·have a:¬decide (p.1≠k)=Zi:=by simp[e]
   have b:¬decide (q.1≠k)=Zi:=by simp[h1.symm.trans e]
   rw[if_neg a,if_neg b];exact ih
  ·have e':¬q.1=k:=λ z=>e (h1.trans z)
   have a:decide (p.1≠k)=Zi:=by simp[e]
   have b:decide (q.1≠k)=Zi:=by simp[e']
   rw[if_pos a,if_pos b];exact .cons ⟨h1,h2⟩ ih
theorem KV.keys {kvs:List (κ×V)}{vs:List (κ×Zg)}(r:KV kvs vs):kvs.map (·.1)=vs.map (·.1):=by
 unfold KV at r
 induction r with
 | nil=>rfl
 | cons h t ih=>rw[Z5,Z5,ih,h.1]
theorem KV.length {kvs:List (κ×V)}{vs:List (κ×Zg)}(r:KV kvs vs):kvs.length=vs.length:=ZdZ r
end
theorem Yo {P:ZB}{w:Zab}{k:Key}{u:Zg}(r:RelV (kV k) u):(Vo P w).is k u=Zi:=by
 cases k with
 | inl i=>obtain⟨t,e⟩:=(show ∃t,u=ZbO i t from r);subst e;exact Jmn P w i t
 | inr x=>obtain⟨t,e⟩:=(show ∃t,u=ZdT x t from r);subst e;exact Jmo P w x t
abbrev KT (H:Hp):List (List Key×V)->List (List Key×Zo×Zg)->Prop:=Paired λ p q=>p.1=q.1/\H q.2.1=Za (.tup (p.1.map kV))/\RelV p.2 q.2.2
theorem KT.val {H:Hp}{kvs:List (List Key×V)}{xs:List (List Key×Zo×Zg)}(r:KT H kvs xs)(k:List Key):RelO (valV kvs k) ((atKey xs k).map (·.2)):=by
 induction r with
 | nil=>exact Zam
 | @cons p q ps qs h t ih =>
  obtain⟨h1,_,h2⟩:=h
  by_cases e:p.1=k
  ·have e':q.1=k:=h1.symm.trans e
   have b:atKey (q::qs) k=Za q.2:=by simp[atKey,Zbs,e']
   rw[Jgh e,b];exact h2
  ·have e':¬q.1=k:=λ z=>e (h1.trans z)
   have b:atKey (q::qs) k=atKey qs k:=by simp[atKey,Zbs,e']
   rw[Jgg e,b];exact ih
theorem KT.keeps {H H':Hp}{kvs:List (List Key×V)}{xs:List (List Key×Zo×Zg)}(r:KT H kvs xs)(ht:∀b ys,H b=Za (.tup ys)->H' b=Za (.tup ys)):KT H' kvs xs :=
 Paired.mapP r λ _ _ z=>⟨z.1,ht _ _ z.2.1,z.2.2⟩
section
variable {P:ZB}{w:Zab}{H:Hp}{h:Zau}{a:Zo}
theorem J3x {u:HO}(ok:HOk P w H h)(e:Rd H a u):JM P w H h a u:=e.ok ok
theorem J2r {kvs:List (Key×V)}(ok:HOk P w H h)(e:Rd H a (.dK kvs)):kvs.length<=sizeLine/\(a==Zcs)=Zk/\∃vs,KV kvs vs/\h.DictOf (Vo P w) a vs :=
 show JM P w H h a (.dK kvs) from J3x ok e
theorem Yc {kvs:List (Key×V)}(ok:HOk P w H h)(e:H a=Za (.dK kvs)):kvs.length<=sizeLine/\(a==Zcs)=Zk/\∃vs,KV kvs vs/\h.DictOf (Vo P w) a vs:=J2r ok (.inl e)
end
def DGet (H:Hp)(a:Zo)(y:V)(r:Option V):Prop :=
 (∃kvs k,Rd H a (.dK kvs)/\y=kV k/\r=valV kvs k)∨∃kvs k b,Rd H a (.dT kvs)/\y=.ref b/\H b=Za (.tup (k.map kV))/\r=valV kvs k
def DPut (H:Hp)(a:Zo)(y v:V)(H':Hp):Prop :=
 (∃kvs k,H a=Za (.dK kvs)/\y=kV k/\kvs.length<sizeLine/\H'=upd H a (.dK (putK kvs k v))) ∨
 ∃kvs k b,H a=Za (.dT kvs)/\y=.ref b/\H b=Za (.tup (k.map kV))/\kvs.length<sizeLine/\H'=upd H a (.dT (putK kvs k v))
theorem DGet.k {H:Hp}{a:Zo}{kvs:List (Key×V)}{k:Key}(e:H a=Za (.dK kvs)):DGet H a (kV k) (valV kvs k):=.inl ⟨kvs,k,.inl e,rfl,rfl⟩
theorem DGet.t {H:Hp}{a b:Zo}{kvs:List (List Key×V)}{k:List Key}(e:H a=Za (.dT kvs))(eb:H b=Za (.tup (k.map kV))):DGet H a (.ref b) (valV kvs k):=.inr ⟨kvs,k,b,.inl e,rfl,eb,rfl⟩
theorem DPut.k {H:Hp}{a:Zo}{kvs:List (Key×V)}{k:Key}{v:V}(e:H a=Za (.dK kvs))(hl:kvs.length<sizeLine):DPut H a (kV k) v (upd H a (.dK (putK kvs k v))):=.inl ⟨kvs,k,e,rfl,hl,rfl⟩
theorem DPut.t {H:Hp}{a b:Zo}{kvs:List (List Key×V)}{k:List Key}{v:V}(e:H a=Za (.dT kvs))(eb:H b=Za (.tup (k.map kV)))(hl:kvs.length<sizeLine) :
  DPut H a (.ref b) v (upd H a (.dT (putK kvs k v))):=.inr ⟨kvs,k,b,e,rfl,eb,hl,rfl⟩
section
variable {X:Cx}{pj:PnT}{σ:St}{H:Hp}{s:Zn}{a:Zo}{y v:V}{u r:Zg}{o:Option V}{A:ZK}{E:QvT}
theorem Inv.big (I:Inv X pj σ H s):Zcs<s.heap.objs.size:=by
 have h:Z3<s.heap.objs.size:=(I.mod.glob.keeps I.bk).lt
 exact Nat.lt_trans 01 h
theorem Jqr {h':Zau}{t':Nat}{ob:HO}(I:Inv X pj σ H s)(mu:Mut (H a))(hs:Zc0 a s.heap h')(he:∃q,h'.get? a=Za q)(new:JM X.prog X.w (upd H a ob) h' a ob) :
  Inv X pj σ (upd H a ob) { s with heap:=h',toks:=t' } :=
 I.write (x:=a) (e:=a) mu (.inl rfl) (λ b q hb z=>(hs.2 b hb).trans z) he new
theorem Jvz {P:ZB}{w:Zab}{H':Hp}{h':Zau}{kvs:List (Key×V)}{vs:List (Key×Zg)}(z:kvs.length<=sizeLine)(hd:(a==Zcs)=Zk)(rel:KV kvs vs)(dd:h'.DictOf (Vo P w) a vs) :
  JM P w H' h' a (.dK kvs):=⟨z,hd,vs,rel,dd⟩
end
section
variable {X:Cx}{pj:PnT}{σ:St}{H:Hp}{s:Zn}{a:Zo}{kvs:List (Key×V)}{k:Key}{u:Zg}{A:ZK}{E:QvT}
end
section
variable {X:Cx}{o i e value:Expr}{pos pos' tpos:Pos}{td ty tv:TE}
end
theorem Jti {P:ZB}{w:Zab}{H:Hp}(h:Zau)(hb:Zcs<h.objs.size):JM P w H (h.push { cls:=.type "dict",data:=.dict #[] }) h.objs.size (.dK []) :=
 ⟨Zac _,beq_eq_false_iff_ne.mpr (ZR (Z7 hb)),[],.nil,Heap.DictOf.new h⟩
section
variable {X:Cx}{pos:Pos}
end
section
variable {X:Cx}{pj:PnT}{σ:St}{H:Hp}{s:Zn}{a:Zo}{y d:V}{u r:Zg}{o:Option V}{A:ZK}{E:QvT}
end
section
variable {X:Cx}{o e f:Expr}{apos cpos:Pos}{td ty tx:TE}
end
section
variable {X:Cx}{pj:PnT}{σ:St}{H:Hp}{s:Zn}{a:Zo}{kvs:List (Key×V)}{A:ZK}{E:QvT}
end
end L2
namespace Att
open PySem PySem.W PySem.Calls PyProof.Rows
theorem Jhb {P:Params}{h:Zau}:∀(ns:List Int)(vs:List Zg),WellAll P h vs (ns.map WData.int)->ZbA vs ns:=by
 intro ns
 induction ns with
 | nil =>
  intro vs w
  rw[Zbv] at w
  cases w
  exact .nil
 | cons n ns ih =>
  intro vs w
  rw[Z5] at w
  cases w with
  | cons a b =>
   cases a
   exact .cons _ _ (ih _ b)
theorem Jsh {l:OpenLaw}{n:Nat}(hn:l.most=Za n){P:Params}{h:Zau}{args:List WData}{vals:List Zg}
  (hpre:l.row.toRowW.claim.pre args=Zi)(hwl:WellAll P h vals args) :
  ∃a vs ns,vals=[ZdU a]/\args=[WData.list (ns.map WData.int)]/\h.get? a=Za { cls:=.type "list",data:=.seq vs.toArray }/\ZbA vs ns/\ns.length<=n:=by
 have hsh:WShape.hasAll [] args [.list .int]=Zi:=(pre_splitW hpre).1
 have hc:l.pre.holds [] { args:=args }=Zi:=(pre_splitW hpre).2
 obtain⟨d,r,rfl,h1,h2⟩:=hasAllW_cons hsh
 obtain rfl:=hasAllW_nil h2
 obtain⟨xs,rfl,h3⟩:=hasW_list h1
 obtain⟨ns,rfl⟩:=items_int h3
 have hlen:ns.length<=n:=by
  unfold OpenLaw.pre at hc
  have h4:(WTm.not (.lt (.lit (.int (n:Int))) (.len (.arg 0)))).holds [] { args:=[.list (ns.map .int)] }=Zi:=by
   have h4:=(holds_andW hc).1
   rw[hn] at h4
   exact h4
  have h5:=condW_of h4 (w_not (w_lt w_lit (w_len_list (w_arg rfl))))
  rw[Zm] at h5
  refine ZcE λ q=>?_
  have q':(n:Int)<((ns.length:Nat):Int):=00
  first
   | (rw[decide_eq_true q'] at h5;exact absurd h5 01)
   | (simp at h5;omega)
 cases hwl with
 | cons w1 w2 =>
  cases w2
  cases w1 with
  | list ho hall=>exact⟨_,_,ns,rfl,rfl,ho,Jhb ns _ hall,hlen⟩
theorem Jr7 (l:OpenLaw)(args:List WData):l.row.toRowW.claim.post args (.bool Zi) args=Zi :=
 postW_of (r:=l.row.toRowW) (X:=(Zi==Zi))
  (show WShape.has [] (.bool Zi) .bool=Zi by first|rfl|decide|simp[WShape.has,WShape.arms,WShape.armsAll])
  (show(WTm.eq .res (.lit (.bool Zi))).value [] { args:=args,res:=Za (.bool Zi),after:=args }=Za (.bool (Zi==Zi)) from w_eq_bool (w_res rfl) w_lit) rfl
theorem attach_call {l:OpenLaw}{n:Nat}{q:ZB}{loose:List Str}{XP:(Str->Option Zg)->Zau->Prop}{YP:Zab->Zau->Prop}{d:DefRec}
  (hn:l.most=Za n)(hdf:d.params.defaults=[])
  (call:∀(w:Zab)(s₀ s₁:Zn)(mg mb:Str->Option Zg)(fa:Zo)(o:Obj)(pm cd doc:Zg)(a:Zo)(vs:List Zg)(ns:List Int),
   Ground q loose [] XP w s₀ mg mb s₁.heap->YP w s₁.heap ->
   s₁.heap.get? fa=Za o->o.data=.func (docDef d.name d.params d.body d.scope pm cd doc)->s₁.heap.CodeRec cd d.name->mg d.name=Za (.ref fa) ->
   s₁.heap.get? a=Za { cls:=.type "list",data:=.seq vs.toArray }->ZbA vs ns->ns.length<=n->s₁.gens=#[] ->
   Zcp (Z8 l.prog w) ZdW (.call (.ref fa) ⟨[.ref a],[]⟩) (λ r s'=>r=.ok (.ret (.bool Zi))/\OldK s₁.heap s'.heap/\s'.os=s₁.os/\ZcT s'.gens) s₁) :
  WalkO q loose XP YP l.row.toRowW d [] (λ f vs=>PySem.call f vs):=by
 intro w s₀ s₁ mg mb G Y fa o pm cd doc dV kV ho hd hcd hD hmg hg args vals as hpre hlay hrd hwl hlo
 obtain rfl:dV=.none:=Dflts.none hD hdf
 obtain rfl:kV=.none:=Dflts.noKw hD
 obtain⟨a,vs,ns,rfl,rfl,hobj,hints,hlen⟩:=Jsh hn hpre hwl
 refine enter_call (Zc5 (call w s₀ s₁ mg mb fa o pm cd doc a vs ns G Y ho (fd_plain hd) hcd hmg hobj hints hlen hg) λ r s' hq=>?_)
 obtain⟨rfl,h2,h3,h4⟩:=hq
 exact⟨.inl ⟨.bool Zi,.bool Zi,[],rfl,λ _=>rfl,.bool Zi,Jr7 l _,λ _=>⟨List.Pairwise.nil,λ _ hm=>(nomatch hm)⟩⟩,h2,h3,h4⟩
section
variable {prog:ZB}{w:Zab}{A:ZK}{E:QvT}{s:Zn}{K:Frag}
end
end Att
namespace L2
open PySem PySem.Spec PyProof.Rows
theorem YB:∀{vs:List Zg}{ns:List Int},ZbA vs ns->Vals (ns.map V.int) vs
 | _,_,.nil=>.nil
 | _,_,.cons n t h=>.cons ⟨t,rfl⟩ (YB h)
noncomputable def JU (s:ZcC)(j:Nat):ZcC:=match s with
 | .ClassDef _ _ _ body _ _ _ _ _ _ _=>body.getD j (.Pass ⟨0,0,0,0⟩)
 | _=>.Pass ⟨0,0,0,0⟩
def Q8 (s:ZcC):ZbP:=match s with
 | .FunctionDef _ a _ _ _ _ _ _ _ _=>a
 | _=>{ posonlyargs:=[],args:=[],vararg:=Zc,kwonlyargs:=[],kw_defaults:=[],kwarg:=Zc,defaults:=[] }
def Qh (s:ZcC):List ZcC:=match s with
 | .FunctionDef _ _ b _ _ _ _ _ _ _=>b
 | _=>[]
def JH (s:ZcC):Zbj:=match s with
 | .FunctionDef _ _ _ _ _ _ sc _ _ _=>sc
 | _=>{ kind:=.function,names:=[],isGenerator:=Zk,isCoroutine:=Zk }
abbrev CX0:CXT:=λ _ _ _ _ _ _=>False
structure Fun (K:W.Frag)(x qual:Str)(st:ZcC)(f:Zo)(fd:Za2):Prop where
 ex:∃(oc:Zg)(od:Option Zo)(kV doc pm:Zg)(an:Option Zo)(cdv ct:Zg)(osl:Array (Option Zg)),
  fd=W.fnOf x qual (Q8 st) (Qh st) (JH st) .none kV doc pm an cdv ct/\K.lookup f=Za ⟨oc,od,.func fd,osl⟩/\W.codeIn K cdv qual=Zi
 kp:W.keepIn K (.ref f)=Zi
section
variable {P:ZB}{w:Zab}{K:W.Frag}{mg:Str->Option Zg}{base:Zau}
theorem Fun.ok {x qual:Str}{st:ZcC}{f:Zo}{fd:Za2}{N ps:List Str}{k:Nat}{sp:Sp}(F:Fun K x qual st f fd)(S:FnScope N ps (JH st))(len:∀vs H Q E,sp vs H Q E->vs.length=ps.length)
  (hbody:∀(cdv:Zg)(A:ZK)(outer:List Env)(s:Zn)(H:Hp)(vs:List V)(Q:VK)(E:XK),Room k (A.deeper (Zd3 qual (JH st) s.heap.objs.size f cdv))->sp vs H Q E ->
   ∃t,PSs (cxOf CX0 P w K mg base N qual (JH st) f cdv A outer s H E).nox (Qh st) t/\t { nx:=λ _ H'=>Q .non H',rt:=Q } (start N vs) H):FnOk P w K mg base CX0 (k+1) f fd ps sp:=by
 obtain⟨oc,od,kV,doc,pm,an,cdv,ct,osl,rfl,lk,hcd⟩:=F.ex
 refine Jz2 lk hcd S len λ A outer s H vs Q E hr hsp=>?_
 obtain⟨t,h,q⟩:=hbody cdv A outer s H vs Q E hr hsp
 exact⟨t,h.nox,q⟩
theorem Fun.binds {x qual:Str}{st:ZcC}{f:Zo}{fd:Za2}{ps:List Str}(F:Fun K x qual st f fd)
  (h:∀(kV doc pm:Zg)(an:Option Zo)(cdv ct:Zg)(us:List Zg),us.length=ps.length->Zdp (W.fnOf x qual (Q8 st) (Qh st) (JH st) .none kV doc pm an cdv ct) ⟨us,[]⟩=pure (ps.zip us)):Qn K fd ps []:=by
 obtain⟨oc,od,kV,doc,pm,an,cdv,ct,osl,rfl,lk,hcd⟩:=F.ex
 exact .all (h kV doc pm an cdv ct)
end
section
variable {X:Cx}
end
def Same (H H':Hp):Prop:=∀b o,H b=Za o->H' b=Za o
theorem Same.refl (H:Hp):Same H H:=λ _ _ h=>h
theorem Same.trans {H H1 H2:Hp}(a:Same H H1)(b:Same H1 H2):Same H H2:=λ c o h=>b c o (a c o h)
theorem Same.free {H H':Hp}(e:Same H H'){l:Zo}(h:H' l=Option.none):H l=Option.none:=by
 cases q:H l with
 | none=>rfl
 | some o =>
  rw[e l o q] at h
  cases h
theorem Same.seq {K:W.Frag}{H H':Hp}{a:Zo}{xs:List V}(e:Same H H')(h:SqL K H a xs):SqL K H' a xs:=by
 rcases h with(h|⟨o,h⟩)|h
 ·exact .inl (.inl (e _ _ h))
 ·exact .inl (.inr ⟨o,e _ _ h⟩)
 ·exact .inr h
end L2
set_option maxHeartbeats 4000000
namespace L3
open PySem PySem.Spec PyProof.Rows L2
inductive IV where
 | non|bl (b:Bool)|int (i:Int)|str (x:Str)|tup (xs:List IV)|rol (xs:List IV)|ref (i:Nat)
inductive IX where
 | lst (xs:List IV)
 | ins (c:Str) (fs:List (Str×IV))
 | dct (kvs:List (Key×IV))
 | exc (c:Str) (fs:List (Str×IV))
 | tab (q:Str)
 | hld (c:Str) (fs:List (Str×IV))
abbrev IH:=List IX
abbrev ISt:=List (Option IV)
inductive Res (α:Type) where
 | ok (a:α) (h:IH)|exc (n:Nat) (h:IH)|stuck
noncomputable def Res.bind {α β:Type}:Res α->(α->IH->Res β)->Res β
 | .ok a h,f=>f a h
 | .exc n h,_=>.exc n h
 | .stuck,_=>.stuck
inductive SRes where
 | next (σ:ISt) (h:IH)|ret (v:IV) (h:IH)|brk (σ:ISt) (h:IH)|cont (σ:ISt) (h:IH)|exc (n:Nat) (σ:ISt) (h:IH)|stuck
def SqR (K:W.Frag)(H:Hp)(a:Zo)(xs:List V):Prop :=
 (∃o,H a=Za (.frz o (.lst xs))) ∨
  ∃(o:Obj) (its:Array Zg) (n:Nat),K.lookup a=Za o/\o.cls=.type "list"/\o.dict=Zc/\o.data=.seq its n/\its.size<=sizeLine/\Vals xs its.toList
theorem SqR.sq {K:W.Frag}{H:Hp}{a:Zo}{xs:List V}(h:SqR K H a xs):SqL K H a xs:=by
 rcases h with⟨o,h⟩|h
 ·exact .inl (.inr ⟨o,h⟩)
 ·exact .inr h
mutual
def RV (K:W.Frag)(ι:List Zo)(H:Hp):IV->V->Prop
 | .non,v=>v=.non
 | .bl b,v=>v=.bl b
 | .int i,v=>v=.int i
 | .str x,v=>v=.str x
 | .tup xs,v=>∃a vs,v=.ref a/\SqT K H a vs/\RVs K ι H xs vs
 | .rol xs,v=>∃a vs,v=.ref a/\SqR K H a vs/\RVs K ι H xs vs
 | .ref i,v=>∃a,v=.ref a/\ι[i]?=Za a
def RVs (K:W.Frag)(ι:List Zo)(H:Hp):List IV->List V->Prop
 | [],vs=>vs=[]
 | x::xs,vs=>∃v r,vs=v::r/\RV K ι H x v/\RVs K ι H xs r
end
structure Ext (H H':Hp):Prop where
 tups:∀b xs,H b=Za (.tup xs)->H' b=Za (.tup xs)
 frzs:∀b o u,H b=Za (.frz o u)->H' b=Za (.frz o u)
structure Nxt (ι:List Zo)(H:Hp)(ι':List Zo)(H':Hp):Prop where
 pre:∃m,ι'=ι++m
 ext:Ext H H'
theorem Nxt.refl:Nxt ι H ι H:=⟨⟨[],03⟩,⟨λ _ _ h=>h,λ _ _ _ h=>h⟩⟩
theorem Nxt.trans (a:Nxt ι H ι1 H1)(b:Nxt ι1 H1 ι2 H2):Nxt ι H ι2 H2:=by
 obtain⟨⟨m,e⟩,x⟩:=a
 obtain⟨⟨m',e'⟩,y⟩:=b
 exact⟨⟨m++m',by rw[e',e,ZZ]⟩,⟨λ b xs h=>y.tups b xs (x.tups b xs h),λ b o u h=>y.frzs b o u (x.frzs b o u h)⟩⟩
theorem Nxt.at (n:Nxt ι H ι' H'){i:Nat}(h:ι[i]?=Za a):ι'[i]?=Za a:=by
 obtain⟨⟨m,e⟩,_⟩:=n
 subst e
 rw[ZC (Zq.mp h).1]
 exact h
theorem Ext.rd (x:Ext H H')(h:Rd H a (.tup xs)):Rd H' a (.tup xs):=by
 rcases h with h|⟨o,h⟩
 ·exact .inl (x.tups _ _ h)
 ·exact .inr ⟨o,x.frzs _ _ _ h⟩
theorem Ext.sqT {K:W.Frag}{H H':Hp}(x:Ext H H'){a:Zo}{xs:List V}(h:SqT K H a xs):SqT K H' a xs:=by
 rcases h with h|h
 ·exact .inl (x.rd h)
 ·exact .inr h
theorem Ext.sqR {K:W.Frag}{H H':Hp}(x:Ext H H'){a:Zo}{xs:List V}(h:SqR K H a xs):SqR K H' a xs:=by
 rcases h with⟨o,h⟩|h
 ·exact .inl ⟨o,x.frzs _ _ _ h⟩
 ·exact .inr h
mutual
theorem RV.mono {K:W.Frag}{ι ι':List Zo}{H H':Hp}(n:Nxt ι H ι' H'):∀(x:IV)(v:V),RV K ι H x v->RV K ι' H' x v
 | .non,_,h=>h
 | .bl _,_,h=>h
 | .int _,_,h=>h
 | .str _,_,h=>h
 | .tup xs,_,h=>by
  obtain⟨a,vs,e,q,r⟩:=h
  exact⟨a,vs,e,n.ext.sqT q,RVs.mono n xs vs r⟩
 | .rol xs,_,h=>by
  obtain⟨a,vs,e,q,r⟩:=h
  exact⟨a,vs,e,n.ext.sqR q,RVs.mono n xs vs r⟩
 | .ref i,_,h=>by
  obtain⟨a,e,q⟩:=h
  exact⟨a,e,n.at q⟩
theorem RVs.mono {K:W.Frag}{ι ι':List Zo}{H H':Hp}(n:Nxt ι H ι' H'):∀(xs:List IV)(vs:List V),RVs K ι H xs vs->RVs K ι' H' xs vs
 | [],_,h=>h
 | x::xs,_,h=>by
  obtain⟨v,r,e,q,t⟩:=h
  exact⟨v,r,e,RV.mono n x v q,RVs.mono n xs r t⟩
end
theorem RVs.length {K:W.Frag}{ι:List Zo}{H:Hp}:∀{xs:List IV}{vs:List V},RVs K ι H xs vs->vs.length=xs.length
 | [],_,h=>by
  have e:_=[]:=h
  subst e
  rfl
 | x::xs,_,h=>by
  obtain⟨v,r,e,_,t⟩:=h
  subst e
  simp[RVs.length t]
theorem RVs.get {K:W.Frag}{ι:List Zo}{H:Hp}:∀{xs:List IV}{vs:List V}{i:Nat}{x:IV},RVs K ι H xs vs->xs[i]?=Za x->∃v,vs[i]?=Za v/\RV K ι H x v
 | [],_,_,_,_,e=>by simp at e
 | x::xs,_,0,y,h,e=>by
  obtain⟨v,r,e1,q,t⟩:=h
  subst e1
  simp at e
  subst e
  exact⟨v,rfl,q⟩
 | x::xs,_,i+1,y,h,e=>by
  obtain⟨v,r,e1,q,t⟩:=h
  subst e1
  obtain⟨u,h1,h2⟩:=RVs.get (i:=i) (x:=y) t (by simpa using e)
  exact⟨u,by simpa using h1,h2⟩
theorem RVs.get' {K:W.Frag}{ι:List Zo}{H:Hp}{xs:List IV}{vs:List V}{i:Nat}{v:V}(h:RVs K ι H xs vs)(e:vs[i]?=Za v):∃x,xs[i]?=Za x/\RV K ι H x v:=by
 have hl:=h.length
 have hi:i<vs.length:=(Zq.mp e).1
 have hx:xs[i]?=Za xs[i]:=Zb 00
 obtain⟨u,h1,h2⟩:=h.get hx
 rw[e] at h1
 cases h1
 exact⟨_,hx,h2⟩
theorem RVs.append {K:W.Frag}{ι:List Zo}{H:Hp}:∀{xs ys:List IV}{vs us:List V},RVs K ι H xs vs->RVs K ι H ys us->RVs K ι H (xs++ys) (vs++us)
 | [],_,_,_,h,g=>by
  have e:_=[]:=h
  subst e
  exact g
 | x::xs,_,_,_,h,g=>by
  obtain⟨v,r,e,q,t⟩:=h
  subst e
  exact⟨v,_,rfl,q,RVs.append t g⟩
theorem RVs.take {K:W.Frag}{ι:List Zo}{H:Hp}:∀{xs:List IV}{vs:List V}(n:Nat),RVs K ι H xs vs->RVs K ι H (xs.take n) (vs.take n)
 | _,_,0,_=>by simp;exact rfl
 | [],_,n+1,h=>by
  have e:_=[]:=h
  subst e
  exact rfl
 | x::xs,_,n+1,h=>by
  obtain⟨v,r,e,q,t⟩:=h
  subst e
  exact⟨v,r.take n,rfl,q,RVs.take n t⟩
theorem RVs.drop {K:W.Frag}{ι:List Zo}{H:Hp}:∀{xs:List IV}{vs:List V}(n:Nat),RVs K ι H xs vs->RVs K ι H (xs.drop n) (vs.drop n)
 | _,_,0,h=>h
 | [],_,n+1,h=>by
  have e:_=[]:=h
  subst e
  exact rfl
 | x::xs,_,n+1,h=>by
  obtain⟨v,r,e,q,t⟩:=h
  subst e
  exact RVs.drop n t
theorem RVs.set {K:W.Frag}{ι:List Zo}{H:Hp}{x:IV}{v:V}(q:RV K ι H x v):∀{xs:List IV}{vs:List V}(i:Nat),RVs K ι H xs vs->RVs K ι H (xs.set i x) (vs.set i v)
 | [],_,_,h=>by
  have e:_=[]:=h
  subst e
  exact rfl
 | y::xs,_,0,h=>by
  obtain⟨u,r,e,_,t⟩:=h
  subst e
  exact⟨v,r,rfl,q,t⟩
 | y::xs,_,i+1,h=>by
  obtain⟨u,r,e,p,t⟩:=h
  subst e
  exact⟨u,r.set i v,rfl,p,RVs.set q i t⟩
theorem RVs.one {K:W.Frag}{ι:List Zo}{H:Hp}{x:IV}{v:V}(q:RV K ι H x v):RVs K ι H [x] [v]:=⟨v,[],rfl,q,rfl⟩
theorem RVs.rev {K:W.Frag}{ι:List Zo}{H:Hp}:∀{xs:List IV}{vs:List V},RVs K ι H xs vs->RVs K ι H xs.reverse vs.reverse
 | [],_,h=>by
  have e:_=[]:=h
  subst e
  exact rfl
 | x::xs,_,h=>by
  obtain⟨v,r,e,q,t⟩:=h
  subst e
  rw[ZbR,ZbR]
  exact RVs.append (RVs.rev t) (RVs.one q)
theorem RVs.eraseIdx {K:W.Frag}{ι:List Zo}{H:Hp}:∀{xs:List IV}{vs:List V}(i:Nat),RVs K ι H xs vs->RVs K ι H (xs.eraseIdx i) (vs.eraseIdx i)
 | [],_,_,h=>by
  have e:_=[]:=h
  subst e
  exact rfl
 | x::xs,_,0,h=>by
  obtain⟨v,r,e,q,t⟩:=h
  subst e
  exact t
 | x::xs,_,i+1,h=>by
  obtain⟨v,r,e,q,t⟩:=h
  subst e
  exact⟨v,r.eraseIdx i,rfl,q,RVs.eraseIdx i t⟩
theorem RVs.ints {K:W.Frag}{ι:List Zo}{H:Hp}:∀(ns:List Int),RVs K ι H (ns.map IV.int) (ns.map V.int)
 | []=>rfl
 | _::ns=>⟨_,_,rfl,rfl,RVs.ints ns⟩
def RPs {κ:Type}(K:W.Frag)(ι:List Zo)(H:Hp):List (κ×IV)->List (κ×V)->Prop
 | [],vs=>vs=[]
 | x::xs,vs=>∃v r,vs=(x.1,v)::r/\RV K ι H x.2 v/\RPs K ι H xs r
theorem RPs.mono {κ:Type}{K:W.Frag}{ι ι':List Zo}{H H':Hp}(n:Nxt ι H ι' H'):∀(xs:List (κ×IV))(vs:List (κ×V)),RPs K ι H xs vs->RPs K ι' H' xs vs
 | [],_,h=>h
 | x::xs,_,h=>by
  obtain⟨v,r,e,q,t⟩:=h
  exact⟨v,r,e,RV.mono n _ v q,RPs.mono n xs r t⟩
theorem RPs.length {κ:Type}{K:W.Frag}{ι:List Zo}{H:Hp}:∀{xs:List (κ×IV)}{vs:List (κ×V)},RPs K ι H xs vs->vs.length=xs.length
 | [],_,h=>by
  have e:_=[]:=h
  subst e
  rfl
 | x::xs,_,h=>by
  obtain⟨v,r,e,_,t⟩:=h
  subst e
  simp[RPs.length t]
theorem RPs.lookup {κ:Type}[BEq κ]{K:W.Frag}{ι:List Zo}{H:Hp}{f:κ}:∀{xs:List (κ×IV)}{vs:List (κ×V)},RPs K ι H xs vs ->
  (∀x,xs.lookup f=Za x->∃v,vs.lookup f=Za v/\RV K ι H x v)/\(xs.lookup f=Zc->vs.lookup f=Zc)
 | [],_,h=>by
  have e:_=[]:=h
  subst e
  exact⟨λ x e=>by simp at e,λ _=>rfl⟩
 | (k,x)::xs,_,h=>by
  obtain⟨v,r,e,q,t⟩:=h
  subst e
  have ih:=RPs.lookup (f:=f) t
  simp only[Zag]
  cases hb:f==k with
  | true=>exact⟨λ y e=>by cases e;exact⟨v,rfl,q⟩,λ e=>by cases e⟩
  | false=>exact ih
def QI (H:Hp)(q:Str)(cv:Zg):Prop:=∃c oc vs t,cv=.ref c/\H c=Za (.frz oc (.own 0))/\oc.data=.fields vs/\vs[1]?=Za (.str (q++".<locals>."++"<lambda>") t)
def TabO (K:W.Frag)(H:Hp)(q:Str)(a:Zo):Prop:=(∀cdv,W.codeIn K cdv q=Zi->∃c,cdv=.ref c/\W.codeHdIn K c a=Zi) /\
 ∃ps,H a=Za (.tbl ps)/\TriplesOk ps.toList/\∀pos cv,Zdr pos ps.toList=Za cv->QI H q cv
theorem TabO.mono {K:W.Frag}{H H':Hp}{q:Str}{a:Zo}(fz:∀b o u,H b=Za (.frz o u)->H' b=Za (.frz o u))(k:∀u,H a=Za u->H' a=Za u)(h:TabO K H q a):TabO K H' q a:=by
 obtain⟨h1,ps,e,ht,hc⟩:=h
 refine⟨h1,ps,k _ e,ht,λ pos cv q=>?_⟩
 obtain⟨c,oc,vs,t,e1,e2,r⟩:=hc pos cv q
 exact⟨c,oc,vs,t,e1,fz _ _ _ e2,r⟩
def ExF (a C:Zo)(tv:Zg)(d:Option Zo):HO:=.ext λ h=>∃oe vs,h.get? a=Za oe/\oe.cls=.ref C/\oe.data=.fields vs/\vs[1]?=Za tv/\vs[2]?=Za .none/\oe.dict=d
def XV (ι:List Zo):IV->Zg->Prop
 | .int i,u=>∃t,u=.int i t
 | .ref j,u=>∃b,u=.ref b/\ι[j]?=Za b
 | _,_=>False
def XdOk (ι:List Zo)(H:Hp)(d:Option Zo)(fs:List (Str×IV)):Prop:=(fs=[]/\d=Zc)∨∃f v dx od u,fs=[(f,v)]/\d=Za dx/\H dx=Za (.frz od (.own 0))/\W.lookIn f od=Za (Za u)/\XV ι v u
theorem XdOk.mono (fz:∀b o u,H b=Za (.frz o u)->H' b=Za (.frz o u))(h:XdOk ι H d fs):XdOk ι H' d fs:=by
 rcases h with h|⟨f,i,dx,od,t,e,q,r,z⟩
 ·exact .inl h
 ·exact .inr ⟨f,i,dx,od,t,e,q,fz _ _ _ r,z⟩
theorem XdOk.nxt (n:Nxt ι H ι' H')(h:XdOk ι H d fs):XdOk ι' H' d fs:=by
 rcases h with h|⟨f,v,dx,od,t,e,q,r,z,x⟩
 ·exact .inl h
 ·refine .inr ⟨f,v,dx,od,t,e,q,n.ext.frzs _ _ _ r,z,?_⟩
  cases v with
  | ref j =>
   obtain⟨b,e,q⟩:=x
   obtain⟨⟨m,rfl⟩,_⟩:=n
   exact⟨b,e,by rw[ZC (Zq.mp q).1];exact q⟩
  | _=>exact x
def TvOk (H:Hp)(tv:Zg):Prop:=tv=.none∨∃T oT ts,tv=.ref T/\H T=Za (.frz oT (.own 0))/\oT.data=.fields ts/\ts[3]?=Za .none
theorem TvOk.mono (fz:∀b o u,H b=Za (.frz o u)->H' b=Za (.frz o u))(h:TvOk H tv):TvOk H' tv:=by
 rcases h with h|⟨T,oT,ts,e,q,r⟩
 ·exact .inl h
 ·exact .inr ⟨T,oT,ts,e,fz _ _ _ q,r⟩
def RO (ce:CeT)(K:W.Frag)(ι:List Zo)(H:Hp)(a:Zo):IX->Prop
 | .lst xs=>∃vs,H a=Za (.lst vs)/\RVs K ι H xs vs
 | .ins c fs=>∃C dx vs,ce c=Za C/\H a=Za (.ins C dx vs)/\RPs K ι H fs vs
 | .dct kvs=>∃vs,H a=Za (.dK vs)/\RPs K ι H kvs vs
 | .exc c fs=>∃C tv d,XdOk ι H d fs/\W.nsIn K Z3 c=Za (Za (.ref C))/\H a=Za (ExF a C tv d)/\TvOk H tv
 | .tab q=>TabO K H q a
 | .hld c fs=>∃C oe u vs,XdOk ι H oe.dict fs/\W.nsIn K Z3 c=Za (Za (.ref C))/\H a=Za (.frz oe u)/\oe.cls=.ref C/\oe.data=.fields vs/\vs[2]?=Za .none
theorem RO.some {ce:CeT}{K:W.Frag}{ι:List Zo}{H:Hp}{a:Zo}{o:IX}(h:RO ce K ι H a o):∃u,H a=Za u:=by
 cases o with
 | lst xs=>obtain⟨vs,e,_⟩:=h;exact⟨_,e⟩
 | ins c fs=>obtain⟨_,_,vs,_,e,_⟩:=h;exact⟨_,e⟩
 | dct kvs=>obtain⟨vs,e,_⟩:=h;exact⟨_,e⟩
 | exc c fs=>obtain⟨C,tv,d,_,_,e,_⟩:=h;exact⟨_,e⟩
 | tab q=>obtain⟨_,ps,e,_⟩:=h;exact⟨_,e⟩
 | hld c fs=>obtain⟨_,_,_,_,_,_,e,_⟩:=h;exact⟨_,e⟩
theorem RO.mono {ce:CeT}{K:W.Frag}{ι ι':List Zo}{H H':Hp}{a:Zo}{o:IX}(n:Nxt ι H ι' H')(k:∀u,H a=Za u->H' a=Za u)(h:RO ce K ι H a o):RO ce K ι' H' a o:=by
 cases o with
 | lst xs=>obtain⟨vs,e,r⟩:=h;exact⟨vs,k _ e,RVs.mono n _ _ r⟩
 | ins c fs=>obtain⟨C,dx,vs,c1,e,r⟩:=h;exact⟨C,dx,vs,c1,k _ e,RPs.mono n _ _ r⟩
 | dct kvs=>obtain⟨vs,e,r⟩:=h;exact⟨vs,k _ e,RPs.mono n _ _ r⟩
 | exc c fs=>obtain⟨C,tv,d,e0,c1,e,r⟩:=h;exact⟨C,tv,d,e0.nxt n,c1,k _ e,r.mono n.ext.frzs⟩
 | tab q=>exact TabO.mono n.ext.frzs k h
 | hld c fs=>obtain⟨C,oe,u,vs,e0,c1,e,r⟩:=h;exact⟨C,oe,u,vs,e0.nxt n,c1,k _ e,r⟩
structure Rel (ce:CeT)(K:W.Frag)(ι:List Zo)(h:IH)(H:Hp):Prop where
 len:ι.length=h.length
 nd:ι.Nodup
 at_:∀(i:Nat)(o:IX),h[i]?=Za o->∃a,ι[i]?=Za a/\RO ce K ι H a o
section
variable {ce:CeT}{K:W.Frag}{ι:List Zo}{h:IH}{H:Hp}
theorem Rel.some (R:Rel ce K ι h H){i:Nat}(e:ι[i]?=Za a):∃u,H a=Za u:=by
 have hi:i<h.length:=by rw[<- R.len];exact(Zq.mp e).1
 obtain⟨b,e',r⟩:=R.at_ i _ (Zb hi)
 rw[e] at e'
 cases e'
 exact r.some
theorem Rel.notin (R:Rel ce K ι h H)(e:H l=Zc):l∉ι:=λ hl=>by
 obtain⟨i,hi,q⟩:=ZA.mp hl
 obtain⟨u,hu⟩:=R.some (i:=i) (a:=l) (by rw[Zb hi,q])
 rw[e] at hu
 cases hu
theorem Ext.upd_new (e:H l=Zc):Ext H (upd H l o) :=
 ⟨λ b xs q=>by rw[Jx (Vp q e)];exact q,λ b o u q=>by rw[Jx (Vp q e)];exact q⟩
theorem Rel.grow (R:Rel ce K ι h H)(e:H l=Zc):Rel ce K ι h (upd H l o)/\Nxt ι H ι (upd H l o):=by
 have n:Nxt ι H ι (upd H l o):=⟨⟨[],03⟩,Ext.upd_new e⟩
 refine⟨⟨R.len,R.nd,λ i u q=>?_⟩,n⟩
 obtain⟨a,e1,r⟩:=R.at_ i u q
 exact⟨a,e1,r.mono n λ w hw=>by rw[Jx (Vp hw e)];exact hw⟩
theorem Rel.alloc (R:Rel ce K ι h H)(e:H l=Zc)(r:RO ce K (ι++[l]) (upd H l o) l io):Rel ce K (ι++[l]) (h++[io]) (upd H l o)/\Nxt ι H (ι++[l]) (upd H l o):=by
 have n:Nxt ι H (ι++[l]) (upd H l o):=⟨⟨[l],rfl⟩,Ext.upd_new e⟩
 refine⟨⟨by simp[R.len],?_,λ i u q=>?_⟩,n⟩
 ·rw[List.nodup_append]
  refine⟨R.nd,03,λ a ha b hb=>?_⟩
  have:b=l:=by simpa using hb
  subst this
  rintro rfl
  exact R.notin e ha
 ·by_cases hi:i<h.length
  ·rw[ZC hi] at q
   obtain⟨a,e1,r1⟩:=R.at_ i u q
   exact⟨a,n.at e1,r1.mono n λ w hw=>by rw[Jx (Vp hw e)];exact hw⟩
  ·have hi2:i=h.length:=by
    have:=(Zq.mp q).1
    simp at this
    omega
   subst hi2
   rw[Z9 (Zp _)] at q
   simp at q
   subst q
   refine⟨l,?_,r⟩
   rw[<- R.len,Z9 (Zp _)]
   simp
theorem Rel.inj (R:Rel ce K ι h H){i j:Nat}(e1:ι[i]?=Za a)(e2:ι[j]?=Za a):i=j:=by
 obtain⟨h1,q1⟩:=Zq.mp e1
 obtain⟨h2,q2⟩:=Zq.mp e2
 exact(Zdm R.nd).mp (q1.trans q2.symm)
theorem Ext.upd_mut (e:H l=Za u)(m:Mut (H l)):Ext H (upd H l o):=by
 refine⟨λ b xs q=>?_,λ b ob w q=>?_⟩
 ·by_cases hb:b=l
  ·subst hb
   rw[q] at m
   exact Zf m
  ·rw[Jx hb];exact q
 ·by_cases hb:b=l
  ·subst hb
   rw[q] at m
   exact Zf m
  ·rw[Jx hb];exact q
theorem Rel.write (R:Rel ce K ι h H)(e:ι[i]?=Za a)(ha:H a=Za u)(m:Mut (H a))(r:RO ce K ι (upd H a o) a io):Rel ce K ι (h.set i io) (upd H a o)/\Nxt ι H ι (upd H a o):=by
 have n:Nxt ι H ι (upd H a o):=⟨⟨[],03⟩,Ext.upd_mut ha m⟩
 refine⟨⟨by simp[R.len],R.nd,λ j w q=>?_⟩,n⟩
 by_cases hj:j=i
 ·subst hj
  have hl:j<h.length:=by
   have:=(Zq.mp q).1
   simpa using this
  rw[ZW hl] at q
  cases q
  exact⟨a,e,r⟩
 ·rw[Zaa (ZR hj)] at q
  obtain⟨b,e1,r1⟩:=R.at_ j w q
  refine⟨b,e1,r1.mono n λ v hv=>?_⟩
  have:b≠a:=by
   rintro rfl
   exact hj (R.inj e1 e)
  rw[Jx this]
  exact hv
end
structure RSt (K:W.Frag)(ι:List Zo)(H:Hp)(σi:ISt)(σ:L2.St):Prop where
 len:σi.length=σ.length
 at_:∀(j:Nat)(v:IV),σi[j]?=Za (Za v)->∃u,σ[j]?=Za (Za u)/\RV K ι H v u
theorem RSt.mono {K:W.Frag}{ι ι':List Zo}{H H':Hp}{σi:ISt}{σ:L2.St}(n:Nxt ι H ι' H')(r:RSt K ι H σi σ):RSt K ι' H' σi σ :=
 ⟨r.len,λ j v e=>let ⟨u,e1,q⟩:=r.at_ j v e;⟨u,e1,RV.mono n _ _ q⟩⟩
theorem RSt.set {K:W.Frag}{ι:List Zo}{H:Hp}{σi:ISt}{σ:L2.St}(r:RSt K ι H σi σ)(i:Nat){x:IV}{v:V}(q:RV K ι H x v):RSt K ι H (σi.set i (Za x)) (σ.set i (Za v)):=by
 refine⟨by simp[r.len],λ j w e=>?_⟩
 by_cases hj:j=i
 ·subst hj
  have hl:j<σi.length:=by
   have:=(Zq.mp e).1
   simpa using this
  rw[ZW hl] at e
  cases e
  exact⟨v,by rw[ZW (by rw[<- r.len];exact hl)],q⟩
 ·rw[Zaa (ZR hj)] at e
  obtain⟨u,e1,q1⟩:=r.at_ j w e
  exact⟨u,by rw[Zaa (ZR hj)];exact e1,q1⟩
structure Now (ce:CeT)(X:Cx)(pj:PnT)(ι:List Zo)(σi:ISt)(h:IH)(σ:L2.St)(H:Hp)(s:Zn):Prop where
 inv:Inv X pj σ H s
 rel:Rel ce X.K ι h H
 st:RSt X.K ι H σi σ
def RU (K:W.Frag)(ι:List Zo)(H:Hp)(v:IV)(u:Zg):Prop:=∃x,RelV x u/\RV K ι H v x
theorem RU.mono {K:W.Frag}{ι ι':List Zo}{H H':Hp}{v:IV}{u:Zg}(n:Nxt ι H ι' H')(r:RU K ι H v u):RU K ι' H' v u :=
 let ⟨x,a,b⟩:=r;⟨x,a,RV.mono n _ _ b⟩
def RUs (K:W.Frag)(ι:List Zo)(H:Hp)(vs:List IV)(us:List Zg):Prop:=∃xs,Vals xs us/\RVs K ι H vs xs
theorem RUs.mono {K:W.Frag}{ι ι':List Zo}{H H':Hp}{v:List IV}{u:List Zg}(n:Nxt ι H ι' H')(r:RUs K ι H v u):RUs K ι' H' v u :=
 let ⟨x,a,b⟩:=r;⟨x,a,RVs.mono n _ _ b⟩
abbrev REL (α β:Type):=W.Frag->List Zo->Hp->α->β->Prop
def RB:REL Bool Bool:=λ _ _ _ b c=>c=b
section
variable {α β γ δ:Type}
def Kont (ce:CeT)(X:Cx)(R:REL α β)(pj:PnT)(ι:List Zo)(σi:ISt)(σ:L2.St)(H:Hp)(r:Res α)(Q:β->Zn->Prop)(E:QvT):Prop :=
 match r with
 | .ok v h'=>∀u s' H' ι',Now ce X pj ι' σi h' σ H' s'->Nxt ι H ι' H'->R X.K ι' H' v u->Q u s'
 | .exc n h'=>∀pl a s' H' ι',Now ce X (pj++pl) ι' σi h' σ H' s'->Nxt ι H ι' H'->ι'[n]?=Za a->E (.ref a) s'
 | .stuck=>False
variable {ce:CeT}{X:Cx}{R:REL α β}{R':REL γ δ}{pj:PnT}{ι ι':List Zo}{σi:ISt}{σ:L2.St}{H H':Hp}
theorem Kont.mono (k:Kont ce X R pj ι σi σ H r Q E)(n:Nxt ι H ι' H'):Kont ce X R pj ι' σi σ H' r Q E:=by
 cases r with
 | ok v h'=>exact λ u s' H2 ι2 N n2 q=>k u s' H2 ι2 N (n.trans n2) q
 | exc m h'=>exact λ pl a s' H2 ι2 N n2 q=>k pl a s' H2 ι2 N (n.trans n2) q
 | stuck=>exact k
def PX (ce:CeT)(X:Cx)(R:REL α β)(t:Sem β)(m:ISt->IH->Res α):Prop :=
 ∀(pj:PnT)(s:Zn)(σ:L2.St)(H:Hp)(ι:List Zo)(σi:ISt)(h:IH)(Q:β->Zn->Prop)(E:QvT),Now ce X pj ι σi h σ H s->Kont ce X R pj ι σi σ H (m σi h) Q E ->
  Zy (Z8 X.prog X.w) X.A t Q E s
theorem PX.run (p:PX ce X R t m)(N:Now ce X pj ι σi h σ H s){g:α->IH->Res γ}{Q:δ->Zn->Prop}{E:QvT}{Q1:β->Zn->Prop} 
  (K:Kont ce X R' pj ι σi σ H ((m σi h).bind g) Q E)
  (step:∀x h1 u s1 H1 ι1,Now ce X pj ι1 σi h1 σ H1 s1->Nxt ι H ι1 H1->R X.K ι1 H1 x u->Kont ce X R' pj ι1 σi σ H1 (g x h1) Q E->Q1 u s1):Zy (Z8 X.prog X.w) X.A t Q1 E s:=by
 refine p pj s σ H ι σi h Q1 E N ?_
 cases e:m σi h with
 | ok v h' =>
  rw[e] at K
  exact λ u s' H' ι' N' n' r=>step v h' u s' H' ι' N' n' r (Kont.mono (r:=g v h') K n')
 | exc n h' =>
  rw[e] at K
  exact K
 | stuck =>
  rw[e] at K
  exact K
end
abbrev PEi (ce:CeT)(X:Cx)(e:Expr)(m:ISt->IH->Res IV):Prop:=PX ce X RU (ZaU e X.env) m
abbrev PTi (ce:CeT)(X:Cx)(e:Expr)(m:ISt->IH->Res Bool):Prop:=PX ce X RB (Zef e X.env (ZaU e X.env)) m
def PWi (ce:CeT)(X:Cx)(e:Expr)(m:ISt->IH->Res Bool):Prop:=∀whole:Sem Zg,PX ce X RB (Zef e X.env whole) m
def PAi (ce:CeT)(X:Cx)(es:List Expr)(m:ISt->IH->Res (List IV)):Prop:=∀pos:Pos,PX ce X RUs (spliced (Zbo pos (ZF es X.env))) m
abbrev E1:=ISt->IH->Res IV
abbrev T1:=ISt->IH->Res Bool
abbrev A1:=ISt->IH->Res (List IV)
noncomputable def Ja (i:Nat):E1:=λ σ h=>match σ[i]? with|some (Za v)=>.ok v h|_=>.stuck
noncomputable def eC (v:IV):E1:=λ _ h=>.ok v h
def Jb (f:IV->IV->IH->Res IV)(a b:E1):E1:=λ σ h=>(a σ h).bind λ x h1=>(b σ h1).bind λ y h2=>f x y h2
def eUn (f:IV->IH->Res IV)(a:E1):E1:=λ σ h=>(a σ h).bind λ x h1=>f x h1
def eAnd (a b:E1)(tr:IV->IH->Res Bool):E1:=λ σ h=>(a σ h).bind λ x h1=>(tr x h1).bind λ c h2=>if c then b σ h2 else .ok x h2
def eOr (a b:E1)(tr:IV->IH->Res Bool):E1:=λ σ h=>(a σ h).bind λ x h1=>(tr x h1).bind λ c h2=>if c then .ok x h2 else b σ h2
def eIf (t:T1)(a b:E1):E1:=λ σ h=>(t σ h).bind λ c h1=>if c then a σ h1 else b σ h1
def Qm (a b:T1):T1:=λ σ h=>(a σ h).bind λ c h1=>if c then b σ h1 else .ok Zk h1
def tOrI (a b:T1):T1:=λ σ h=>(a σ h).bind λ c h1=>if c then .ok Zi h1 else b σ h1
def JF (a:T1):T1:=λ σ h=>(a σ h).bind λ c h1=>.ok (!c) h1
def Jh (tr:IV->IH->Res Bool)(a:E1):T1:=λ σ h=>(a σ h).bind λ x h1=>tr x h1
noncomputable def Jd:A1:=λ _ h=>.ok [] h
def Jc (a:E1)(r:A1):A1:=λ σ h=>(a σ h).bind λ x h1=>(r σ h1).bind λ xs h2=>.ok (x::xs) h2
def Qa (f g:IV->IV->IH->Res IV)(a b c:E1):E1:=λ σ h=>(a σ h).bind λ x h1=>(b σ h1).bind λ y h2=>(f x y h2).bind λ k h3 =>
 match k with
 | .bl Zi=>(c σ h3).bind λ z h4=>g y z h4
 | .bl Zk=>.ok (.bl Zk) h3
 | _=>.stuck
section
variable {ce:CeT}{X:Cx}{a b c:Expr}{ma mb mc:E1}{pos:Pos}
def OpI (ce:CeT)(X:Cx)(f:Zg->Zg->Sem Zg)(g:IV->IV->IH->Res IV):Prop :=
 ∀(pj:PnT)(s:Zn)(σ:L2.St)(H:Hp)(ι:List Zo)(σi:ISt)(h:IH)(x y:IV)(v u:Zg)(Q:QvT)(E:QvT),Now ce X pj ι σi h σ H s->RU X.K ι H x v->RU X.K ι H y u ->
  Kont ce X RU pj ι σi σ H (g x y h) Q E->Zy (Z8 X.prog X.w) X.A (f v u) Q E s
def UnI (ce:CeT)(X:Cx)(f:Zg->Sem Zg)(g:IV->IH->Res IV):Prop :=
 ∀(pj:PnT)(s:Zn)(σ:L2.St)(H:Hp)(ι:List Zo)(σi:ISt)(h:IH)(x:IV)(v:Zg)(Q:QvT)(E:QvT),Now ce X pj ι σi h σ H s->RU X.K ι H x v ->
  Kont ce X RU pj ι σi σ H (g x h) Q E->Zy (Z8 X.prog X.w) X.A (f v) Q E s
def TrI (ce:CeT)(X:Cx)(g:IV->IH->Res Bool):Prop :=
 ∀(pj:PnT)(s:Zn)(σ:L2.St)(H:Hp)(ι:List Zo)(σi:ISt)(h:IH)(x:IV)(v:Zg)(Q:Bool->Zn->Prop)(E:QvT),Now ce X pj ι σi h σ H s->RU X.K ι H x v ->
  Kont ce X RB pj ι σi σ H (g x h) Q E->Zy (Z8 X.prog X.w) X.A (truthy v) Q E s
def QH (ce:CeT)(X:Cx)(f:Zg)(g:List IV->IH->Res IV):Prop :=
 ∀(pj:PnT)(s:Zn)(σ:L2.St)(H:Hp)(ι:List Zo)(σi:ISt)(h:IH)(xs:List IV)(us:List Zg)(Q:QvT)(E:QvT),Now ce X pj ι σi h σ H s->RUs X.K ι H xs us ->
  Kont ce X RU pj ι σi σ H (g xs h) Q E->Zy (Z8 X.prog X.w) X.A (call f us) Q E s
theorem XJ {pj:PnT}{s:Zn}{σ:L2.St}{H:Hp}{Q:QvT}{E:QvT}{e:Expr}{t:TE}(p:PE (X.wish E) e t)(I:Inv X pj σ H s)
  (k:t σ H λ z H'=>∀u s',Inv X pj σ H' s'->RelV z u->Q u s'):Zy (Z8 X.prog X.w) X.A (ZaU e X.env) Q E s :=
 Zaf (p pj s σ H _ (I.wish E) k) (λ u s' ⟨_,_,I',r,q⟩=>q u s' I'.unwish r) λ _ _ z=>z
theorem Qf {pj:PnT}{s:Zn}{σ:L2.St}{H:Hp}{Q:QvT}{E:QvT}{f:Zg->Zg->Sem Zg}{r:R2}{x y:V}{v u:Zg}(p:OpR (X.wish E) f r)(I:Inv X pj σ H s)(rx:RelV x v)(ry:RelV y u)
  (k:r x y H λ z H'=>∀u s',Inv X pj σ H' s'->RelV z u->Q u s'):Zy (Z8 X.prog X.w) X.A (f v u) Q E s :=
 Zaf (p pj s σ H x y v u _ (I.wish E) rx ry k) (λ u s' ⟨_,_,I',r,q⟩=>q u s' I'.unwish r) λ _ _ z=>z
theorem J2a {pj:PnT}{s:Zn}{σ:L2.St}{H:Hp}{Q:QvT}{E:QvT}{f:Zg->Sem Zg}{r:V->Hp->VK->Prop}{x:V}{v:Zg}(p:UnR (X.wish E) f r)(I:Inv X pj σ H s)(rx:RelV x v)
  (k:r x H λ z H'=>∀u s',Inv X pj σ H' s'->RelV z u->Q u s'):Zy (Z8 X.prog X.w) X.A (f v) Q E s :=
 Zaf (p pj s σ H x v _ (I.wish E) rx k) (λ u s' ⟨_,_,I',r,q⟩=>q u s' I'.unwish r) λ _ _ z=>z
theorem VO {pj:PnT}{s:Zn}{σ:L2.St}{H:Hp}{Q:Bool->Zn->Prop}{E:QvT}{r:V->Hp->(Bool->Hp->Prop)->Prop}{x:V}{v:Zg}(p:TruR (X.wish E) r)(I:Inv X pj σ H s)(rx:RelV x v)
  (k:r x H λ z H'=>∀s',Inv X pj σ H' s'->Q z s'):Zy (Z8 X.prog X.w) X.A (truthy v) Q E s :=
 Zaf (p pj s σ H x v _ (I.wish E) rx k) (λ _ s' ⟨_,I',q⟩=>q s' I'.unwish) λ _ _ z=>z
theorem Ve {pj:PnT}{s:Zn}{σ:L2.St}{H:Hp}{Q:QvT}{E:QvT}{f:Zg}{r:List V->Hp->VK->Prop}{xs:List V}{us:List Zg}(p:Xl (X.wish E) f r)(I:Inv X pj σ H s)(rx:Vals xs us)
  (k:r xs H λ z H'=>∀u s',Inv X pj σ H' s'->RelV z u->Q u s'):Zy (Z8 X.prog X.w) X.A (call f us) Q E s :=
 Zaf (p pj s σ H xs us _ (I.wish E) rx k) (λ u s' ⟨_,_,I',r,q⟩=>q u s' I'.unwish r) λ _ _ z=>z
theorem J28 (i:Nat){pos:Pos}(hN:X.N[i]?=Za x:=by rfl)(hv:Vis X.env.scope x:=by assumption)(hd:(x==("__debug__":Str))=Zk:=by decide) 
  (hcd:(x==("__classdict__":Str))=Zk:=by decide):PEi ce X (.Name x pos) (Ja i):=by
 intro pj s σ H ι σi h Q E N K
 unfold Ja at K
 cases e:σi[i]? with
 | none =>
  rw[e] at K
  exact Zf K
 | some o =>
  cases o with
  | none =>
   rw[e] at K
   exact Zf K
  | some v =>
   rw[e] at K
   obtain⟨u,e1,q⟩:=N.st.at_ i v e
   exact XJ (J1k (X:=X.wish E) hN hv hd hcd) N.inv ⟨u,e1,λ u' s' I' r'=>K u' s' H ι ⟨I',N.rel,N.st⟩ .refl ⟨u,r',q⟩⟩
theorem J22 {i j pos}:PEi ce X (.Constant (.int i) j pos) (eC (.int i)):=λ _ _ _ H ι _ _ _ E N K=>XJ (J1h (X:=X.wish E)) N.inv λ u' s' I' r'=>K u' s' H ι ⟨I',N.rel,N.st⟩ .refl ⟨_,r',rfl⟩
theorem i_bl {i j pos}:PEi ce X (.Constant (.bool i) j pos) (eC (.bl i)):=λ _ _ _ H ι _ _ _ E N K=>XJ (J3s (X:=X.wish E)) N.inv λ u' s' I' r'=>K u' s' H ι ⟨I',N.rel,N.st⟩ .refl ⟨_,r',rfl⟩
theorem J25 {j pos}:PEi ce X (.Constant .none j pos) (eC .non):=λ _ _ _ H ι _ _ _ E N K=>XJ (J1i (X:=X.wish E)) N.inv λ u' s' I' r'=>K u' s' H ι ⟨I',N.rel,N.st⟩ .refl ⟨_,r',rfl⟩
theorem J26 {i j pos}:PEi ce X (.Constant (.str i) j pos) (eC (.str i)):=λ _ _ _ H ι _ _ _ E N K=>XJ (J1j (X:=X.wish E)) N.inv λ u' s' I' r'=>K u' s' H ι ⟨I',N.rel,N.st⟩ .refl ⟨_,r',rfl⟩
theorem J0e (hg:Gl X x)(hm:X.mg x=Za u)(r:RelV v u)(q:∀ι H,RV X.K ι H iv v)(hd:(x==("__debug__":Str))=Zk:=by decide):PEi ce X (.Name x pos) (eC iv) :=
 λ _ _ _ H ι _ _ _ E N K=>XJ (Jyf (X:=X.wish E) hg hm r hd) N.inv λ u' s' I' r'=>K u' s' H ι ⟨I',N.rel,N.st⟩ .refl ⟨_,r',q _ _⟩
theorem J2y (ho:OpI ce X (ZaV op) f)(ha:PEi ce X a ma)(hb:PEi ce X b mb):PEi ce X (.BinOp a op b pos) (Jb f ma mb) :=
 λ pj s σ H ι σi h Q E N K=>wpAny_BinOp (ha.run N K λ x h1 u s1 H1 ι1 N1 n1 r1 K1=>hb.run N1 K1 λ y h2 w s2 H2 ι2 N2 n2 r2 K2=>ho pj s2 σ H2 ι2 σi h2 x y u w Q E N2 (r1.mono n2) r2 K2)
theorem i_un (ho:UnI ce X (unaryOp op) f)(ha:PEi ce X a ma):PEi ce X (.UnaryOp op a pos) (eUn f ma) :=
 λ pj s σ H ι σi h Q E N K=>UnaryOp_ (ha.run N K λ x h1 u s1 H1 ι1 N1 n1 r1 K1=>ho pj s1 σ H1 ι1 σi h1 x u Q E N1 r1 K1)
theorem J20 (ho:OpI ce X (Zav op) f)(ha:PEi ce X a ma)(hb:PEi ce X b mb)(hm:Zcm op b=Zk:=by assumption):PEi ce X (.Compare a [op] [b] pos) (Jb f ma mb) :=
 λ pj s σ H ι σi h Q E N K=>wpAny_Compare1 (ha.run N K λ x h1 u s1 H1 ι1 N1 n1 r1 K1=>hb.run N1 K1 λ y h2 w s2 H2 ι2 N2 n2 r2 K2=>ho pj s2 σ H2 ι2 σi h2 x y u w Q E N2 (r1.mono n2) r2 K2) hm
noncomputable def asB:IV->IH->Res Bool
 | .bl b,h=>.ok b h
 | _,_=>.stuck
theorem Kont.asB {r:Res IV}(K:Kont ce X RB pj ι σi σ H (r.bind asB) Q E) :
  Kont ce X RU pj ι σi σ H r (λ v s=>Zy (Z8 X.prog X.w) X.A (truthy v) Q E s) E:=by
 cases r with
 | exc n h=>exact K
 | stuck=>exact K
 | ok v h =>
  intro u s' H' ι' N n q
  obtain⟨x,rx,q⟩:=q
  cases v with
  | bl b =>
   have e:x=.bl b:=q
   subst e
   cases rx
   exact ZaK (K b s' H' ι' N n rfl)
  | _=>exact Zf K
theorem Res.bind_bind (r:Res α)(f:α->IH->Res β)(g:β->IH->Res γ):(r.bind f).bind g=r.bind λ x h=>(f x h).bind g:=by
 cases r<;>rfl
theorem J35 (ho:OpI ce X (Zav op) f)(ha:PEi ce X a ma)(hb:PEi ce X b mb)(hm:Zcm op b=Zk:=by assumption):PTi ce X (.Compare a [op] [b] pos) (Jh asB (Jb f ma mb)) :=
 λ pj s σ H ι σi h Q E N K=>by
  have K':Kont ce X RB pj ι σi σ H ((ma σi h).bind λ x h1=>(mb σi h1).bind λ y h2=>(f x y h2).bind asB) Q E:=by
   unfold Jh Jb at K
   rw[Res.bind_bind] at K
   simp only[Res.bind_bind] at K
   exact K
  exact wpAny_isTrue_Compare1 (ha.run N K' λ x h1 u s1 H1 ι1 N1 n1 r1 K1=>hb.run N1 K1 λ y h2 w s2 H2 ι2 N2 n2 r2 K2=>ho pj s2 σ H2 ι2 σi h2 x y u w _ E N2 (r1.mono n2) r2 (Kont.asB K2)) hm
theorem J15 {tr:IV->IH->Res Bool}(ht:TrI ce X tr)(ha:PEi ce X a ma)(he:∀whole,Zef a X.env whole=(do let v<-whole;ZdX a.pos;Zbp [v] (truthy v)):=by intro _;rfl):PTi ce X a (Jh tr ma) :=
 λ pj s σ H ι σi h Q E N K=>isTrue_plain (ha.run N K λ x h1 u s1 H1 ι1 N1 n1 r1 K1=>ht pj s1 σ H1 ι1 σi h1 x u Q E N1 r1 K1) (he _)
variable {rest:List Expr}{ta tb:T1}
theorem Jy4 (ha:PTi ce X a ta):PWi ce X (.BoolOp .And [a] pos) ta:=λ wh pj s σ H ι σi h Q E N K=>by
 refine isTrue_and (ha pj s σ H ι σi h _ E N ?_)
 cases e:ta σi h with
 | ok v h' =>
  rw[e] at K
  intro u s' H' ι' N' n' r
  have r':u=v:=r
  subst r'
  cases u with
  | true=>exact isTrue_and_nil (K Zi s' H' ι' N' n' rfl)
  | false=>exact K Zk s' H' ι' N' n' rfl
 | exc n h'=>rw[e] at K;exact K
 | stuck=>rw[e] at K;exact K
theorem J18 (ha:PTi ce X a ta):PWi ce X (.BoolOp .Or [a] pos) ta:=λ wh pj s σ H ι σi h Q E N K=>by
 refine isTrue_or (ha pj s σ H ι σi h _ E N ?_)
 cases e:ta σi h with
 | ok v h' =>
  rw[e] at K
  intro u s' H' ι' N' n' r
  have r':u=v:=r
  subst r'
  cases u with
  | false=>exact isTrue_or_nil (K Zk s' H' ι' N' n' rfl)
  | true=>exact K Zi s' H' ι' N' n' rfl
 | exc n h'=>rw[e] at K;exact K
 | stuck=>rw[e] at K;exact K
theorem J17 (ha:PTi ce X a ta)(hb:PWi ce X (.BoolOp .And (b::rest) pos) tb):PWi ce X (.BoolOp .And (a::b::rest) pos) (Qm ta tb):=λ wh pj s σ H ι σi h Q E N K =>
 isTrue_and (ha.run N K λ c h1 u s1 H1 ι1 N1 n1 r1 K1=>by
  have r':u=c:=r1
  subst r'
  cases u with
  | true=>exact hb wh pj s1 σ H1 ι1 σi h1 Q E N1 K1
  | false=>exact K1 Zk s1 H1 ι1 N1 .refl rfl)
theorem J39 (ha:PTi ce X a ta)(hb:PWi ce X (.BoolOp .Or (b::rest) pos) tb):PWi ce X (.BoolOp .Or (a::b::rest) pos) (tOrI ta tb):=λ wh pj s σ H ι σi h Q E N K =>
 isTrue_or (ha.run N K λ c h1 u s1 H1 ι1 N1 n1 r1 K1=>by
  have r':u=c:=r1
  subst r'
  cases u with
  | false=>exact hb wh pj s1 σ H1 ι1 σi h1 Q E N1 K1
  | true=>exact K1 Zi s1 H1 ι1 N1 .refl rfl)
theorem PWi.t (h:PWi ce X a ta):PTi ce X a ta:=h _
theorem J36 (ha:PTi ce X a ta):PTi ce X (.UnaryOp .Not a pos) (JF ta):=λ pj s σ H ι σi h Q E N K =>
 isTrue_not (ha.run N K λ c h1 u s1 H1 ι1 N1 n1 r1 K1=>by
  have r':u=c:=r1
  subst r'
  exact K1 (!u) s1 H1 ι1 N1 .refl rfl)
theorem J0k {op}(h:PEi ce X a ma):PEi ce X (.BoolOp op [a] pos) ma:=λ pj s σ H ι σi h' Q E N K=>BoolOp_one (h pj s σ H ι σi h' Q E N K)
theorem J2x (ht:TrI ce X tr)(ha:PEi ce X a ma)(hb:PEi ce X (.BoolOp .And (b::rest) pos) mb):PEi ce X (.BoolOp .And (a::b::rest) pos) (eAnd ma mb tr):=λ pj s σ H ι σi h Q E N K =>
 BoolOp_and (ha.run N K λ x h1 u s1 H1 ι1 N1 n1 r1 K1=>by
  refine ht pj s1 σ H1 ι1 σi h1 x u _ E N1 r1 ?_
  cases e:tr x h1 with
  | ok c h2 =>
   rw[e] at K1
   intro d s2 H2 ι2 N2 n2 r2
   have r':d=c:=r2
   subst r'
   have K2:=Kont.mono (r:=if d=Zi then mb σi h2 else .ok x h2) K1 n2
   cases d with
   | true=>exact hb pj s2 σ H2 ι2 σi h2 Q E N2 K2
   | false=>exact K2 u s2 H2 ι2 N2 .refl (r1.mono n2)
  | exc n h'=>rw[e] at K1;exact K1
  | stuck=>rw[e] at K1;exact K1)
theorem i_or (ht:TrI ce X tr)(ha:PEi ce X a ma)(hb:PEi ce X (.BoolOp .Or (b::rest) pos) mb):PEi ce X (.BoolOp .Or (a::b::rest) pos) (eOr ma mb tr):=λ pj s σ H ι σi h Q E N K =>
 BoolOp_or (ha.run N K λ x h1 u s1 H1 ι1 N1 n1 r1 K1=>by
  refine ht pj s1 σ H1 ι1 σi h1 x u _ E N1 r1 ?_
  cases e:tr x h1 with
  | ok c h2 =>
   rw[e] at K1
   intro d s2 H2 ι2 N2 n2 r2
   have r':d=c:=r2
   subst r'
   have K2:=Kont.mono (r:=if d=Zi then .ok x h2 else mb σi h2) K1 n2
   cases d with
   | false=>exact hb pj s2 σ H2 ι2 σi h2 Q E N2 K2
   | true=>exact K2 u s2 H2 ι2 N2 .refl (r1.mono n2)
  | exc n h'=>rw[e] at K1;exact K1
  | stuck=>rw[e] at K1;exact K1)
def VJ (tr:IV->IH->Res Bool):IV->IH->Res IV:=λ x h=>(tr x h).bind λ c h1=>.ok (.bl (!c)) h1
theorem Jy5 (ht:TrI ce X tr):UnI ce X (unaryOp .Not) (VJ tr):=λ pj s σ H ι σi h x v Q E N r K=>by
 refine not_of (ht pj s σ H ι σi h x v _ E N r ?_)
 unfold VJ at K
 cases e:tr x h with
 | ok c h2 =>
  rw[e] at K
  intro d s2 H2 ι2 N2 n2 r2
  have r':d=c:=r2
  subst r'
  exact K _ s2 H2 ι2 N2 n2 ⟨.bl (!d),rfl,rfl⟩
 | exc n h'=>rw[e] at K;exact K
 | stuck=>rw[e] at K;exact K
theorem Jxq {t:Expr}{mt:T1}(ht:PTi ce X t mt)(ha:PEi ce X a ma)(hb:PEi ce X b mb):PEi ce X (.IfExp t a b pos) (eIf mt ma mb):=λ pj s σ H ι σi h Q E N K =>
 wpAny_IfExp (ht.run N K λ c h1 u s1 H1 ι1 N1 n1 r1 K1=>by
  have r':u=c:=r1
  subst r'
  cases u with
  | true=>exact ha pj s1 σ H1 ι1 σi h1 Q E N1 K1
  | false=>exact hb pj s1 σ H1 ι1 σi h1 Q E N1 K1)
theorem Jxp (ho:OpI ce X (Zav op) f)(ho':OpI ce X (Zav op') g)(ha:PEi ce X a ma)(hb:PEi ce X b mb)(hc:PEi ce X c mc) 
  (hm:Zds [op,op'] [b,c]=Zk:=by with_unfolding_all rfl):PEi ce X (.Compare a [op,op'] [b,c] pos) (Qa f g ma mb mc):=λ pj s σ H ι σi h Q E N K =>
 Compare_chain (ha.run N K λ x h1 u s1 H1 ι1 N1 n1 r1 K1=>chain_link (hb.run N1 K1 λ y h2 w s2 H2 ι2 N2 n2 r2 K2=>by
  refine ho pj s2 σ H2 ι2 σi h2 x y u w _ E N2 (r1.mono n2) r2 ?_
  cases e:f x y h2 with
  | exc n h'=>rw[e] at K2;exact K2
  | stuck=>rw[e] at K2;exact K2
  | ok k h3 =>
   rw[e] at K2
   intro d s3 H3 ι3 N3 n3 r3
   obtain⟨z,rz,q⟩:=r3
   cases k with
   | bl k =>
    have e':z=.bl k:=q
    subst e'
    cases rz
    refine ZaK ?_
    have K3:=Kont.mono (r:=match IV.bl k with|.bl Zi=>(mc σi h3).bind λ z h4=>g y z h4|.bl Zk=>.ok (.bl Zk) h3|_=>.stuck) K2 n3
    cases k with
    | false=>exact ite_ff (K3 _ s3 H3 ι3 N3 .refl ⟨.bl Zk,rfl,rfl⟩)
    | true=>exact ite_tt (chain_last (hc.run N3 K3 λ z h4 w' s4 H4 ι4 N4 n4 r4 K4=>ho' pj s4 σ H4 ι4 σi h4 y z w w' Q E N4 ((r2.mono n3).mono n4) r4 K4))
   | _=>exact Zf K2)) hm
theorem Jy3 (ho:OpI ce X (Zav op) f)(ho':OpI ce X (Zav op') g)(ha:PEi ce X a ma)(hb:PEi ce X b mb)(hc:PEi ce X c mc) 
  (hm:Zds [op,op'] [b,c]=Zk:=by with_unfolding_all rfl):PTi ce X (.Compare a [op,op'] [b,c] pos) (Jh asB (Qa f g ma mb mc)):=λ pj s σ H ι σi h Q E N K=>by
 have K':Kont ce X RB pj ι σi σ H ((ma σi h).bind λ x h1=>(mb σi h1).bind λ y h2=>(f x y h2).bind λ k h3=>(match k with|.bl Zi=>(mc σi h3).bind λ z h4=>g y z h4|.bl Zk=>.ok (.bl Zk) h3|_=>.stuck:Res IV).bind asB) Q E:=by
  unfold Jh Qa at K
  rw[Res.bind_bind] at K
  simp only[Res.bind_bind] at K
  exact K
 refine isTrue_chain (ha.run N K' λ x h1 u s1 H1 ι1 N1 n1 r1 K1=>test_link (hb.run N1 K1 λ y h2 w s2 H2 ι2 N2 n2 r2 K2=>?_)) hm
 refine ho pj s2 σ H2 ι2 σi h2 x y u w _ E N2 (r1.mono n2) r2 ?_
 cases e:f x y h2 with
 | exc n h'=>rw[e] at K2;exact K2
 | stuck=>rw[e] at K2;exact K2
 | ok k h3 =>
  rw[e] at K2
  intro d s3 H3 ι3 N3 n3 r3
  obtain⟨z,rz,q⟩:=r3
  cases k with
  | bl k =>
   have e':z=.bl k:=q
   subst e'
   cases rz
   refine ZaK ?_
   have K3:=Kont.mono (r:=(match IV.bl k with|.bl Zi=>(mc σi h3).bind λ z h4=>g y z h4|.bl Zk=>.ok (.bl Zk) h3|_=>.stuck:Res IV).bind asB) K2 n3
   cases k with
   | false=>exact ite_ff (K3 _ s3 H3 ι3 N3 .refl rfl)
   | true =>
    have K3':Kont ce X RB pj ι3 σi σ H3 ((mc σi h3).bind λ z h4=>(g y z h4).bind asB) Q E:=by
     have:=K3
     dsimp only at this
     rw[Res.bind_bind] at this
     exact this
    exact ite_tt (test_last (hc.run N3 K3' λ z h4 w' s4 H4 ι4 N4 n4 r4 K4=>ho' pj s4 σ H4 ι4 σi h4 y z w w' _ E N4 ((r2.mono n3).mono n4) r4 (Kont.asB K4)))
  | _=>exact Zf K2
variable {es:List Expr}{mr:A1}
theorem RUs.nil {K:W.Frag}{ι:List Zo}{H:Hp}:RUs K ι H [] []:=⟨[],.nil,rfl⟩
theorem RUs.cons {K:W.Frag}{ι:List Zo}{H:Hp}{x:IV}{u:Zg}{xs:List IV}{us:List Zg}(a:RU K ι H x u)(b:RUs K ι H xs us):RUs K ι H (x::xs) (u::us) :=
 let ⟨v,r,q⟩:=a;let ⟨vs,rs,qs⟩:=b;⟨v::vs,.cons r rs,v,vs,rfl,q,qs⟩
theorem Vk:PAi ce X [] Jd:=λ _ pj s σ H ι σi h Q E N K=>Calls.spliced_nil (K [] s H ι N .refl .nil)
theorem QU (ha:PEi ce X a ma)(hr:PAi ce X es mr)(hs:ZF (a::es) X.env=(Zk,ZaU a X.env)::ZF es X.env:=by rfl):PAi ce X (a::es) (Jc ma mr):=by
 intro pos pj s σ H ι σi h Q E N K
 rw[hs]
 show Zy _ _ (spliced ((Zk,ZaU a X.env)::Zbo pos (ZF es X.env))) _ _ s
 exact ZcY (ha.run N K λ x h1 u s1 H1 ι1 N1 n1 r1 K1=>(hr pos).run N1 K1 λ xs h2 us s2 H2 ι2 N2 n2 r2 K2=>K2 _ s2 H2 ι2 N2 .refl (.cons (r1.mono n2) r2))
end
noncomputable def Jj:IV->IV->IH->Res IV
 | .int i,.int j,h=>.ok (.int (i+j)) h
 | .str x,.str y,h=>if x.length+y.length<=sizeLine then .ok (.str (x++y)) h else .stuck
 | .ref i,.ref j,h=>match h[i]?,h[j]? with
  | some (.lst xs),Za (.lst ys)=>if xs.length+ys.length<=sizeLine then .ok (.ref h.length) (h++[.lst (xs++ys)]) else .stuck
  | _,_=>.stuck
 | .tup xs,.tup ys,h=>if xs≠[]/\ys≠[]/\xs.length+ys.length<=sizeLine then .ok (.tup (xs++ys)) h else .stuck
 | _,_,_=>.stuck
noncomputable def JJ:IV->IV->IH->Res IV
 | .int i,.int j,h=>.ok (.int (i-j)) h
 | _,_,_=>.stuck
def Vj (i j:Int):Prop:=i.natAbs<2^64∨j.natAbs<2^64∨(i.natAbs.log2<1048576/\j.natAbs.log2<1048576)
instance (i j:Int):Decidable (Vj i j):=by unfold Vj;exact inferInstance
def X5:IV->IV->IH->Res IV
 | .int i,.int j,h=>if Vj i j then .ok (.int (i*j)) h else .stuck
 | .ref i,.int k,h=>match h[i]? with
  | some (.lst xs)=>if -(2^63)<=k/\k<2^63/\xs.length*k.toNat<=sizeLine then .ok (.ref h.length) (h++[.lst (ZI k.toNat xs).flatten]) else .stuck
  | _=>.stuck
 | _,_,_=>.stuck
def J7:IV->IV->IH->Res IV
 | .int i,.int j,h=>if 0<j/\j.natAbs.log2<9000 then .ok (.int (i/j)) h else .stuck
 | _,_,_=>.stuck
def Jq:IV->IV->IH->Res IV
 | .int i,.int j,h=>if 0<j then .ok (.int (i%j)) h else .stuck
 | _,_,_=>.stuck
def JL:IV->IV->IH->Res IV
 | .int i,.int j,h=>if 0<=j/\j<=1000000/\i.natAbs<2^64 then .ok (.int (i^j.toNat)) h else .stuck
 | _,_,_=>.stuck
noncomputable def Yw:IV->IH->Res IV
 | .int i,h=>.ok (.int (-i)) h
 | _,_=>.stuck
section
variable {ce:CeT}{X:Cx}
theorem fin0 {w:V}(N:Now ce X pj ι σi h σ H s)(K:Kont ce X RU pj ι σi σ H (.ok v h) Q E) 
  (q:RV X.K ι H v w):∀u s',Inv X pj σ H s'->RelV w u->Q u s':=λ u s' I r=>K u s' H ι ⟨I,N.rel,N.st⟩ .refl ⟨w,r,q⟩
theorem finA {io:IX}{o:HO}{Q:QvT}{E:QvT}(N:Now ce X pj ι σi h σ H s) 
  (K:Kont ce X RU pj ι σi σ H (.ok (.ref h.length) (h++[io])) Q E)(l:Zo)(e:H l=Zc)(r:RO ce X.K (ι++[l]) (upd H l o) l io):∀u s',Inv X pj σ (upd H l o) s'->RelV (.ref l) u->Q u s':=λ u s' I ru=>by
 obtain⟨R,n⟩:=N.rel.alloc e r
 refine K u s' _ _ ⟨I,R,N.st.mono n⟩ n ⟨.ref l,ru,l,rfl,?_⟩
 rw[<- N.rel.len,Z9 (Zp _)]
 simp
theorem finT {xs:List IV}{vs:List V}{Q:QvT}{E:QvT}(N:Now ce X pj ι σi h σ H s) 
  (K:Kont ce X RU pj ι σi σ H (.ok (.tup xs) h) Q E)(l:Zo)(e:H l=Zc)(r:RVs X.K ι H xs vs):∀u s',Inv X pj σ (upd H l (.tup vs)) s'->RelV (.ref l) u->Q u s':=λ u s' I ru=>by
 obtain⟨R,n⟩:=N.rel.grow (o:=.tup vs) e
 exact K u s' _ _ ⟨I,R,N.st.mono n⟩ n ⟨.ref l,ru,l,vs,rfl,SqT.of JE,RVs.mono n _ _ r⟩
theorem RVs.new {K:W.Frag}{ι:List Zo}{H:Hp}{l:Zo}{o:HO}(e:H l=Zc){xs:List IV}{vs:List V}(r:RVs K ι H xs vs):RVs K (ι++[l]) (upd H l o) xs vs:=RVs.mono ⟨⟨[l],rfl⟩,Ext.upd_new e⟩ _ _ r
theorem Now.at (N:Now ce X pj ι σi h σ H s){i:Nat}(e:h[i]?=Za o)(ha:ι[i]?=Za a):RO ce X.K ι H a o:=by
 obtain⟨b,e1,r⟩:=N.rel.at_ i o e
 rw[ha] at e1
 cases e1
 exact r
theorem J3f:OpI ce X (ZaV .Add) Jj:=by
 intro pj s σ H ι σi h x y v u Q E N rx ry K
 obtain⟨xv,rx,qx⟩:=rx
 obtain⟨yv,ry,qy⟩:=ry
 cases x with
 | int i =>
  cases y with
  | int j =>
   have e1:xv=.int i:=qx
   have e2:yv=.int j:=qy
   subst e1 e2
   exact Qf (J08 (X:=X.wish E)) N.inv rx ry ⟨i,j,rfl,rfl,fin0 N K rfl⟩
  | _=>exact Zf K
 | str i =>
  cases y with
  | str j =>
   have e1:xv=.str i:=qx
   have e2:yv=.str j:=qy
   subst e1 e2
   dsimp only[Jj] at K
   split at K
   ·rename_i hz
    exact Qf (Jpj (X:=X.wish E)) N.inv rx ry ⟨i,j,rfl,rfl,hz,fin0 N K rfl⟩
   ·exact Zf K
  | _=>exact Zf K
 | tup xs =>
  cases y with
  | tup ys =>
   obtain⟨a,vs,e1,sa,ra⟩:=qx
   obtain⟨b,ws,e2,sb,rb⟩:=qy
   subst e1 e2
   dsimp only[Jj] at K
   split at K
   ·rename_i hz
    obtain⟨h1,h2,h3⟩:=hz
    have n1:vs≠[]:=λ z=>h1 (by have:=ra.length;rw[z] at this;exact ZaL this.symm)
    have n2:ws≠[]:=λ z=>h2 (by have:=rb.length;rw[z] at this;exact ZaL this.symm)
    exact Qf (Jyc (X:=X.wish E)) N.inv rx ry ⟨a,b,vs,ws,rfl,rfl,sa,sb,n1,by rw[ra.length,rb.length];exact h3,λ z=>absurd z n2,λ _ p hp=>finT N K p hp (ra.append rb)⟩
   ·exact Zf K
  | _=>exact Zf K
 | ref i =>
  cases y with
  | ref j =>
   obtain⟨a,e1,ha⟩:=qx
   obtain⟨b,e2,hb⟩:=qy
   subst e1 e2
   dsimp only[Jj] at K
   cases hi:h[i]? with
   | none=>rw[hi] at K;exact Zf K
   | some oi =>
    cases hj:h[j]? with
    | none=>rw[hi,hj] at K;cases oi<;>exact Zf K
    | some oj =>
     rw[hi,hj] at K
     cases oi with
     | lst xs =>
      cases oj with
      | lst ys =>
       dsimp only at K
       split at K
       ·rename_i hz
        obtain⟨vs,e1,r1⟩:=N.at hi ha
        obtain⟨ws,e2,r2⟩:=N.at hj hb
        exact Qf (J09 (X:=X.wish E)) N.inv rx ry ⟨a,b,vs,ws,rfl,rfl,e1,e2,by rw[r1.length,r2.length];exact hz,λ p hp=>finA N K p hp ⟨_,JE,RVs.new hp (r1.append r2)⟩⟩
       ·exact Zf K
      | _=>exact Zf K
     | _=>exact Zf K
  | _=>exact Zf K
 | _=>cases y<;>exact Zf K
theorem J3l:OpI ce X (ZaV .Sub) JJ:=by
 intro pj s σ H ι σi h x y v u Q E N rx ry K
 obtain⟨xv,rx,qx⟩:=rx
 obtain⟨yv,ry,qy⟩:=ry
 cases x with
 | int i =>
  cases y with
  | int j =>
   have e1:xv=.int i:=qx
   have e2:yv=.int j:=qy
   subst e1 e2
   exact Qf (J1d (X:=X.wish E)) N.inv rx ry ⟨i,j,rfl,rfl,fin0 N K rfl⟩
  | _=>exact Zf K
 | _=>cases y<;>exact Zf K
theorem Vj.ok (h:Vj i j):IntMulOk i j:=by
 rcases h with h|h|⟨h1,h2⟩
 ·exact .of_left (Zdf 00 00)
 ·exact .of_right (Zdf 00 00)
 ·refine .of_bits ?_ ?_
  ·unfold Builtin.Int.intBits
   split
   ·exact Zac _
   ·have:(2:Nat)^20=1048576:=01
    omega
  ·unfold Builtin.Int.intBits
   split
   ·exact Zac _
   ·have:(2:Nat)^20=1048576:=01
    omega
theorem Jyd:OpR X (ZaV .Mult) (rI Vj λ i j=>.int (i*j)):=opI λ _ _ _ _ _ _ _ hc q=>mul_int q hc.ok
theorem J3j:OpI ce X (ZaV .Mult) X5:=by
 intro pj s σ H ι σi h x y v u Q E N rx ry K
 obtain⟨xv,rx,qx⟩:=rx
 obtain⟨yv,ry,qy⟩:=ry
 cases x with
 | int i =>
  cases y with
  | int j =>
   have e1:xv=.int i:=qx
   have e2:yv=.int j:=qy
   subst e1 e2
   dsimp only[X5] at K
   split at K
   ·rename_i hz
    exact Qf (Jyd (X:=X.wish E)) N.inv rx ry ⟨i,j,rfl,rfl,hz,fin0 N K rfl⟩
   ·exact Zf K
  | _=>exact Zf K
 | ref i =>
  cases y with
  | int k =>
   obtain⟨a,e1,ha⟩:=qx
   have e2:yv=.int k:=qy
   subst e1 e2
   dsimp only[X5] at K
   cases hi:h[i]? with
   | none=>rw[hi] at K;exact Zf K
   | some oi =>
    rw[hi] at K
    cases oi with
    | lst xs =>
     dsimp only at K
     split at K
     ·rename_i hz
      obtain⟨vs,e1,r1⟩:=N.at hi ha
      have rr:∀n:Nat,RVs X.K ι H (ZI n xs).flatten (ZI n vs).flatten:=λ n=>by
       induction n with
       | zero=>exact rfl
       | succ n ih =>
        rw[Zbe,Zbe,Zb5,Zb5]
        exact r1.append ih
      exact Qf (J1c (X:=X.wish E)) N.inv rx ry ⟨a,k,vs,rfl,rfl,e1,hz.1,hz.2.1,by rw[r1.length];exact hz.2.2,λ p hp=>finA N K p hp ⟨_,JE,RVs.new hp (rr _)⟩⟩
     ·exact Zf K
    | _=>exact Zf K
  | _=>exact Zf K
 | _=>cases y<;>exact Zf K
theorem Jum:OpR X (ZaV .FloorDiv) (rI (λ _ j=>0<j/\j.natAbs.log2<9000) λ i j=>.int (i/j)):=opI λ i j _ _ _ _ _ hc q=>by
 have h1:(0:Int)<j:=hc.1
 exact floordiv_int 00 (by rw[Int.fdiv_eq_ediv_of_nonneg i 00];exact q) (.inl (PyProof.noPylong_of_log2 hc.2))
theorem J06:OpI ce X (ZaV .FloorDiv) J7:=by
 intro pj s σ H ι σi h x y v u Q E N rx ry K
 obtain⟨xv,rx,qx⟩:=rx
 obtain⟨yv,ry,qy⟩:=ry
 cases x with
 | int i =>
  cases y with
  | int j =>
   have e1:xv=.int i:=qx
   have e2:yv=.int j:=qy
   subst e1 e2
   dsimp only[J7] at K
   split at K
   ·rename_i hz
    exact Qf (Jum (X:=X.wish E)) N.inv rx ry ⟨i,j,rfl,rfl,hz,fin0 N K rfl⟩
   ·exact Zf K
  | _=>exact Zf K
 | _=>cases y<;>exact Zf K
theorem J3i:OpI ce X (ZaV .Mod) Jq:=by
 intro pj s σ H ι σi h x y v u Q E N rx ry K
 obtain⟨xv,rx,qx⟩:=rx
 obtain⟨yv,ry,qy⟩:=ry
 cases x with
 | int i =>
  cases y with
  | int j =>
   have e1:xv=.int i:=qx
   have e2:yv=.int j:=qy
   subst e1 e2
   dsimp only[Jq] at K
   split at K
   ·rename_i hz
    exact Qf (J1a (X:=X.wish E)) N.inv rx ry ⟨i,j,rfl,rfl,hz,fin0 N K rfl⟩
   ·exact Zf K
  | _=>exact Zf K
 | _=>cases y<;>exact Zf K
theorem J3k:OpI ce X (ZaV .Pow) JL:=by
 intro pj s σ H ι σi h x y v u Q E N rx ry K
 obtain⟨xv,rx,qx⟩:=rx
 obtain⟨yv,ry,qy⟩:=ry
 cases x with
 | int i =>
  cases y with
  | int j =>
   have e1:xv=.int i:=qx
   have e2:yv=.int j:=qy
   subst e1 e2
   dsimp only[JL] at K
   split at K
   ·rename_i hz
    exact Qf (J1b (X:=X.wish E)) N.inv rx ry ⟨i,j,rfl,rfl,hz,fin0 N K rfl⟩
   ·exact Zf K
  | _=>exact Zf K
 | _=>cases y<;>exact Zf K
theorem J4a:UnI ce X (unaryOp .USub) Yw:=by
 intro pj s σ H ι σi h x v Q E N rx K
 obtain⟨xv,rx,qx⟩:=rx
 cases x with
 | int i =>
  have e1:xv=.int i:=qx
  subst e1
  exact J2a (J19 (X:=X.wish E)) N.inv rx ⟨i,rfl,fin0 N K rfl⟩
 | _=>exact Zf K
noncomputable def cLt:IV->IV->IH->Res IV
 | .int i,.int j,h=>.ok (.bl (decide (i<j))) h
 | .str x,.str y,h=>.ok (.bl (decide (x.cps.toList<y.cps.toList))) h
 | _,_,_=>.stuck
noncomputable def cLe:IV->IV->IH->Res IV
 | .int i,.int j,h=>.ok (.bl (decide (i<=j))) h
 | .str x,.str y,h=>.ok (.bl (!decide (y.cps.toList<x.cps.toList))) h
 | _,_,_=>.stuck
noncomputable def cGt:IV->IV->IH->Res IV
 | .int i,.int j,h=>.ok (.bl (decide (j<i))) h
 | _,_,_=>.stuck
noncomputable def cGe:IV->IV->IH->Res IV
 | .int i,.int j,h=>.ok (.bl (decide (j<=i))) h
 | _,_,_=>.stuck
theorem o_lt:OpI ce X (Zav .Lt) cLt:=by
 intro pj s σ H ι σi h x y v u Q E N rx ry K
 obtain⟨xv,rx,qx⟩:=rx
 obtain⟨yv,ry,qy⟩:=ry
 cases x with
 | int i =>
  cases y with
  | int j =>
   have e1:xv=.int i:=qx
   have e2:yv=.int j:=qy
   subst e1 e2
   exact Qf (J3q (X:=X.wish E)) N.inv rx ry ⟨i,j,rfl,rfl,fin0 N K rfl⟩
  | _=>exact Zf K
 | str i =>
  cases y with
  | str j =>
   have e1:xv=.str i:=qx
   have e2:yv=.str j:=qy
   subst e1 e2
   exact Qf (Jr3 (X:=X.wish E)) N.inv rx ry ⟨i,j,rfl,rfl,fin0 N K rfl⟩
  | _=>exact Zf K
 | _=>cases y<;>exact Zf K
theorem o_le:OpI ce X (Zav .LtE) cLe:=by
 intro pj s σ H ι σi h x y v u Q E N rx ry K
 obtain⟨xv,rx,qx⟩:=rx
 obtain⟨yv,ry,qy⟩:=ry
 cases x with
 | int i =>
  cases y with
  | int j =>
   have e1:xv=.int i:=qx
   have e2:yv=.int j:=qy
   subst e1 e2
   exact Qf (J3p (X:=X.wish E)) N.inv rx ry ⟨i,j,rfl,rfl,fin0 N K rfl⟩
  | _=>exact Zf K
 | str i =>
  cases y with
  | str j =>
   have e1:xv=.str i:=qx
   have e2:yv=.str j:=qy
   subst e1 e2
   obtain⟨t,rfl⟩:=rx
   obtain⟨t',rfl⟩:=ry
   exact PySem.P.le_str (fin0 N K rfl _ s N.inv rfl)
  | _=>exact Zf K
 | _=>cases y<;>exact Zf K
theorem o_gt:OpI ce X (Zav .Gt) cGt:=by
 intro pj s σ H ι σi h x y v u Q E N rx ry K
 obtain⟨xv,rx,qx⟩:=rx
 obtain⟨yv,ry,qy⟩:=ry
 cases x with
 | int i =>
  cases y with
  | int j =>
   have e1:xv=.int i:=qx
   have e2:yv=.int j:=qy
   subst e1 e2
   exact Qf (J3o (X:=X.wish E)) N.inv rx ry ⟨i,j,rfl,rfl,fin0 N K rfl⟩
  | _=>exact Zf K
 | _=>cases y<;>exact Zf K
theorem o_ge:OpI ce X (Zav .GtE) cGe:=by
 intro pj s σ H ι σi h x y v u Q E N rx ry K
 obtain⟨xv,rx,qx⟩:=rx
 obtain⟨yv,ry,qy⟩:=ry
 cases x with
 | int i =>
  cases y with
  | int j =>
   have e1:xv=.int i:=qx
   have e2:yv=.int j:=qy
   subst e1 e2
   exact Qf (J3n (X:=X.wish E)) N.inv rx ry ⟨i,j,rfl,rfl,fin0 N K rfl⟩
  | _=>exact Zf K
 | _=>cases y<;>exact Zf K
noncomputable def tru:IV->IH->Res Bool
 | .non,h=>.ok Zk h
 | .bl b,h=>.ok b h
 | .int i,h=>.ok (i != 0) h
 | .str x,h=>if x.length<=sizeLine then .ok ((x.length:Int) != 0) h else .stuck
 | .tup xs,h=>.ok (!xs.isEmpty) h
 | .rol xs,h=>.ok (!xs.isEmpty) h
 | .ref i,h=>match h[i]? with
  | some (.lst xs)=>.ok (!xs.isEmpty) h
  | some (.dct kvs)=>.ok (!kvs.isEmpty) h
  | _=>.stuck
theorem RVs.empty {K:W.Frag}{ι:List Zo}{H:Hp}{xs:List IV}{vs:List V}(r:RVs K ι H xs vs):vs.isEmpty=xs.isEmpty:=by
 have:=r.length
 cases xs<;>cases vs<;>simp_all
theorem RPs.empty {κ:Type}{K:W.Frag}{ι:List Zo}{H:Hp}{xs:List (κ×IV)}{vs:List (κ×V)}(r:RPs K ι H xs vs):vs.isEmpty=xs.isEmpty:=by
 have:=r.length
 cases xs<;>cases vs<;>simp_all
theorem finB (N:Now ce X pj ι σi h σ H s)(K:Kont ce X RB pj ι σi σ H (.ok c h) Q E) :
  ∀s',Inv X pj σ H s'->Q c s':=λ s' I=>K c s' H ι ⟨I,N.rel,N.st⟩ .refl rfl
theorem Y3:TrI ce X tru:=by
 intro pj s σ H ι σi h x v Q E N rx K
 obtain⟨xv,rx,qx⟩:=rx
 cases x with
 | non =>
  have e1:xv=.non:=qx
  subst e1
  exact VO (VM (X:=X.wish E)) N.inv rx ⟨_,rfl,finB N K⟩
 | bl b =>
  have e1:xv=.bl b:=qx
  subst e1
  exact VO (VM (X:=X.wish E)) N.inv rx ⟨_,rfl,finB N K⟩
 | int i =>
  have e1:xv=.int i:=qx
  subst e1
  exact VO (VM (X:=X.wish E)) N.inv rx ⟨_,rfl,finB N K⟩
 | str y =>
  have e1:xv=.str y:=qx
  subst e1
  dsimp only[tru] at K
  split at K
  ·rename_i hz
   exact VO (VM (X:=X.wish E)) N.inv rx ⟨_,⟨hz,rfl⟩,finB N K⟩
  ·exact Zf K
 | tup xs =>
  obtain⟨a,vs,e1,sa,ra⟩:=qx
  subst e1
  exact VO (VM (X:=X.wish E)) N.inv rx ⟨!xs.isEmpty,.inr (.inl ⟨vs,sa,by rw[ra.empty]⟩),finB N K⟩
 | rol xs =>
  obtain⟨a,vs,e1,sa,ra⟩:=qx
  subst e1
  exact VO (VM (X:=X.wish E)) N.inv rx ⟨!xs.isEmpty,.inl ⟨vs,sa.sq,by rw[ra.empty]⟩,finB N K⟩
 | ref i =>
  obtain⟨a,e1,ha⟩:=qx
  subst e1
  dsimp only[tru] at K
  cases hi:h[i]? with
  | none=>rw[hi] at K;exact Zf K
  | some oi =>
   rw[hi] at K
   cases oi with
   | lst xs =>
    obtain⟨vs,e1,r1⟩:=N.at hi ha
    exact VO (VM (X:=X.wish E)) N.inv rx ⟨!xs.isEmpty,.inl ⟨vs,SqL.of e1,by rw[r1.empty]⟩,finB N K⟩
   | dct kvs =>
    obtain⟨vs,e1,r1⟩:=N.at hi ha
    exact VO (VM (X:=X.wish E)) N.inv rx ⟨!kvs.isEmpty,.inr (.inr ⟨vs,e1,by rw[r1.empty]⟩),finB N K⟩
   | _=>exact Zf K
def eTup (a:A1):E1:=λ σ h=>(a σ h).bind λ xs h1=>if xs.length<=sizeLine then .ok (.tup xs) h1 else .stuck
def JD (a:A1):E1:=λ σ h=>(a σ h).bind λ xs h1=>if xs.length<=sizeLine then .ok (.ref h1.length) (h1++[.lst xs]) else .stuck
variable {es:List Expr}{mr:A1}{pos:Pos}
theorem J27 {x1}(hr:PAi ce X es mr):PEi ce X (.Tuple es x1 pos) (eTup mr):=λ pj s σ H ι σi h Q E N K=>by
 refine wpAny_Tuple_spliced ((hr pos).run N K λ xs h1 us s1 H1 ι1 N1 n1 r1 K1=>?_)
 change Kont ce X RU pj ι1 σi σ H1 (if xs.length<=sizeLine then _ else _) Q E at K1
 split at K1
 ·rename_i hz
  obtain⟨vs,rv,qs⟩:=r1
  have hl:=rv.length
  have hl2:=qs.length
  have hf:H1 s1.heap.objs.size=Zc:=N1.inv.hok.fresh (Zp _)
  refine⟨by rw[<- hl,hl2];exact hz,?_⟩
  exact finT N1 K1 s1.heap.objs.size hf qs _ _ (N1.inv.laid (t':=s1.toks) (λ b u e=>Zh _ e) (Zp _) ⟨by rw[hl2];exact hz,us,rv,⟨_,Z1 _ rfl,rfl,_,rfl⟩⟩) rfl
 ·exact Zf K1
theorem J24 (hr:PAi ce X es mr):PEi ce X (.List es pos) (JD mr):=λ pj s σ H ι σi h Q E N K=>by
 refine wpAny_List_spliced ((hr pos).run N K λ xs h1 us s1 H1 ι1 N1 n1 r1 K1=>?_)
 change Kont ce X RU pj ι1 σi σ H1 (if xs.length<=sizeLine then _ else _) Q E at K1
 split at K1
 ·rename_i hz
  obtain⟨vs,rv,qs⟩:=r1
  have hl:=rv.length
  have hl2:=qs.length
  have hf:H1 s1.heap.objs.size=Zc:=N1.inv.hok.fresh (Zp _)
  refine⟨by rw[<- hl,hl2];exact hz,?_⟩
  exact finA N1 K1 s1.heap.objs.size hf ⟨_,JE,RVs.new hf qs⟩ _ _ (N1.inv.laid (t':=s1.toks) (λ b u e=>Zh _ e) (Zp _) ⟨by rw[hl2];exact hz,us,0,rv,Z1 _ rfl⟩) rfl
 ·exact Zf K1
end
section
variable {prog:ZB}{w:Zab}{A:ZK}{E:QvT}{s:Zn}
theorem Jkp (hne:t≠it):∀(n i:Nat)(s:Zn)(Q:List Zg->Zn->Prop),s.heap.IsListIter it t i->s.heap.IsList t items->i+n<=items.size ->
  (∀h',h'.IsListIter it t (i+n)->Zc0 it s.heap h'->Q ((items.toList.drop i).take n) { s with heap:=h' })->Zy (Z8 prog w) A (draw (.ref it) n) Q E s
 | 0,i,s,Q,hit,_,_,hQ=>by
  show Zy _ _ (pure []) Q E s
  exact Zw (by simpa using hQ s.heap hit (Heap.SameBut.refl ..))
 | n+1,i,s,Q,hit,ht,hle,hQ=>by
  have hlt:i<items.size:=00
  show Zy _ _ (ZbC (.ref it)>>=_) Q E s
  refine Zd (Zd1 hit ht (x:=items[i]) (by simp[hlt]) λ h₁ hit₁ hs₁=>?_)
  refine Zd (ZL (Jkp hne n (i+1) _ _ hit₁ (ht.extBut hs₁.extBut hne) 00 λ h₂ hit₂ hs₂=>Zw ?_))
  have hd:items.toList.drop i=items[i]::items.toList.drop (i+1):=by simp[ZaH,hlt]
  have:=hQ h₂ (by rw[show i+(n+1)=i+1+n by omega];exact hit₂) (hs₁.trans hs₂)
  rw[hd,List.take_succ_cons] at this
  exact this
theorem Jf0 {Q:List Zg->Zn->Prop}(hh:A.handled=Zc)(ht:s.heap.IsList t items) 
  (hQ:∀h',Heap.ExtBut s.heap.objs.size s.heap h'->Q items.toList { s with heap:=h' }):Zy (Z8 prog w) A (unpackItems (.ref t) items.size Zc) Q E s:=by
 have hlt:t≠s.heap.objs.size:=by obtain⟨o,ho,_⟩:=ht;exact Z7 (Z4 ho)
 unfold unpackItems
 refine Zd ?_
 ·unfold notIterableAtAll
  refine Zd (wpAny_specialOf ht.typeIs slot_list_iter.lookup ?_)
  refine Zw ?_
  simp only[ZX,if_false]
  refine Zd (ZL (ZaM ht ?_))
  refine Zd (ZL (Jkp hlt items.size 0 _ _ ⟨_,Z1 _ rfl,rfl,rfl⟩ (ht.push _) 00 λ h₁ hit₁ hs₁=>?_))
  have hall:List.take items.size (List.drop 0 items.toList)=items.toList:=by
   rw[List.drop_zero];exact ZaY 03
  rw[hall]
  rw[if_neg 03]
  have ht₁:h₁.IsList t items:=(ht.push _).extBut hs₁.extBut hlt
  refine Zd (ZL (ZdE hh hit₁ ht₁ 03 λ h₂ he₂=>?_))
  simp only[Option.isSome_none,ZX,if_false]
  refine Zw (hQ h₂ λ b o hb e=>he₂ b o hb (hs₁.extBut b o hb (Zh _ e)))
theorem Je9 {env:Env}{elts:List Expr}{x1}{pos:Pos}{t:Zo}{items:Array Zg}{Q:Unit->Zn->Prop}(hh:A.handled=Zc)(ht:s.heap.IsList t items)
  (hn:(ZaJ elts env).length=items.size)(hstar:(ZaJ elts env).findIdx? (·.1)=Zc)
  (h:∀h',Heap.ExtBut s.heap.objs.size s.heap h'->Zy (Z8 prog w) A (Zea ((ZaJ elts env).map (·.2)) items.toList) Q E { s with heap:=h' }) :
  Zy (Z8 prog w) A (Zdi (.Tuple elts x1 pos) env (.ref t)) Q E s:=by
 rw[assign_Tuple]
 refine Zd (ZaX ?_)
 unfold unpack
 rw[hn,hstar]
 exact Zd (ZL (Jf0 hh ht h))
end
abbrev S1:=ISt->IH->SRes
structure Noted (L:Zo)(fs:List Zo)(e:Zo)(h h3:Zau):Prop where
 ex:∃oe vs T ts,h.get? e=Za oe/\oe.data=.fields vs/\1<vs.size/\h3.get? e=Za (Obj.mapFields (·.setIfInBounds 1 (.ref T)) oe)/\T≠e/\h.get? T=Zc/\h3.get? T=Za { cls:=.type "traceback",dict:=Zc,data:=.fields ts }/\ts[3]?=Za (Zet L)
 slot:∀b o,h.get? b=Za o->b≠e->∃sl,h3.get? b=Za { o with slots:=sl }
 keep:∀b o,h.get? b=Za o->b≠e->b∉fs->h3.get? b=Za o
def Fly (L:Zo)(fs:List Zo)(e:Zo)(s s1:Zn):Prop:=s1=s∨∃h',s1={ s with heap:=h' }/\Noted L fs e s.heap h'
def JK (ce:CeT)(X:Cx)(pj:PnT)(ι:List Zo)(H:Hp)(r:SRes)(Q:Flow->Zn->Prop)(E:QvT):Prop :=
 match r with
 | .next σi' h'=>∀s' σ' H' ι',Now ce X pj ι' σi' h' σ' H' s'->Nxt ι H ι' H'->Q .next s'
 | .brk σi' h'=>∀s' σ' H' ι',Now ce X pj ι' σi' h' σ' H' s'->Nxt ι H ι' H'->Q .brk s'
 | .cont σi' h'=>∀s' σ' H' ι',Now ce X pj ι' σi' h' σ' H' s'->Nxt ι H ι' H'->Q .cont s'
 | .ret v h'=>∀u s' σi' σ' H' ι',Now ce X pj ι' σi' h' σ' H' s'->Nxt ι H ι' H'->RU X.K ι' H' v u->Q (.ret u) s'
 | .exc n σi' h'=>∀pl a s' σ' H' ι',Now ce X (pj++pl) ι' σi' h' σ' H' s'->Nxt ι H ι' H'->ι'[n]?=Za a->∀s1,Fly X.env.locals (frs X.stack) a s' s1->E (.ref a) s1
 | .stuck=>False
theorem JK.mono (k:JK ce X pj ι H r Q E)(n:Nxt ι H ι' H'):JK ce X pj ι' H' r Q E:=by
 cases r with
 | next σ h=>exact λ s' σ' H2 ι2 N n2=>k s' σ' H2 ι2 N (n.trans n2)
 | brk σ h=>exact λ s' σ' H2 ι2 N n2=>k s' σ' H2 ι2 N (n.trans n2)
 | cont σ h=>exact λ s' σ' H2 ι2 N n2=>k s' σ' H2 ι2 N (n.trans n2)
 | ret v h=>exact λ u s' σi' σ' H2 ι2 N n2=>k u s' σi' σ' H2 ι2 N (n.trans n2)
 | exc m σ h=>exact λ pl a s' σ' H2 ι2 N n2=>k pl a s' σ' H2 ι2 N (n.trans n2)
 | stuck=>exact k
def PSi (ce:CeT)(X:Cx)(t:Sem Flow)(m:S1):Prop :=
 ∀(pj:PnT)(s:Zn)(σ:L2.St)(H:Hp)(ι:List Zo)(σi:ISt)(h:IH)(Q:Flow->Zn->Prop)(E:QvT),Now ce X pj ι σi h σ H s->JK ce X pj ι H (m σi h) Q E->Zy (Z8 X.prog X.w) X.A t Q E s
abbrev PS1 (ce:CeT)(X:Cx)(st:ZcC)(m:S1):Prop:=PSi ce X (exec st X.env) m
abbrev PS2 (ce:CeT)(X:Cx)(sts:List ZcC)(m:S1):Prop:=PSi ce X (execs sts X.env) m
noncomputable def Jr:S1:=λ σ h=>.next σ h
def Jf (a b:S1):S1:=λ σ h=>match a σ h with
 | .next σ' h'=>b σ' h'
 | r=>r
noncomputable def Jyn:S1:=λ σ h=>.next σ h
def Jwd:S1:=λ σ h=>.brk σ h
def J1r:S1:=λ σ h=>.cont σ h
noncomputable def rS {α:Type}(σ:ISt)(r:Res α)(k:α->IH->SRes):SRes:=match r with
 | .ok a h=>k a h
 | .exc n h=>.exc n σ h
 | .stuck=>.stuck
def JG (e:E1):S1:=λ σ h=>rS σ (e σ h) λ _ h'=>.next σ h'
def Jk (e:E1):S1:=λ σ h=>rS σ (e σ h) λ v h'=>.ret v h'
noncomputable def Jyp:S1:=λ _ h=>.ret .non h
def sIf (t:T1)(a b:S1):S1:=λ σ h=>rS σ (t σ h) λ c h'=>if c then a σ h' else b σ h'
def Ji (i:Nat)(e:E1):S1:=λ σ h=>rS σ (e σ h) λ v h'=>.next (σ.set i (Za v)) h'
section
variable {ce:CeT}{X:Cx}{st:ZcC}{rest:List ZcC}{m m1 m2:S1}{e:Expr}{me:E1}{pos:Pos}
theorem krun {α β:Type}{R:REL α β}{t:Sem β}{mm:ISt->IH->Res α}(p:PX ce X R t mm){pj:PnT}{s:Zn}{σ:L2.St}{H:Hp}{ι:List Zo}{σi:ISt}{h:IH}(N:Now ce X pj ι σi h σ H s){g:α->IH->SRes}{Q:Flow->Zn->Prop}{E:QvT}{Q1:β->Zn->Prop}
  (K:JK ce X pj ι H (rS σi (mm σi h) g) Q E)
  (step:∀x h1 u s1 H1 ι1,Now ce X pj ι1 σi h1 σ H1 s1->Nxt ι H ι1 H1->R X.K ι1 H1 x u->JK ce X pj ι1 H1 (g x h1) Q E->Q1 u s1):Zy (Z8 X.prog X.w) X.A t Q1 E s:=by
 refine p pj s σ H ι σi h Q1 E N ?_
 cases e:mm σi h with
 | ok v h' =>
  rw[e] at K
  exact λ u s' H' ι' N' n' r=>step v h' u s' H' ι' N' n' r (JK.mono (r:=g v h') K n')
 | exc n h' =>
  rw[e] at K
  exact λ pl a s' H' ι' N' n' q=>K pl a s' σ H' ι' N' n' q s' (.inl rfl)
 | stuck =>
  rw[e] at K
  exact K
theorem J1p:PS2 ce X [] Jr:=λ _ s σ H ι _ _ _ _ N K=>ZcQ (K s σ H ι N .refl)
theorem Jyl (h1:PS1 ce X st m1)(h2:PS2 ce X rest m2):PS2 ce X (st::rest) (Jf m1 m2):=by
 intro pj s σ H ι σi h Q E N K
 refine wpAny_execs_cons (h1 pj s σ H ι σi h _ E N ?_)
 unfold Jf at K
 cases e:m1 σi h with
 | next σ' h' =>
  rw[e] at K
  exact λ s' σ2 H' ι' N' n'=>h2 pj s' σ2 H' ι' σ' h' Q E N' (JK.mono (r:=m2 σ' h') K n')
 | brk σ' h'=>rw[e] at K;exact K
 | cont σ' h'=>rw[e] at K;exact K
 | ret v h'=>rw[e] at K;exact K
 | exc n σ' h'=>rw[e] at K;exact K
 | stuck=>rw[e] at K;exact K
theorem J1q (h1:PS1 ce X st m1):PS2 ce X [st] m1:=by
 intro pj s σ H ι σi h Q E N K
 refine wpAny_execs_cons (h1 pj s σ H ι σi h _ E N ?_)
 cases e:m1 σi h with
 | next σ' h' =>
  rw[e] at K
  exact λ s' σ2 H' ι' N' n'=>ZcQ (K s' σ2 H' ι' N' n')
 | brk σ' h'=>rw[e] at K;exact K
 | cont σ' h'=>rw[e] at K;exact K
 | ret v h'=>rw[e] at K;exact K
 | exc n σ' h'=>rw[e] at K;exact K
 | stuck=>rw[e] at K;exact K
theorem J1w:PS1 ce X (.Pass pos) Jyn:=λ _ s σ H ι _ _ _ _ N K=>wpAny_Pass (K s σ H ι N .refl)
theorem Jyq:PS1 ce X (.Break pos) Jwd:=λ _ s σ H ι _ _ _ _ N K=>wpAny_Break (K s σ H ι N .refl)
theorem J1u:PS1 ce X (.Continue pos) J1r:=λ _ s σ H ι _ _ _ _ N K=>wpAny_Continue (K s σ H ι N .refl)
theorem J1v (he:PEi ce X e me)(hs:ZcU e Zc pos.line X.env=pure Zk:=by rfl):PS1 ce X (.Expr e pos) (JG me):=λ pj s σ H ι σi h Q E N K =>
 wpAny_Expr_any (krun he N K λ x h1 u s1 H1 ι1 N1 n1 r1 K1=>K1 s1 σ H1 ι1 N1 .refl) N.inv.quiet hs
theorem J34 (he:PEi ce X e me):PS1 ce X (.Return (Za e) pos) (Jk me):=λ pj s σ H ι σi h Q E N K =>
 wpAny_Return_some (krun he N K λ x h1 u s1 H1 ι1 N1 n1 r1 K1=>K1 u s1 σi σ H1 ι1 N1 .refl r1)
theorem J1x:PS1 ce X (.Return Zc pos) Jyp:=λ pj s σ H ι σi h Q E N K=>wpAny_Return_none (K .none s σi σ H ι N .refl ⟨.non,rfl,rfl⟩)
theorem s_if {c:Expr}{a b:List ZcC}{mt:T1}(hc:PTi ce X c mt)(ha:PS2 ce X a m1)(hb:PS2 ce X b m2):PS1 ce X (.If c a b pos) (sIf mt m1 m2):=λ pj s σ H ι σi h Q E N K =>
 wpAny_If (krun hc N K λ x h1 u s1 H1 ι1 N1 n1 r1 K1=>by
  have r':u=x:=r1
  subst r'
  cases u with
  | true=>exact ha pj s1 σ H1 ι1 σi h1 Q E N1 K1
  | false=>exact hb pj s1 σ H1 ι1 σi h1 Q E N1 K1)
theorem J1y {i:Nat}{x:Str}{pos':Pos}(hN:X.N.Nodup)(he:PEi ce X e me)(hi:X.N[i]?=Za x:=by rfl)(hx:Loc X.env.scope x:=by assumption)(hs:ZcU e (Za (.Name x pos')) pos.line X.env=pure Zk:=by rfl)
  (hf:X.fn x=Zi∨X.env.scope.names.lookup x=Za .local:=by assumption):PS1 ce X (.Assign [.Name x pos'] e pos) (Ji i me):=λ pj s σ H ι σi h Q E N K =>
 wpAny_Assign_Name (krun he N K λ v h1 u s1 H1 ι1 N1 n1 r1 K1=>by
  obtain⟨w,rw',q⟩:=r1
  exact Jge N1.inv hN hi hx rw' (λ s2 I2=>K1 s2 _ H1 ι1 ⟨I2,N1.rel,N1.st.set i q⟩ .refl) hf) hs
abbrev G1:=IV->ISt->IH->SRes
def PGi (ce:CeT)(X:Cx)(tg:Expr)(g:G1):Prop :=
 ∀(pj:PnT)(s:Zn)(σ:L2.St)(H:Hp)(ι:List Zo)(σi:ISt)(h:IH)(v:IV)(u:Zg)(Q:Flow->Zn->Prop)(E:QvT),Now ce X pj ι σi h σ H s->RU X.K ι H v u->JK ce X pj ι H (g v σi h) Q E ->
  Zy (Z8 X.prog X.w) X.A (Zdi tg X.env u) (λ _ s'=>Q .next s') E s
noncomputable def gNm (i:Nat):G1:=λ v σ h=>.next (σ.set i (Za v)) h
theorem g_nm (hN:X.N.Nodup)(hi:X.N[i]?=Za x:=by rfl)(hx:Loc X.env.scope x:=by assumption)(hf:X.fn x=Zi∨X.env.scope.names.lookup x=Za .local:=by assumption):PGi ce X (.Name x pos) (gNm i):=by
 intro pj s σ H ι σi h v u Q E N r K
 obtain⟨w,rw',q⟩:=r
 exact wpAny_assign_Name (Jge N.inv hN hi hx rw' (λ s2 I2=>K s2 _ H ι ⟨I2,N.rel,N.st.set i q⟩ .refl) hf)
def PGsi (ce:CeT)(X:Cx)(ts:List Expr)(g:List IV->ISt->IH->SRes):Prop :=
 ∀(pj:PnT)(s:Zn)(σ:L2.St)(H:Hp)(ι:List Zo)(σi:ISt)(h:IH)(vs:List IV)(us:List Zg)(Q:Flow->Zn->Prop)(E:QvT),Now ce X pj ι σi h σ H s->RUs X.K ι H vs us->JK ce X pj ι H (g vs σi h) Q E ->
  Zy (Z8 X.prog X.w) X.A (Zea ((ZaJ ts X.env).map (·.2)) us) (λ _ s'=>Q .next s') E s
noncomputable def gN:List IV->ISt->IH->SRes
 | [],σ,h=>.next σ h
 | _::_,_,_=>.stuck
def gC (g:G1)(r:List IV->ISt->IH->SRes):List IV->ISt->IH->SRes
 | v::vs,σ,h=>match g v σ h with
  | .next σ' h'=>r vs σ' h'
  | .exc n σ' h'=>.exc n σ' h'
  | _=>.stuck
 | [],_,_=>.stuck
theorem Jz7:PGsi ce X [] gN:=by
 intro pj s σ H ι σi h vs us Q E N r K
 cases vs with
 | nil =>
  obtain⟨xs,rv,q⟩:=r
  have e1:xs=[]:=q
  subst e1
  cases rv
  exact assignInOrder_nil (K s σ H ι N .refl)
 | cons v vs=>exact Zf K
theorem Jxm {tg:Expr}{ts:List Expr}{g:G1}{r:List IV->ISt->IH->SRes}(h1:PGi ce X tg g)(h2:PGsi ce X ts r)
  (hs:(ZaJ (tg::ts) X.env).map (·.2)=Zdi tg X.env::(ZaJ ts X.env).map (·.2):=by rfl):PGsi ce X (tg::ts) (gC g r):=by
 intro pj s σ H ι σi h vs us Q E N ru K
 cases vs with
 | nil=>exact Zf K
 | cons v vs =>
  obtain⟨xs,rv,x,xr,e1,q,qs⟩:=ru
  subst e1
  cases rv with
  | cons r1 r2 =>
   rw[hs]
   refine assignInOrder_cons (h1 pj s σ H ι σi h v _ (λ f s'=>Zy (Z8 X.prog X.w) X.A (Zea ((ZaJ ts X.env).map (·.2)) _) (λ _ s'=>Q .next s') E s') E N ⟨x,r1,q⟩ ?_)
   have K':JK ce X pj ι H (match g v σi h with|.next σ' h'=>r vs σ' h'|.exc n σ' h'=>.exc n σ' h'|_=>.stuck) Q E:=K
   cases e:g v σi h with
   | next σ' h' =>
    rw[e] at K'
    exact λ s' σ2 H' ι' N' n'=>h2 pj s' σ2 H' ι' σ' h' vs _ Q E N' ⟨xr,r2,RVs.mono n' _ _ qs⟩ (JK.mono (r:=r vs σ' h') K' n')
   | exc n σ' h'=>rw[e] at K';exact K'
   | _=>rw[e] at K';exact(show False from K').elim
def gTp (n:Nat)(g:List IV->ISt->IH->SRes):G1:=λ v σ h=>match v with
 | .tup xs=>if xs.length=n then g xs σ h else .stuck
 | .ref i=>(match h[i]? with
  | some (.lst xs)=>if xs.length=n then g xs σ h else .stuck
  | _=>.stuck)
 | _=>.stuck
theorem J2v {es:List Expr}{k n:Nat}{g:List IV->ISt->IH->SRes}(hc:X.calm=Zi)(hg:PGsi ce X es g)(hn:(ZaJ es X.env).length=n:=by rfl)(hst:(ZaJ es X.env).findIdx? (·.1)=Zc:=by rfl):PGi ce X (.Tuple es k pos) (gTp n g):=by
 intro pj s σ H ι σi h v u Q E N r K
 obtain⟨w,rw',q⟩:=r
 cases v with
 | tup xs =>
  obtain⟨a,vs,e1,sa,ra⟩:=q
  subst e1
  cases rw'
  unfold gTp at K
  dsimp only at K
  split at K
  ·rename_i hl
   obtain⟨its,rv,ht,hz⟩:=N.inv.tuple sa
   have l1:=ra.length
   have l2:=rv.length
   refine assign_Tuple_tuple (N.inv.ok.hd hc) ht (by simp only[Zs];omega) hst λ h' hx=>?_
   have I1:Inv X pj σ H { s with heap:=h' }:=N.inv.kept (t':=s.toks) λ b o e=>hx b o (Z7 (Z4 e)) e
   exact hg pj _ σ H ι σi h xs _ Q E ⟨I1,N.rel,N.st⟩ ⟨vs,by simpa using rv,ra⟩ K
  ·exact Zf K
 | ref i =>
  obtain⟨a,e1,ha⟩:=q
  subst e1
  cases rw'
  unfold gTp at K
  dsimp only at K
  cases hi:h[i]? with
  | none=>rw[hi] at K;exact Zf K
  | some ob =>
   rw[hi] at K
   cases ob with
   | lst xs =>
    dsimp only at K
    split at K
    ·rename_i hl
     obtain⟨vs,g1,ra⟩:=N.at hi ha
     obtain⟨its,rv,ht,hz⟩:=N.inv.list (SqL.of g1)
     have l1:=ra.length
     have l2:=rv.length
     refine Je9 (N.inv.ok.hd hc) ht.isList (by simp only[Zs];omega) hst λ h' hx=>?_
     have I1:Inv X pj σ H { s with heap:=h' }:=N.inv.kept (t':=s.toks) λ b o e=>hx b o (Z7 (Z4 e)) e
     exact hg pj _ σ H ι σi h xs _ Q E ⟨I1,N.rel,N.st⟩ ⟨vs,by simpa using rv,ra⟩ K
    ·exact Zf K
   | _=>exact Zf K
 | _=>exact Zf K
def sAsg (e:E1)(g:G1):S1:=λ σ h=>rS σ (e σ h) λ v h'=>g v σ h'
theorem J30 {tg:Expr}{g:G1}(he:PEi ce X e me)(hg:PGi ce X tg g)(hs:swapsWithSole [tg] e pos.line X.env=pure Zk:=by rfl)(hw:swappedStores [tg] e X.env=pure Zc:=by rfl)
  (h1:(ZaJ [tg] X.env).map (·.2)=[Zdi tg X.env]:=by rfl):PS1 ce X (.Assign [tg] e pos) (sAsg me g):=λ pj s σ H ι σi h Q E N K =>
 wpAny_Assign_stores (krun he N K λ v h2 u s1 H1 ι1 N1 n1 r1 K1=>by
  rw[h1]
  exact hg pj s1 σ H1 ι1 σi h2 v u Q E N1 r1 K1) hs hw
end
section
variable {X:Cx}{pj:PnT}{σ:L2.St}{H:Hp}{s:Zn}{M:Model}{E:QvT}{Q:Unit->Zn->Prop}{a C:Zo}{tv:Zg}{d:Option Zo}{h3:Zau}{s1:Zn}
end
def CXI (P:ZB)(w:Zab):CXT:=λ outer H s E e s'=>∃H',s'.os=s.os/\ZcT s'.gens/\Un (frs outer) [] H H' s.heap s'.heap/\HOk P w H' s'.heap/\E e Zc H'
section
variable {X:Cx}{pj:PnT}{σ:L2.St}{H:Hp}{s:Zn}{k:Nat}{f C:Zo}{fd:Za2}{ps:List Str}{sp:Sp}{dvs:List V}{ds:List Zg}{E:XK}{Q:VK}{us:List Zg}{vs:List V}{W:QvT}
theorem Jwk (I:Inv X pj σ H s)(h:CXI X.prog X.w X.stack H s E e s'):∃H',Inv X pj σ H' s'/\E e Zc H':=by
 obtain⟨H',os,bare,un,hok,q⟩:=h
 exact⟨H',I.call' os un hok bare λ b z=>absurd z 03,q⟩
theorem Jyk (F:FnOk X.prog X.w X.K X.mg X.base (CXI X.prog X.w) k f fd ps sp)(hr:Room k X.A)(hb:Qn X.K fd ps ds)(hd:Vals dvs ds)(I:Inv X pj σ H s)(r:Vals vs us)(h:sp (vs++dvs) H Q E) 
  (hx:∀e s' H',Inv X pj σ H' s'->E e Zc H'->W e s'):Zy (Z8 X.prog X.w) X.A (call (.ref f) us) (EP X pj σ Q) W s:=by
 have ra:Vals (vs++dvs) (us++ds):=r.append hd
 have la:=ra.length
 have lf:=F.len _ _ _ _ h
 refine Zeh (Zc5 (F.run _ _ _ _ ⟨us,[]⟩ _ _ _ _ hr I.env0 (hb s us I.kIn 00) ra h) λ res s' q=>?_)
 match res,q with
 | .error e,q =>
  obtain⟨H',I',z⟩:=Jwk I q
  exact hx e s' H' I' z
 | .ok (.ret u),q=>exact I.after q
 | .ok .next,q=>exact ZaT q
 | .ok .brk,q=>exact ZaT q
 | .ok .cont,q=>exact ZaT q
theorem Jsb (M:Mk X.K C f)(F:FnOk X.prog X.w X.K X.mg X.base (CXI X.prog X.w) k f fd ps sp)(hr:Room (k+1) X.A)(hb:Qn X.K fd ps ds)(hd:Vals dvs ds)(I:Inv X pj σ H s)(r:Vals vs us) 
  (h:∀x dx,H x=Zc->H dx=Zc->dx≠x->sp (.ref x::(vs++dvs)) (upd (upd H dx (.own x)) x (.ins C dx [])) (λ v H2=>v=.non/\Q (.ref x) H2) E)
  (hx:∀e s' H',Inv X pj σ H' s'->E e Zc H'->W e s'):Zy (Z8 X.prog X.w) X.A (call (.ref C) us) (EP X pj σ Q) W s:=by
 have z0:=s.heap.objs.size
 have hq:=h (s.heap.objs.size+1) s.heap.objs.size (I.hok.fresh (Zbg _)) (I.hok.fresh (Zp _)) (Z7 (Za0 _))
 have J:=Inv.made (C:=C) I
 have ra:Vals (V.ref (s.heap.objs.size+1)::(vs++dvs)) (ZdU (s.heap.objs.size+1)::(us++ds)):=.cons rfl (r.append hd)
 have la:=ra.length
 have lf:=F.len _ _ _ _ hq
 have hl:(ZdU (s.heap.objs.size+1)::us++ds).length=ps.length:=by
  rw[ZS]
  omega
 refine Zeh (Jue (f:=f) I.kIn M.makes M.init (beq_iff_eq.mp M.fn) (Zc5 (F.run _ _ _ _ ⟨.ref (s.heap.objs.size+1)::us,[]⟩ _ _ _ _ (hr.make C us []) (J.env0.make C us []) (hb _ (.ref (s.heap.objs.size+1)::us) J.kIn hl) ra hq) λ res s' q=>?_))
 match res,q with
 | .error e,q =>
  obtain⟨H',I',z⟩:=Jwk J q
  exact hx e s' H' I' z
 | .ok (.ret u),q =>
  obtain⟨v,H',J3,rv,ev,q3⟩:=J.after q
  subst ev
  exact⟨rv,⟨V.ref (s.heap.objs.size+1),H',J3,rfl,q3⟩⟩
 | .ok .next,q=>exact ZaT q
 | .ok .brk,q=>exact ZaT q
 | .ok .cont,q=>exact ZaT q
end
structure ItI where
 xs:List IV
 chk:IH->Prop
open Classical in
def Ql (chk:IH->Prop)(g:G1)(b:S1):List IV->ISt->IH->SRes
 | [],σ,h=>if chk h then .next σ h else .stuck
 | x::xs,σ,h=>if chk h then(match g x σ h with
   | .next σ1 h1=>(match b σ1 h1 with
    | .next σ2 h2=>Ql chk g b xs σ2 h2
    | .cont σ2 h2=>Ql chk g b xs σ2 h2
    | .brk σ2 h2=>.next σ2 h2
    | .ret v h2=>.ret v h2
    | _=>.stuck)
   | _=>.stuck) else .stuck
abbrev I1:=ISt->IH->Res ItI
def sFor (it:I1)(g:G1)(b:S1):S1:=λ σ h=>rS σ (it σ h) λ J h'=>Ql J.chk g b J.xs σ h'
structure ItOk (ce:CeT)(K:W.Frag)(ι:List Zo)(H₀:Hp)(J:It)(I:ItI):Prop where
 go:∀(k:Nat)(x:IV)(h:IH)(H:Hp)(ι':List Zo),Nxt ι H₀ ι' H->Rel ce K ι' h H->I.chk h->I.xs[k]?=Za x ->
  J.go k H/\∀y H',J.yld k H y H'->Rel ce K ι' h H'/\Nxt ι' H ι' H'/\RV K ι' H' x y
 stop:∀(k:Nat)(h:IH)(H:Hp)(ι':List Zo),Nxt ι H₀ ι' H->Rel ce K ι' h H->I.chk h->I.xs.length<=k->J.stop k H
theorem Rel.get {ce:CeT}{K:W.Frag}{ι:List Zo}{h:IH}{H:Hp}(R:Rel ce K ι h H){i:Nat}{o:IX}(e:h[i]?=Za o){a:Zo}(ha:ι[i]?=Za a):RO ce K ι H a o:=by
 obtain⟨b,e1,r⟩:=R.at_ i o e
 rw[ha] at e1
 cases e1
 exact r
def RIt (ce:CeT)(X:Cx)(tg:Expr)(pj:PnT)(ι':List Zo)(I:ItI)(itv:Zg)(s2:Zn)(H':Hp):Prop :=
 ∃(it:Zo)(fp:List Zo)(tn:Nat->Zau->Prop)(J:It),itv=.ref it/\Turn X.prog X.w X.K tg J fp it tn/\tn 0 s2.heap/\(∀b∈fp,FpOk X pj H' b)/\ItOk ce X.K ι' H' J I
def PIi (ce:CeT)(X:Cx)(tg iter:Expr)(m:I1):Prop :=
 ∀(pj:PnT)(s:Zn)(σ:L2.St)(H:Hp)(ι:List Zo)(σi:ISt)(h:IH)(Q:QvT)(E:QvT),Now ce X pj ι σi h σ H s ->
  (match m σi h with
   | .ok I h'=>∀itv s' H' ι',Now ce X pj ι' σi h' σ H' s'->Nxt ι H ι' H'->RIt ce X tg pj ι' I itv s' H'->Q itv s'
   | .exc n h'=>∀pl a s' H' ι',Now ce X (pj++pl) ι' σi h' σ H' s'->Nxt ι H ι' H'->ι'[n]?=Za a->E (.ref a) s'
   | .stuck=>False) ->
  Zy (Z8 X.prog X.w) X.A (ZaU iter X.env) (λ v s1=>Zy (Z8 X.prog X.w) X.A (Zeg v) Q E s1) E s
section
variable {ce:CeT}{X:Cx}
theorem nof {M:Model}{A:ZK}{α:Type}{t:Sem α}{Q:α->Zn->Prop}{E:QvT}{s:Zn}(h:Zy M A t Q (λ _ _=>False) s):Zy M A t Q E s:=Zaf h (λ _ _ x=>x) λ _ _ z=>z.elim
theorem Now.pins {pj:PnT}{pl:PnT}{ι:List Zo}{σi:ISt}{h:IH}{σ:L2.St}{H:Hp}{s:Zn}(N:Now ce X (pj++pl) ι σi h σ H s):Now ce X pj ι σi h σ H s:=⟨N.inv.unpinned,N.rel,N.st⟩
theorem J33 {tg iter:Expr}{body:List ZcC}{mi:I1}{g:G1}{mb:S1}{pos:Pos}(hc:X.calm=Zi)(hst:X.stack=X.env::X.outer)(hf:X.env.frame=Za X.env.locals)(hi:PIi ce X tg iter mi)(hg:PGi ce X tg g)(hb:PS2 ce X body mb)
  (hs:∀x,ZbS iter X.env x=pure x:=by intro _;rfl):PS1 ce X (.For tg iter body [] pos) (sFor mi g mb):=by
 intro pj s σ H ι σi h Q E N K
 refine wpAny_For (hi pj s σ H ι σi h _ E N ?_) hs
 unfold sFor at K
 cases e0:mi σi h with
 | exc n h'=>rw[e0] at K;exact λ pl a s' H' ι' N' n' q=>K pl a s' σ H' ι' N' n' q s' (.inl rfl)
 | stuck=>rw[e0] at K;exact K
 | ok I h' =>
  rw[e0] at K
  intro itv s2 H2 ι2 N2 n2 R
  obtain⟨it,fp,tn,J,e,T,st2,f2,OK⟩:=R
  subst e
  have stat:∀{H':Hp},(∀b∈fp,H' b=Zc)->∀b∈fp,FpOk X pj H' b:=λ hn b hb=>⟨hn b hb,(f2 b hb).2⟩
  have K2:JK ce X pj ι2 H2 (Ql I.chk g mb I.xs σi h') Q E:=JK.mono (r:=Ql I.chk g mb I.xs σi h') K n2
  refine codeAny_forLoop_any (λ n s'=>∃k ιk σk hk σ' H',Now ce X pj ιk σk hk σ' H' s'/\Nxt ι2 H2 ιk H'/\tn k s'.heap/\(∀b∈fp,H' b=Zc)/\n=I.xs.length-k/\k<=I.xs.length/\JK ce X pj ιk H' (Ql I.chk g mb (I.xs.drop k) σk hk) Q E) ?_ I.xs.length
   ⟨0,ι2,σi,h',σ,H2,N2,.refl,st2,λ b hb=>(f2 b hb).1,03,Zac _,by simpa using K2⟩
  rintro n s3 ⟨k,ιk,σk,hk,σ3,H3,N3,n3,st3,fr3,rfl,hkl,K3⟩
  by_cases hlt:k<I.xs.length
  ·-- a turn
   have hd:I.xs.drop k=I.xs[k]::I.xs.drop (k+1):=ZaH hlt
   rw[hd] at K3
   unfold Ql at K3
   split at K3
   ·rename_i hck
    obtain⟨go,yl⟩:=OK.go k I.xs[k] hk H3 ιk n3 N3.rel hck (Zb hlt)
    refine nof (thn (T.item X rfl rfl rfl hc k pj s3 σ3 H3 (λ _ _=>False) N3.inv (stat fr3) st3 go) λ r s4 ⟨u,hr,h4⟩=>?_)
    subst hr
    refine nof (thn h4 λ _ s5 ⟨x,H5,I5,r5,y5,st5,fr5⟩=>?_)
    obtain⟨R5,n5,q5⟩:=yl x H5 y5
    have I5':=I5.pinned (stat fr5) (T.obj _ _ st5)
    have N5:Now ce X (pj++QZ fp s5.heap) ιk σk hk σ3 H5 s5:=⟨I5',R5,N3.st.mono n5⟩
    cases eg:g I.xs[k] σk hk with
    | next σg hgg =>
     rw[eg] at K3
     dsimp only at K3
     refine nof (hg _ s5 σ3 H5 ιk σk hk _ u (λ _ s6=>Zy (Z8 X.prog X.w) X.A (execs body X.env) _ _ s6) (λ _ _=>False) N5 ⟨x,r5,q5⟩ ?_)
     rw[eg]
     intro s6 σ6 H6 ι6 N6 n6
     refine hb _ s6 σ6 H6 ι6 σg hgg _ _ N6 ?_
     have again:∀{σ7:L2.St}{H7:Hp}{s7:Zn}{σ7i:ISt}{h7:IH}{ι7:List Zo},Now ce X (pj++QZ fp s5.heap) ι7 σ7i h7 σ7 H7 s7->Nxt ι6 H6 ι7 H7->JK ce X pj ιk H3 (Ql I.chk g mb (I.xs.drop (k+1)) σ7i h7) Q E ->
       ∃m,m<I.xs.length-k/\∃k ιk σk hk σ' H',Now ce X pj ιk σk hk σ' H' s7/\Nxt ι2 H2 ιk H'/\tn k s7.heap/\(∀b∈fp,H' b=Zc)/\m=I.xs.length-k/\k<=I.xs.length/\JK ce X pj ιk H' (Ql I.chk g mb (I.xs.drop k) σk hk) Q E :=
      λ {σ7 H7 s7 σ7i h7 ι7} N7 n7 K7=>by
       have nn:Nxt ιk H3 ι7 H7:=(n5.trans n6).trans n7
       refine⟨I.xs.length-(k+1),00,k+1,ι7,σ7i,h7,σ7,H7,N7.pins,n3.trans nn,T.keep _ _ _ st5 λ b hb o e=>(N7.inv.pin (b,o) (Zj _ (Zj _ (Ys hb e)))).1,λ b hb=>?_,rfl,hlt,K7.mono nn⟩
       obtain⟨o,e,d⟩:=T.obj _ _ st5 b hb
       exact(N7.inv.pin (b,o) (Zj _ (Zj _ (Ys hb e)))).2.1
     cases eb:mb σg hgg with
     | next σ7i h7 =>
      rw[eb] at K3
      exact λ s7 σ7 H7 ι7 N7 n7=>again N7 n7 K3
     | cont σ7i h7 =>
      rw[eb] at K3
      exact λ s7 σ7 H7 ι7 N7 n7=>again N7 n7 K3
     | brk σ7i h7 =>
      rw[eb] at K3
      exact λ s7 σ7 H7 ι7 N7 n7=>K3 s7 σ7 H7 ι7 N7.pins ((n5.trans n6).trans n7)
     | ret v h7 =>
      rw[eb] at K3
      exact λ u s7 σ7i σ7 H7 ι7 N7 n7 r=>K3 u s7 σ7i σ7 H7 ι7 N7.pins ((n5.trans n6).trans n7) r
     | _=>rw[eb] at K3;exact Zf K3
    | _=>rw[eg] at K3;exact Zf K3
   ·exact Zf K3
  ·have hke:I.xs.drop k=[]:=Zc6 00
   rw[hke] at K3
   unfold Ql at K3
   split at K3
   ·rename_i hck
    have stop:=OK.stop k hk H3 ιk n3 N3.rel hck 00
    refine nof (thn (T.done X rfl rfl rfl hc k pj s3 σ3 H3 (λ _ _=>False) N3.inv (stat fr3) st3 stop) λ r s4 ⟨hr,I4⟩=>?_)
    subst hr
    exact ZcQ (K3 s4 σ3 H3 ιk ⟨I4,N3.rel,N3.st⟩ .refl)
   ·exact Zf K3
noncomputable def itOf:IV->IH->Res ItI
 | .ref i,h=>match h[i]? with
  | some (.lst xs)=>.ok ⟨xs,λ h'=>h'[i]?=Za (.lst xs)⟩ h
  | _=>.stuck
 | .rol xs,h=>.ok ⟨xs,λ _=>True⟩ h
 | .tup xs,h=>.ok ⟨xs,λ _=>True⟩ h
 | _,_=>.stuck
def iVal (e:E1):I1:=λ σ h=>(e σ h).bind itOf
variable {tg:Expr}
theorem J0n {a:Zo}{i:Nat}{xs:List IV}{ι:List Zo}{H₀:Hp}(ha:ι[i]?=Za a):ItOk ce X.K ι H₀ (Itl X.K a) ⟨xs,λ h'=>h'[i]?=Za (.lst xs)⟩:=by
 refine⟨λ k x h H ι' hp R hck hx=>?_,λ k h H ι' hp R hck hx=>?_⟩
 ·obtain⟨vs,e1,r1⟩:=R.get hck (hp.at ha)
  obtain⟨v,hv,qv⟩:=r1.get hx
  refine⟨⟨vs,v,SqL.of e1,hv⟩,λ y H' hy=>?_⟩
  obtain⟨rfl,hy⟩:=hy
  have:=hy vs (SqL.of e1)
  rw[hv] at this
  cases this
  exact⟨R,.refl,qv⟩
 ·obtain⟨vs,e1,r1⟩:=R.get hck (hp.at ha)
  exact⟨vs,SqL.of e1,by rw[r1.length];exact hx⟩
theorem J0o {a:Zo}{xs:List IV}{vs:List V}{ι:List Zo}{H₀:Hp}(sa:SqR X.K H₀ a vs)(ra:RVs X.K ι H₀ xs vs):ItOk ce X.K ι H₀ (Itl X.K a) ⟨xs,λ _=>True⟩:=by
 refine⟨λ k x h H ι' hp R hck hx=>?_,λ k h H ι' hp R hck hx=>?_⟩
 ·obtain⟨v,hv,qv⟩:=ra.get hx
  have sq:=(hp.ext.sqR sa).sq
  refine⟨⟨vs,v,sq,hv⟩,λ y H' hy=>?_⟩
  obtain⟨rfl,hy⟩:=hy
  have:=hy vs sq
  rw[hv] at this
  cases this
  exact⟨R,.refl,RV.mono hp _ _ qv⟩
 ·exact⟨vs,(hp.ext.sqR sa).sq,by rw[ra.length];exact hx⟩
theorem J0p {a:Zo}{xs:List IV}{vs:List V}{ι:List Zo}{H₀:Hp}(sa:SqT X.K H₀ a vs)(ra:RVs X.K ι H₀ xs vs):ItOk ce X.K ι H₀ (Itt X.K a) ⟨xs,λ _=>True⟩:=by
 refine⟨λ k x h H ι' hp R hck hx=>?_,λ k h H ι' hp R hck hx=>?_⟩
 ·obtain⟨v,hv,qv⟩:=ra.get hx
  have sq:=hp.ext.sqT sa
  refine⟨⟨vs,v,sq,hv⟩,λ y H' hy=>?_⟩
  obtain⟨rfl,hy⟩:=hy
  have:=hy vs sq
  rw[hv] at this
  cases this
  exact⟨R,.refl,RV.mono hp _ _ qv⟩
 ·exact⟨vs,hp.ext.sqT sa,by rw[ra.length];exact hx⟩
theorem Jrb {l:Expr}{ml:E1}(hl:PEi ce X l ml):PIi ce X tg l (iVal ml):=by
 intro pj s σ H ι σi h Q E N K
 refine hl pj s σ H ι σi h _ E N ?_
 unfold iVal at K
 cases e0:ml σi h with
 | exc n h'=>rw[e0] at K;exact K
 | stuck=>rw[e0] at K;exact K
 | ok v h' =>
  rw[e0] at K
  intro u s1 H1 ι1 N1 n1 r1
  obtain⟨w,rw',q⟩:=r1
  have fresh:∀b∈[s1.heap.objs.size],FpOk X pj H1 b:=λ b hb=>by
   have e:b=s1.heap.objs.size:=by simpa using hb
   subst e
   exact N1.inv.fpOk (Zp _) (N1.inv.hok.fresh (Zp _))
  cases v with
  | ref i =>
   obtain⟨a,e1,ha⟩:=q
   subst e1
   cases rw'
   cases hi:h'[i]? with
   | none=>simp only[Res.bind,itOf,hi] at K
   | some o =>
    cases o with
    | lst xs =>
     simp only[Res.bind,itOf,hi] at K
     obtain⟨vs,e1,r1⟩:=N1.at hi ha
     obtain⟨its,rv,p,hz⟩:=N1.inv.list (SqL.of e1)
     refine ZaM p.isList (K _ _ H1 ι1 ⟨N1.inv.kept (t':=s1.toks) λ b o e=>Zh _ e,N1.rel,N1.st⟩ n1 ?_)
     exact⟨s1.heap.objs.size,[s1.heap.objs.size],_,Itl X.K a,rfl,Jl3 a _,⟨_,Z1 _ rfl,rfl,rfl⟩,fresh,J0n ha⟩
    | _=>simp only[Res.bind,itOf,hi] at K
  | rol xs =>
   obtain⟨a,vs,e1,sa,ra⟩:=q
   subst e1
   cases rw'
   simp only[Res.bind,itOf] at K
   obtain⟨its,rv,p,hz⟩:=N1.inv.list sa.sq
   refine ZaM p.isList (K _ _ H1 ι1 ⟨N1.inv.kept (t':=s1.toks) λ b o e=>Zh _ e,N1.rel,N1.st⟩ n1 ?_)
   exact⟨s1.heap.objs.size,[s1.heap.objs.size],_,Itl X.K a,rfl,Jl3 a _,⟨_,Z1 _ rfl,rfl,rfl⟩,fresh,J0o sa ra⟩
  | tup xs =>
   obtain⟨a,vs,e1,sa,ra⟩:=q
   subst e1
   cases rw'
   simp only[Res.bind,itOf] at K
   obtain⟨its,rv,p,hz⟩:=N1.inv.tuple sa
   refine wpAny_pyIter_tuple (show s1.heap.IsTuple a its.toArray from p) (K _ _ H1 ι1 ⟨N1.inv.kept (t':=s1.toks) λ b o e=>Zh _ e,N1.rel,N1.st⟩ n1 ?_)
   exact⟨s1.heap.objs.size,[s1.heap.objs.size],_,Itt X.K a,rfl,Jpy a _,⟨_,Z1 _ rfl,rfl,rfl⟩,fresh,J0p sa ra⟩
  | _=>simp only[Res.bind,itOf] at K
noncomputable def rngI (lo hi:Int):List IV:=(ZT (hi-lo).toNat).map λ k=>.int (lo+(k:Nat))
def JV:List IV->IH->Res ItI
 | [.int j],h=>if -(2^62)<=j/\j<2^62 then .ok ⟨rngI 0 j,λ _=>True⟩ h else .stuck
 | _,_=>.stuck
def VG:List IV->IH->Res ItI
 | [.int i,.int j],h=>if -(2^62)<=i/\i<2^62/\ -(2^62)<=j/\j<2^62 then .ok ⟨rngI i j,λ _=>True⟩ h else .stuck
 | _,_=>.stuck
theorem Jk8 {vs:List IV}{h:IH}(hv:¬ ∃i j,vs=[.int i,.int j]):VG vs h=.stuck:=by
 unfold VG
 split
 ·exact absurd ⟨_,_,rfl⟩ hv
 ·rfl
def iRg (f:List IV->IH->Res ItI)(a:A1):I1:=λ σ h=>(a σ h).bind f
theorem J1l {lo hi:Int}{ι:List Zo}{H₀:Hp}:ItOk ce X.K ι H₀ (Itr lo (hi-lo).toNat) ⟨rngI lo hi,λ _=>True⟩:=by
 refine⟨λ k x h H ι' hp R hck hx=>?_,λ k h H ι' hp R hck hx=>?_⟩
 ·have hk:k<(hi-lo).toNat:=by
   have:=(Zq.mp hx).1
   simpa [rngI] using this
  refine⟨hk,λ y H' hy=>?_⟩
  obtain⟨rfl,rfl⟩:=hy
  simp only[rngI,Zt,Zch hk] at hx
  cases hx
  exact⟨R,.refl,rfl⟩
 ·have:(rngI lo hi).length=(hi-lo).toNat:=by simp[rngI]
  show(hi-lo).toNat<=k
  rw[<- this]
  exact hx
theorem Jlf {pj:PnT}{σ:L2.St}{H:Hp}{ι:List Zo}{σi:ISt}{h:IH}{s:Zn}{Q:QvT}{E:QvT}{lo hi:Int}{t u v:Tok}{tk:Nat}(N:Now ce X pj ι σi h σ H s)
  (h1: -(2^62)<=lo)(h2:lo<2^62)(h3: -(2^62)<=hi)(h4:hi<2^62)
  (K:∀itv s' H' ι',Now ce X pj ι' σi h σ H' s'->Nxt ι H ι' H'->RIt ce X tg pj ι' ⟨rngI lo hi,λ _=>True⟩ itv s' H'->Q itv s') :
  Zy (Z8 X.prog X.w) X.A (Zeg (.ref s.heap.objs.size)) Q E { s with heap:=s.heap.push { cls:=.type "range",data:=.fields #[.int lo t,.int hi u,.int 1 v] },toks:=tk }:=by
 have:=Juq (X:=X) (tg:=tg) (E:=E) (R:=λ J H'=>J=Itr lo (hi-lo).toNat/\H'=H) (t:=t) (u:=u) (v:=v) (tk:=tk) N.inv h1 h2 h3 h4 ⟨rfl,rfl⟩
 refine Zaf this (λ itv s' hq=>?_) λ _ _ z=>z
 obtain⟨it,fp,tn,J,H',e,I',T,st,f,rfl,rfl⟩:=hq
 exact K itv s' _ ι ⟨I',N.rel,N.st⟩ .refl ⟨it,fp,tn,_,e,T,st,f,J1l⟩
theorem Jtu {a:Expr}{ma:A1}{p pos:Pos}(hg:Gl X "range")(hm:X.mg "range"=Zc)(ha:PAi ce X [a] ma)(hs:ZF [a] X.env=[(Zk,ZaU a X.env)]:=by rfl):PIi ce X tg (.Call (.Name "range" p) [a] [] pos) (iRg JV ma):=by
 intro pj s σ H ι σi h Q E N K
 refine Call_ (Qz N.inv hg hm boot_range (ZaA ?_ hs rfl))
 refine ha pos pj s σ H ι σi h _ E N ?_
 unfold iRg at K
 cases e0:ma σi h with
 | exc n h'=>rw[e0] at K;exact K
 | stuck=>rw[e0] at K;exact K
 | ok vs h' =>
  rw[e0] at K
  intro us s1 H1 ι1 N1 n1 r1
  obtain⟨xs,rv,qs⟩:=r1
  match vs,K with
  | [.int j],K =>
   obtain⟨w,r,e1,q,q2⟩:=qs
   have e2:r=[]:=q2
   subst e1 e2
   have e3:w=.int j:=q
   subst e3
   cases rv with
   | cons r rr =>
    cases rr
    obtain⟨t,rfl⟩:=r
    simp only[Res.bind,JV] at K
    by_cases hb: -(2^62)<=j/\j<2^62
    ·rw[if_pos hb] at K
     exact call_range_1 (Jlf N1 00 00 hb.1 hb.2 λ itv s' H' ι' N' n' R=>K itv s' H' ι' N' (n1.trans n') R)
    ·rw[if_neg hb] at K
     exact K.elim
  | [],K=>exact Zf K
  | .non::_,K=>exact Zf K
  | .bl _::_,K=>exact Zf K
  | .str _::_,K=>exact Zf K
  | .tup _::_,K=>exact Zf K
  | .rol _::_,K=>exact Zf K
  | .ref _::_,K=>exact Zf K
  | .int _::_::_,K=>exact Zf K
theorem Jtv {a b:Expr}{ma:A1}{p pos:Pos}(hg:Gl X "range")(hm:X.mg "range"=Zc)(ha:PAi ce X [a,b] ma)(hs:ZF [a,b] X.env=[(Zk,ZaU a X.env),(Zk,ZaU b X.env)]:=by rfl)(hs2:ZF [b] X.env=[(Zk,ZaU b X.env)]:=by rfl) :
  PIi ce X tg (.Call (.Name "range" p) [a,b] [] pos) (iRg VG ma):=by
 intro pj s σ H ι σi h Q E N K
 refine Call_ (Qz N.inv hg hm boot_range (ZaA ?_ (by rw[hs,hs2]) (by rw[hs2];rfl)))
 refine ha pos pj s σ H ι σi h _ E N ?_
 unfold iRg at K
 cases e0:ma σi h with
 | exc n h'=>rw[e0] at K;exact K
 | stuck=>rw[e0] at K;exact K
 | ok vs h' =>
  rw[e0] at K
  intro us s1 H1 ι1 N1 n1 r1
  obtain⟨xs,rv,qs⟩:=r1
  by_cases hv:∃i j,vs=[.int i,.int j]
  ·obtain⟨i,j,rfl⟩:=hv
   obtain⟨w,r,e1,q,w',r',e1',q',q2⟩:=qs
   have e2:r'=[]:=q2
   subst e1 e1' e2
   have e3:w=.int i:=q
   have e4:w'=.int j:=q'
   subst e3 e4
   cases rv with
   | cons r rr =>
    cases rr with
    | cons r' rr =>
     cases rr
     obtain⟨t,rfl⟩:=r
     obtain⟨t',rfl⟩:=r'
     simp only[Res.bind,VG] at K
     by_cases hb: -(2^62)<=i/\i<2^62/\ -(2^62)<=j/\j<2^62
     ·rw[if_pos hb] at K
      exact call_range_2 (Jlf N1 hb.1 hb.2.1 hb.2.2.1 hb.2.2.2 λ itv s' H' ι' N' n' R=>K itv s' H' ι' N' (n1.trans n') R)
     ·rw[if_neg hb] at K
      exact K.elim
  ·simp only[Res.bind,Jk8 hv] at K
end
end L3
namespace L3
open PySem PySem.Spec PySem.Calls PyProof.Rows L2
section
variable {prog:ZB}{w:Zab}{A:ZK}{E:QvT}{s:Zn}{K:W.Frag}{x D:Zo}{ox:Obj}
open PySem.W PySem.Builtin PySem.Builtin.ObjectAttr PySem.Builtin.Getset_descriptor in
end
structure ExI (K:W.Frag)(C:Zo):Prop where
 ga:W.findIn K (.ref C) "__getattribute__"=Za (Za (.builtin "BaseException.__getattribute__"))
 mb:W.mroIn K C (.type "BaseException")=Za Zi
 gn:W.findIn K (.ref C) "__getattr__"=Za Zc
 ca:W.findIn K (.ref C) "__class__"=Za (Za (.builtin "object.__class__"))
 mo:W.mroIn K C (.type "object")=Za Zi
 hd:W.hasDictIn K C=Zi
theorem ExI.at_ {K:W.Frag}{C:Zo}(e:ExI K C):∃c d cd sl,K.lookup C=Za ⟨c,d,.cls cd,sl⟩:=by
 obtain⟨cd,hc,_⟩:=W.any_some e.hd
 unfold W.clsIn at hc
 split at hc
 case h_2=>cases hc
 rename_i c d cd' sl ho
 exact⟨c,d,cd',sl,ho⟩
end L3
namespace L3
open PySem PySem.Spec PyProof.Rows L2
def XI (n:Nat)(vs:List IV):ISt:=vs.map Za++ZI (n-vs.length) Zc
noncomputable def SRes.fin (r:SRes):Res IV:=match r with
 | .next _ h'=>.ok .non h'
 | .ret v h'=>.ok v h'
 | _=>.stuck
noncomputable def fnI (n:Nat)(m:S1):List IV->IH->Res IV:=λ vs h=>(m (XI n vs) h).fin
def spI (ce:CeT)(K:W.Frag)(ps:List Str)(f:List IV->IH->Res IV):Sp:=λ vs H Q E =>
 vs.length=ps.length/\∃ι h ivs,Rel ce K ι h H/\RVs K ι H ivs vs /\
  match f ivs h with
  | .ok v h'=>∀x H' ι',Rel ce K ι' h' H'->Nxt ι H ι' H'->RV K ι' H' v x->Q x H'
  | .exc n h'=>∀a H' ι',Rel ce K ι' h' H'->Nxt ι H ι' H'->ι'[n]?=Za a->E (.ref a) Zc H'
  | .stuck=>False
theorem RVs.start {K:W.Frag}{ι:List Zo}{H:Hp}{N:List Str}{ivs:List IV}{vs:List V}(r:RVs K ι H ivs vs):RSt K ι H (XI N.length ivs) (L2.start N vs):=by
 have hl:=r.length
 refine⟨by simp[XI,L2.start,hl],λ j v e=>?_⟩
 unfold XI at e
 unfold L2.start
 by_cases hj:j<ivs.length
 ·rw[ZC (by simpa using hj),Zt] at e
  rw[ZC (by simp;omega),Zt]
  cases e1:ivs[j]? with
  | none=>rw[e1] at e;cases e
  | some w =>
   rw[e1] at e
   cases e
   obtain⟨u,hu,q⟩:=r.get e1
   exact⟨u,by rw[hu];rfl,q⟩
 ·rw[Z9 (by simpa using hj),ZbD] at e
  split at e<;>cases e
structure FunD (K:W.Frag)(x qual:Str)(st:ZcC)(f:Zo)(fd:Za2)(dV:Zg):Prop where
 ex:∃(oc:Zg)(od:Option Zo)(kV doc pm:Zg)(an:Option Zo)(cdv ct:Zg)(osl:Array (Option Zg)),
  fd=W.fnOf x qual (Q8 st) (Qh st) (JH st) dV kV doc pm an cdv ct/\K.lookup f=Za ⟨oc,od,.func fd,osl⟩/\W.codeIn K cdv qual=Zi
 kp:W.keepIn K (.ref f)=Zi
section
variable {P:ZB}{w:Zab}{K:W.Frag}{mg:Str->Option Zg}{base:Zau}{ce:CeT}
theorem FunD.fn {x qual:Str}{st:ZcC}{f:Zo}{fd:Za2}{dV:Zg}{N ps:List Str}{k n:Nat}{m:S1}(F:FunD K x qual st f fd dV)(S:FnScope N ps (JH st))
  (hbody:∀(cdv:Zg)(A:ZK)(outer:List Env)(s:Zn)(H:Hp)(E:XK),W.codeIn K cdv qual=Zi->Room k (A.deeper (Zd3 qual (JH st) s.heap.objs.size f cdv))->PS2 ce (cxOf (CXI P w) P w K mg base N qual (JH st) f cdv A outer s H E).nox (Qh st) m)(hn:N.length=n:=by rfl) :
  FnOk P w K mg base (CXI P w) (k+1) f fd ps (spI ce K ps (fnI n m)):=by
 subst hn
 obtain⟨oc,od,kV,doc,pm,an,cdv,ct,osl,rfl,lk,hcd⟩:=F.ex
 refine Jz2 lk hcd S (λ vs H Q E h=>h.1) λ A outer s H vs Q E hr hsp=>?_
 obtain⟨hl,ι,h,ivs,R,rv,hk⟩:=hsp
 refine⟨λ D σ H=>∃ι σi h,Rel ce K ι h H/\RSt K ι H σi σ/\match m σi h with
  | .next σi' h'=>∀σ' H' ι',Rel ce K ι' h' H'->RSt K ι' H' σi' σ'->Nxt ι H ι' H'->D.nx σ' H'
  | .ret v h'=>∀x H' ι',Rel ce K ι' h' H'->Nxt ι H ι' H'->RV K ι' H' v x->D.rt x H'
  | _=>False,λ pj s' σ' H' D I ht=>?_,ι,XI N.length ivs,h,R,rv.start,?_⟩
 ·obtain⟨ι,σi,h,R,rs,hm⟩:=ht
  refine Zaf (hbody cdv A outer s H E hcd hr pj s' σ' H' ι σi h (SP _ pj D) _ ⟨I.wish _,R,rs⟩ ?_) (λ _ _ z=>z) (λ _ _ z=>z)
  cases e:m σi h with
  | next σ2 h2 =>
   rw[e] at hm
   exact λ s3 σ3 H3 ι3 N3 n3=>⟨σ3,H3,N3.inv.unwish,hm σ3 H3 ι3 N3.rel N3.st n3⟩
  | ret v h2 =>
   rw[e] at hm
   exact λ u s3 σ3i σ3 H3 ι3 N3 n3 ⟨z,rz,q⟩=>⟨z,σ3,H3,N3.inv.unwish,rz,hm z H3 ι3 N3.rel n3 q⟩
  | _=>rw[e] at hm;exact hm.elim
 ·unfold fnI SRes.fin at hk
  cases e:m (XI N.length ivs) h with
  | next σ2 h2 =>
   rw[e] at hk
   exact λ σ3 H3 ι3 R3 _ n3=>hk .non H3 ι3 R3 n3 rfl
  | ret v h2 =>
   rw[e] at hk
   exact hk
  | _=>rw[e] at hk;exact hk.elim
end
noncomputable def Res.nx {α:Type}:Res α->Res α
 | .ok a h=>.ok a h
 | _=>.stuck
def Jm (f:List IV->IH->Res IV)(dvs:List IV)(a:A1):E1:=λ σ h=>(a σ h).bind λ vs h1=>f (vs++dvs) h1
def QN (c:Str)(f:List IV->IH->Res IV)(dvs:List IV)(a:A1):E1:=λ σ h=>(a σ h).bind λ vs h1=>(f (.ref h1.length::(vs++dvs)) (h1++[.ins c []])).bind λ r h2=>match r with
 | .non=>.ok (.ref h1.length) h2
 | _=>.stuck
def Jtj (m:Str)(disp:Str->Option ((List IV->IH->Res IV)×List IV))(o:E1)(a:A1):E1:=λ σ h=>(o σ h).bind λ v h1=>match v with
 | .ref i=>(match h1[i]? with
  | some (.ins c fs)=>(match disp c,fs.lookup m with
   | some (f,dvs),Zc=>(a σ h1).bind λ vs h2=>f (.ref i::(vs++dvs)) h2
   | _,_=>.stuck)
  | _=>.stuck)
 | _=>.stuck
section
variable {ce:CeT}{X:Cx}{k:Nat}{fa C:Zo}{fd:Za2}{ps:List Str}{f:List IV->IH->Res IV}{dvs:List IV}{ds:List Zg}{x m:Str}{p pos apos:Pos}{e o:Expr}{es:List Expr}{mo:E1}{ma:A1}
theorem RUs.vals {K:W.Frag}{ι:List Zo}{H:Hp}{xs:List IV}{us:List Zg}(r:RUs K ι H xs us):∃vs,Vals vs us/\RVs K ι H xs vs:=r
theorem Y0 {pj:PnT}{σ:L2.St}{H:Hp}{ι:List Zo}{σi:ISt}{h:IH}{s:Zn}{Q:QvT}{E:QvT}{us:List Zg}{xs:List IV}(F:FnOk X.prog X.w X.K X.mg X.base (CXI X.prog X.w) k fa fd ps (spI ce X.K ps f))(hr:Room k X.A)(hb:Qn X.K fd ps ds) 
  (hd:∃vs,Vals vs ds/\∀ι H,RVs X.K ι H dvs vs)(hlen:us.length+ds.length=ps.length)(N:Now ce X pj ι σi h σ H s)(r:RUs X.K ι H xs us)(K:Kont ce X RU pj ι σi σ H (f (xs++dvs) h) Q E):Zy (Z8 X.prog X.w) X.A (call (.ref fa) us) Q E s:=by
 obtain⟨vs,rv,q⟩:=r
 obtain⟨dv,rd,qd⟩:=hd
 have hl1:=rv.length
 have hl2:=rd.length
 refine Zaf (Jyk (Q:=λ z H'=>∀u s',Inv X pj σ H' s'->RelV z u->Q u s') (E:=λ v _ H'=>∀s',Inv X pj σ H' s'->E v s') F hr hb rd N.inv rv ⟨by rw[Z0];omega,ι,h,xs++dvs,N.rel,q.append (qd ι H),?_⟩ λ _ s' _ I' z=>z s' I')
  (λ u s' ⟨z,H',I',r',k'⟩=>k' u s' I' r') λ _ _ z=>z
 cases e:f (xs++dvs) h with
 | ok v h' =>
  rw[e] at K
  exact λ z H' ι' R' n' qz u s' I' ru=>K u s' H' ι' ⟨I',R',N.st.mono n'⟩ n' ⟨z,ru,qz⟩
 | exc n h' =>
  rw[e] at K
  exact λ a H' ι' R' n' hi s' I'=>K [] a s' H' ι' ⟨by simpa using I',R',N.st.mono n'⟩ n' hi
 | stuck=>rw[e] at K;exact K
theorem J0b (F:FnOk X.prog X.w X.K X.mg X.base (CXI X.prog X.w) k fa fd ps (spI ce X.K ps f))(hr:Room k X.A)(hg:Gl X x)(hm:X.mg x=Za (.ref fa))(hk:W.keepIn X.K (.ref fa)=Zi)(hb:Qn X.K fd ps ds)(hd:∃vs,Vals vs ds/\∀ι H,RVs X.K ι H dvs vs) 
  (ha:PAi ce X (e::es) ma)(hlen:∀σ h xs h',ma σ h=.ok xs h'->xs.length+ds.length=ps.length)(hdb:(x==("__debug__":Str))=Zk:=by decide)(he:ZF (e::es) X.env=(Zk,ZaU e X.env)::ZF es X.env:=by rfl)(hpl:(Zbo pos (ZF es X.env)).any (·.1)=Zk:=by rfl) :
  PEi ce X (.Call (.Name x p) (e::es) [] pos) (Jm f dvs ma):=by
 intro pj s σ H ι σi h Q E N K
 refine Zah (Xa N.inv hg hm ?_ hdb)
 refine W.callWith_K (h₀:=X.base) N.inv.ok.mod.kin hk ?_ he hpl
 have K':=K
 unfold Jm at K'
 refine ha pos pj s σ H ι σi h _ E N ?_
 cases e0:ma σi h with
 | exc n h'=>rw[e0] at K';exact K'
 | stuck=>rw[e0] at K';exact K'
 | ok xs h' =>
  rw[e0] at K'
  intro us s1 H1 ι1 N1 n1 r1
  have hl:xs.length=us.length:=by
   obtain⟨vs,rv,q⟩:=r1
   rw[<- rv.length,q.length]
  exact⟨N1.inv.kIn,Y0 (us:=us) F hr hb hd (by have:=hlen σi h xs h' e0;omega) N1 r1 (Kont.mono (r:=(f (xs++dvs) h')) K' n1)⟩
theorem Jxo (F:FnOk X.prog X.w X.K X.mg X.base (CXI X.prog X.w) k fa fd ps (spI ce X.K ps f))(hr:Room k X.A)(hg:Gl X x)(hm:X.mg x=Za (.ref fa))(hk:W.keepIn X.K (.ref fa)=Zi)(hb:Qn X.K fd ps ds)(hd:∃vs,Vals vs ds/\∀ι H,RVs X.K ι H dvs vs) 
  (hlen:ds.length=ps.length)(hdb:(x==("__debug__":Str))=Zk:=by decide):PEi ce X (.Call (.Name x p) [] [] pos) (Jm f dvs Jd):=by
 intro pj s σ H ι σi h Q E N K
 refine Zah (Xa N.inv hg hm ?_ hdb)
 exact W.callWith_K0 N.inv.kIn hk (Y0 (xs:=[]) F hr hb hd (by simpa using hlen) N .nil K)
theorem Jlh {c:Str}{pj:PnT}{σ:L2.St}{H:Hp}{ι:List Zo}{σi:ISt}{h:IH}{s:Zn}{Q:QvT}{E:QvT}{us:List Zg}{xs:List IV}(M:Mk X.K C fa)(F:FnOk X.prog X.w X.K X.mg X.base (CXI X.prog X.w) k fa fd ps (spI ce X.K ps f))(hC:ce c=Za C)(hr:Room (k+1) X.A)(hb:Qn X.K fd ps ds)
  (hd:∃vs,Vals vs ds/\∀ι H,RVs X.K ι H dvs vs)(hlen:us.length+ds.length+1=ps.length)(N:Now ce X pj ι σi h σ H s)(r:RUs X.K ι H xs us)
  (K:Kont ce X RU pj ι σi σ H ((f (.ref h.length::(xs++dvs)) (h++[.ins c []])).bind λ r h2=>match r with|.non=>.ok (.ref h.length) h2|_=>.stuck) Q E):Zy (Z8 X.prog X.w) X.A (call (.ref C) us) Q E s:=by
 obtain⟨vs,rv,q⟩:=r
 obtain⟨dv,rd,qd⟩:=hd
 have hl1:=rv.length
 have hl2:=rd.length
 refine Zaf (Jsb (Q:=λ z H'=>∀u s',Inv X pj σ H' s'->RelV z u->Q u s') (E:=λ v _ H'=>∀s',Inv X pj σ H' s'->E v s') M F hr hb rd N.inv rv (λ x dx hx hdx hne=>⟨by rw[ZD,Z0];omega,?_⟩) λ _ s' _ I' z=>z s' I')
  (λ u s' ⟨z,H',I',r',k'⟩=>k' u s' I' r') λ _ _ z=>z
 -- the new instance in the reading's heap
 obtain⟨R1,n1⟩:=N.rel.grow (o:=.own x) hdx
 have hx1:upd H dx (.own x) x=Zc:=by rw[Jx (ZR hne)];exact hx
 obtain⟨R2,n2⟩:=R1.alloc (o:=.ins C dx []) (io:=.ins c []) hx1 ⟨C,dx,[],hC,JE,rfl⟩
 have n12:=n1.trans n2
 have hat:(ι++[x])[h.length]?=Za x:=by
  rw[<- N.rel.len,Z9 (Zp _)]
  simp
 refine⟨ι++[x],h++[.ins c []],.ref h.length::(xs++dvs),R2,⟨_,_,rfl,⟨x,rfl,hat⟩,(RVs.mono n12 _ _ q).append (qd _ _)⟩,?_⟩
 cases e:f (.ref h.length::(xs++dvs)) (h++[.ins c []]) with
 | ok v h' =>
  rw[e] at K
  intro z H' ι' R' n' qz
  cases v with
  | non =>
   have ez:z=.non:=qz
   subst ez
   exact⟨rfl,λ u s' I' ru=>K u s' H' ι' ⟨I',R',N.st.mono (n12.trans n')⟩ (n12.trans n') ⟨.ref x,ru,x,rfl,n'.at hat⟩⟩
  | _=>exact Zf K
 | exc n h' =>
  rw[e] at K
  exact λ a H' ι' R' n' hi s' I'=>K [] a s' H' ι' ⟨by simpa using I',R',N.st.mono (n12.trans n')⟩ (n12.trans n') hi
 | stuck=>rw[e] at K;exact Zf K
theorem J0f {c:Str}(M:Mk X.K C fa)(F:FnOk X.prog X.w X.K X.mg X.base (CXI X.prog X.w) k fa fd ps (spI ce X.K ps f))(hC:ce c=Za C)(hr:Room (k+1) X.A)(hg:Gl X x)(hm:X.mg x=Za (.ref C))(hb:Qn X.K fd ps ds)(hd:∃vs,Vals vs ds/\∀ι H,RVs X.K ι H dvs vs)
  (ha:PAi ce X (e::es) ma)(hlen:∀σ h xs h',ma σ h=.ok xs h'->xs.length+ds.length+1=ps.length)(hdb:(x==("__debug__":Str))=Zk:=by decide)(he:ZF (e::es) X.env=(Zk,ZaU e X.env)::ZF es X.env:=by rfl)(hpl:(Zbo pos (ZF es X.env)).any (·.1)=Zk:=by rfl) :
  PEi ce X (.Call (.Name x p) (e::es) [] pos) (QN c f dvs ma):=by
 intro pj s σ H ι σi h Q E N K
 refine Zah (Xa N.inv hg hm ?_ hdb)
 refine W.callWith_K (h₀:=X.base) N.inv.ok.mod.kin M.kp ?_ he hpl
 have K':=K
 unfold QN at K'
 refine ha pos pj s σ H ι σi h _ E N ?_
 cases e0:ma σi h with
 | exc n h'=>rw[e0] at K';exact K'
 | stuck=>rw[e0] at K';exact K'
 | ok xs h' =>
  rw[e0] at K'
  intro us s1 H1 ι1 N1 n1 r1
  have hl:xs.length=us.length:=by
   obtain⟨vs,rv,q⟩:=r1
   rw[<- rv.length,q.length]
  exact⟨N1.inv.kIn,Jlh (us:=us) M F hC hr hb hd (by have:=hlen σi h xs h' e0;omega) N1 r1 (Kont.mono (r:=(f (IV.ref h'.length::(xs++dvs)) (h'++[.ins c []])).bind λ r h2=>match r with|IV.non=>Res.ok (IV.ref h'.length) h2|_=>Res.stuck) K' n1)⟩
theorem Jxr (M:Mk X.K C fa)(F:FnOk X.prog X.w X.K X.mg X.base (CXI X.prog X.w) k fa fd ps (spI ce X.K ps f))(hC:ce c=Za C)(hr:Room (k+1) X.A)(hg:Gl X x)(hm:X.mg x=Za (.ref C))(hb:Qn X.K fd ps ds)(hd:∃vs,Vals vs ds/\∀ι H,RVs X.K ι H dvs vs) 
  (hlen:ds.length+1=ps.length)(hdb:(x==("__debug__":Str))=Zk:=by decide):PEi ce X (.Call (.Name x p) [] [] pos) (QN c f dvs Jd):=by
 intro pj s σ H ι σi h Q E N K
 refine Zah (Xa N.inv hg hm ?_ hdb)
 exact W.callWith_K0 N.inv.kIn M.kp (Jlh (xs:=[]) M F hC hr hb hd (by simpa using hlen) N .nil K)
def Jpz (ce:CeT)(X:Cx)(m:Str)(n:Nat)(disp:Str->Option ((List IV->IH->Res IV)×List IV)):Prop :=
 ∀c f dvs,disp c=Za (f,dvs)->∃(C fa:Zo)(fd:Za2)(k:Nat)(ps:List Str)(ds:List Zg),ce c=Za C/\Cls X.K C/\Meth X.K C m fa/\FnOk X.prog X.w X.K X.mg X.base (CXI X.prog X.w) k fa fd ps (spI ce X.K ps f)/\Room k X.A/\Qn X.K fd ps ds/\(∃vs,Vals vs ds/\∀ι H,RVs X.K ι H dvs vs)/\n+ds.length+1=ps.length
theorem J0i {n:Nat}{disp:Str->Option ((List IV->IH->Res IV)×List IV)}{pl:Sem Bool}(ho:PEi ce X o mo)(hd:Jpz ce X m n disp)(ha:PAi ce X (e::es) ma)(hlen:∀σ h xs h',ma σ h=.ok xs h'->xs.length=n)
  (hst:ZF (e::es) X.env=(Zk,ZaU e X.env)::ZF es X.env:=by rfl)(hpl:(Zbo pos (ZF es X.env)).any (·.1)=Zk:=by rfl)
  (ht:ZaU (.Call (.Attribute o m apos) (e::es) [] pos) X.env=(do
   let ov<-ZaU o X.env
   ZdX apos.atName
   let (f,first)<-Zbp [ov] (Zdo ov m pl)
   callWith pos f first (Zbo pos (ZF (e::es) X.env)) (Zdt pos (Zcy [] X.env))):=by rfl) :
  PEi ce X (.Call (.Attribute o m apos) (e::es) [] pos) (Jtj m disp mo ma):=by
 intro pj s σ H ι σi h Q E N K
 refine W.methodCall_KW (pl:=pl) (ho.run N K λ v h1 u s1 H1 ι1 N1 n1 r1 K1=>?_) ht
 cases v with
 | ref i =>
  obtain⟨w,rw',a,e1,hi⟩:=r1
  subst e1
  cases rw'
  dsimp only at K1
  cases hh:h1[i]? with
  | none=>rw[hh] at K1;exact Zf K1
  | some ob =>
   cases ob with
   | ins c fs =>
    rw[hh] at K1
    dsimp only at K1
    cases hd1:disp c with
    | none=>rw[hd1] at K1;exact Zf K1
    | some fd1 =>
     obtain⟨f,dvs⟩:=fd1
     cases hl:fs.lookup m with
     | some z=>rw[hd1,hl] at K1;exact Zf K1
     | none =>
      rw[hd1,hl] at K1
      dsimp only at K1
      obtain⟨C,fa,fd,k,ps,ds,hC,cl,hm,F,hr,hb,hdv,hn⟩:=hd c f dvs hd1
      obtain⟨C',dx,vs,hC',hH,rp⟩:=N1.at hh hi
      rw[hC] at hC'
      cases hC'
      refine Jio N1.inv hH cl hm ((RPs.lookup rp).2 hl) ?_
      refine W.callWith_K (first:=[.ref a]) (h₀:=X.base) N1.inv.ok.mod.kin hm.kp ?_ hst hpl
      refine ha pos pj s1 σ H1 ι1 σi h1 _ E N1 ?_
      cases e0:ma σi h1 with
      | exc n h'=>rw[e0] at K1;exact K1
      | stuck=>rw[e0] at K1;exact K1
      | ok xs h' =>
       rw[e0] at K1
       intro us s2 H2 ι2 N2 n2 r2
       have hl:xs.length=us.length:=by
        obtain⟨vs,rv,q⟩:=r2
        rw[<- rv.length,q.length]
       have hl2:=hlen σi h1 xs h' e0
       refine⟨N2.inv.kIn,Y0 (us:=.ref a::us) (xs:=.ref i::xs) F hr hb hdv (by rw[ZD];omega) N2 (.cons ⟨.ref a,rfl,a,rfl,n2.at hi⟩ r2) ?_⟩
       exact Kont.mono (r:=(f (.ref i::(xs++dvs)) h')) K1 n2
   | _=>rw[hh] at K1;exact Zf K1
 | _=>exact Zf K1
theorem Jxs {disp:Str->Option ((List IV->IH->Res IV)×List IV)}{pl:Sem Bool}(ho:PEi ce X o mo)(hd:Jpz ce X m 0 disp)
  (ht:ZaU (.Call (.Attribute o m apos) [] [] pos) X.env=(do
   let ov<-ZaU o X.env
   ZdX apos.atName
   let (f,first)<-Zbp [ov] (Zdo ov m pl)
   callWith pos f first (Zbo pos (ZF [] X.env)) (Zdt pos (Zcy [] X.env))):=by rfl) :
  PEi ce X (.Call (.Attribute o m apos) [] [] pos) (Jtj m disp mo Jd):=by
 intro pj s σ H ι σi h Q E N K
 refine W.methodCall_KW (pl:=pl) (ho.run N K λ v h1 u s1 H1 ι1 N1 n1 r1 K1=>?_) ht
 cases v with
 | ref i =>
  obtain⟨w,rw',a,e1,hi⟩:=r1
  subst e1
  cases rw'
  dsimp only at K1
  cases hh:h1[i]? with
  | none=>rw[hh] at K1;exact Zf K1
  | some ob =>
   cases ob with
   | ins c fs =>
    rw[hh] at K1
    dsimp only at K1
    cases hd1:disp c with
    | none=>rw[hd1] at K1;exact Zf K1
    | some fd1 =>
     obtain⟨f,dvs⟩:=fd1
     cases hl:fs.lookup m with
     | some z=>rw[hd1,hl] at K1;exact Zf K1
     | none =>
      rw[hd1,hl] at K1
      dsimp only at K1
      obtain⟨C,fa,fd,k,ps,ds,hC,cl,hm,F,hr,hb,hdv,hn⟩:=hd c f dvs hd1
      obtain⟨C',dx,vs,hC',hH,rp⟩:=N1.at hh hi
      rw[hC] at hC'
      cases hC'
      refine Jio N1.inv hH cl hm ((RPs.lookup rp).2 hl) ?_
      exact W.callWith_K0 (first:=[.ref a]) N1.inv.kIn hm.kp (Y0 (us:=[.ref a]) (xs:=[.ref i]) F hr hb hdv (by rw[ZD,ZaQ];omega) N1 (.cons ⟨.ref a,rfl,a,rfl,hi⟩ .nil) K1)
   | _=>rw[hh] at K1;exact Zf K1
 | _=>exact Zf K1
def Jo (f:Str)(o:E1):E1:=λ σ h=>(o σ h).bind λ v h1=>match v with
 | .ref i=>(match h1[i]? with
  | some (.ins _ fs)=>(match fs.lookup f with
   | some x=>.ok x h1
   | none=>.stuck)
  | _=>.stuck)
 | _=>.stuck
def XS (ce:CeT)(K:W.Frag)(f:Str):Prop:=∀c C,ce c=Za C->Cls K C/\QJ K C f
theorem J21 (ho:PEi ce X o mo)(hf:XS ce X.K fl)(hb:ZcH o fl X.env (ZaU o X.env)=ZaU o X.env:=by rfl):PEi ce X (.Attribute o fl pos) (Jo fl mo):=by
 intro pj s σ H ι σi h Q E N K
 refine Jw2 hb (ho.run N K λ v h1 u s1 H1 ι1 N1 n1 r1 K1=>?_)
 cases v with
 | ref i =>
  obtain⟨w,rw',a,e1,hi⟩:=r1
  subst e1
  cases rw'
  dsimp only at K1
  cases hh:h1[i]? with
  | none=>rw[hh] at K1;exact Zf K1
  | some ob =>
   cases ob with
   | ins c fs =>
    rw[hh] at K1
    dsimp only at K1
    cases hl:fs.lookup fl with
    | none=>rw[hl] at K1;exact Zf K1
    | some z =>
     rw[hl] at K1
     obtain⟨C,dx,vs,hC,hH,rp⟩:=N1.at hh hi
     obtain⟨cl,na⟩:=hf c C hC
     obtain⟨y,hy,q⟩:=(RPs.lookup rp).1 z hl
     exact Jin N1.inv hH cl na hy λ u' s2 I2 ru=>K1 u' s2 H1 ι1 ⟨I2,N1.rel,N1.st⟩ .refl ⟨y,ru,q⟩
   | _=>rw[hh] at K1;exact Zf K1
 | _=>exact Zf K1
noncomputable def putI (f:Str)(v:IV):List (Str×IV)->List (Str×IV)
 | []=>[(f,v)]
 | (g,x)::r=>if g=f then(g,v)::r else(g,x)::putI f v r
theorem RPs.put {K:W.Frag}{ι:List Zo}{H:Hp}{fl:Str}{v:IV}{y:V}(q:RV K ι H v y):∀{fs:List (Str×IV)}{vs:List (Str×V)},RPs K ι H fs vs->RPs K ι H (putI fl v fs) (putF fl y vs)
 | [],_,h=>by
  have e:_=[]:=h
  subst e
  exact⟨y,[],rfl,q,rfl⟩
 | (g,x)::r,_,h=>by
  obtain⟨w,vr,e,qx,t⟩:=h
  subst e
  show RPs K ι H (if g=fl then(g,v)::r else(g,x)::putI fl v r) (if g=fl then(g,y)::vr else(g,w)::putF fl y vr)
  by_cases hg:g=fl
  ·rw[if_pos hg,if_pos hg]
   exact⟨y,vr,rfl,q,t⟩
  ·rw[if_neg hg,if_neg hg]
   exact⟨w,_,rfl,qx,RPs.put q t⟩
def JR (f:Str)(o e:E1):S1:=λ σ h=>rS σ (e σ h) λ v h1=>rS σ (o σ h1) λ ov h2=>match ov with
 | .ref i=>(match h2[i]? with
  | some (.ins c fs)=>if fs.length<1000 then .next σ (h2.set i (.ins c (putI f v fs))) else .stuck
  | _=>.stuck)
 | _=>.stuck
theorem J32 {fl:Str}{value:Expr}{mv:E1}{pos':Pos}(ho:PEi ce X o mo)(hv:PEi ce X value mv)(hf:XS ce X.K fl)(hs:ZcU value (Za (.Attribute o fl pos')) pos.line X.env=pure Zk:=by rfl):PS1 ce X (.Assign [.Attribute o fl pos'] value pos) (JR fl mo mv):=by
 intro pj s σ H ι σi h Q E N K
 refine plainObj_wpAny_Assign_Attribute (krun hv N K λ v h1 u s1 H1 ι1 N1 n1 r1 K1=>krun ho N1 K1 λ ov h2 w s2 H2 ι2 N2 n2 r2 K2=>?_) hs
 cases ov with
 | ref i =>
  obtain⟨w,rw',a,e1,hi⟩:=r2
  subst e1
  cases rw'
  dsimp only at K2
  cases hh:h2[i]? with
  | none=>rw[hh] at K2;exact Zf K2
  | some ob =>
   cases ob with
   | ins c fs =>
    rw[hh] at K2
    dsimp only at K2
    split at K2
    ·rename_i hz
     obtain⟨C,dx,vs,hC,hH,rp⟩:=N2.at hh hi
     obtain⟨cl,na⟩:=hf c C hC
     obtain⟨y,ry,q⟩:=r1
     refine Jit N2.inv hH cl na (by rw[rp.length];exact hz) ry λ s3 I3=>?_
     have n3:Nxt ι2 H2 ι2 (upd H2 a (.ins C dx (putF fl y vs))):=⟨⟨[],03⟩,Ext.upd_mut hH (by rw[hH];exact Zam)⟩
     obtain⟨R3,_⟩:=N2.rel.write (o:=.ins C dx (putF fl y vs)) (io:=.ins c (putI fl v fs)) hi hH (by rw[hH];exact Zam) ⟨C,dx,_,hC,JE,RPs.put (RV.mono (n2.trans n3) _ _ q) (RPs.mono n3 _ _ rp)⟩
     exact K2 s3 σ _ ι2 ⟨I3,R3,N2.st.mono n3⟩ n3
    ·exact Zf K2
   | _=>rw[hh] at K2;exact Zf K2
 | _=>exact Zf K2
end
section
variable {ce:CeT}{X:Cx}{a b c:Expr}{ma mb mc:E1}{pos:Pos}
def Jg:IV->IV->IH->Res IV
 | .ref i,.int k,h=>match h[i]? with
  | some (.lst xs)=>(match atI xs k with
   | some v=>.ok v h
   | none=>.stuck)
  | _=>.stuck
 | .rol xs,.int k,h=>match atI xs k with
  | some v=>.ok v h
  | none=>.stuck
 | .tup xs,.int k,h=>match atI xs k with
  | some v=>.ok v h
  | none=>.stuck
 | .str x,.int k,h=>if x.length<=sizeLine then(match atI x.cps.toList k with
  | some c=>.ok (.str ⟨#[c]⟩) h
  | none=>.stuck) else .stuck
 | _,_,_=>.stuck
theorem Ji0 {K:W.Frag}{ι:List Zo}{H:Hp}{xs:List IV}{vs:List V}{k:Int}{v:IV}(r:RVs K ι H xs vs)(e:atI xs k=Za v):∃u,atI vs k=Za u/\RV K ι H v u:=by
 unfold atI at e ⊢
 rw[r.length]
 cases q:ixN xs.length k with
 | none=>rw[q] at e;cases e
 | some j =>
  rw[q] at e
  exact r.get e
def IxI (ce:CeT)(X:Cx)(g:IV->IV->IH->Res IV):Prop :=
 ∀(value slice:Expr)(pj:PnT)(s:Zn)(σ:L2.St)(H:Hp)(ι:List Zo)(σi:ISt)(h:IH)(x y:IV)(v u:Zg)(Q:QvT)(E:QvT),Now ce X pj ι σi h σ H s->RU X.K ι H x v->RU X.K ι H y u ->
  Kont ce X RU pj ι σi σ H (g x y h) Q E->ZdM slice Zk v u=operate [v,u] (Zd5 v u)->Zy (Z8 X.prog X.w) X.A (Zdh value slice v u) Q E s
theorem Jn9 {pj:PnT}{s:Zn}{σ:L2.St}{H:Hp}{Q:QvT}{E:QvT}{r:R2}{value slice:Expr}{x y:V}{v u:Zg}(p:IxR (X.wish E) r)(I:Inv X pj σ H s)(rx:RelV x v)(ry:RelV y u)
  (k:r x y H λ z H'=>∀u s',Inv X pj σ H' s'->RelV z u->Q u s')(hs:ZdM slice Zk v u=operate [v,u] (Zd5 v u)):Zy (Z8 X.prog X.w) X.A (Zdh value slice v u) Q E s :=
 Zaf (p value slice pj s σ H x y v u _ (I.wish E) rx ry k hs) (λ u s' ⟨_,_,I',r,q⟩=>q u s' I'.unwish r) λ _ _ z=>z
theorem x_ix:IxI ce X Jg:=by
 intro value slice pj s σ H ι σi h x y v u Q E N rx ry K hs
 obtain⟨xv,rx,qx⟩:=rx
 obtain⟨yv,ry,qy⟩:=ry
 cases y with
 | int k =>
  have e2:yv=.int k:=qy
  subst e2
  cases x with
  | ref i =>
   obtain⟨a,e1,ha⟩:=qx
   subst e1
   dsimp only[Jg] at K
   cases hi:h[i]? with
   | none=>rw[hi] at K;exact Zf K
   | some ob =>
    rw[hi] at K
    cases ob with
    | lst xs =>
     dsimp only at K
     cases hk:atI xs k with
     | none=>rw[hk] at K;exact Zf K
     | some z =>
      rw[hk] at K
      obtain⟨vs,e1,r1⟩:=N.at hi ha
      obtain⟨w,hw,qw⟩:=Ji0 r1 hk
      exact Jn9 (Jrj (X:=X.wish E)) N.inv rx ry ⟨a,vs,k,w,rfl,rfl,SqL.of e1,hw,fin0 N K qw⟩ hs
    | _=>exact Zf K
  | rol xs =>
   obtain⟨a,vs,e1,sa,ra⟩:=qx
   subst e1
   dsimp only[Jg] at K
   cases hk:atI xs k with
   | none=>rw[hk] at K;exact Zf K
   | some z =>
    rw[hk] at K
    obtain⟨w,hw,qw⟩:=Ji0 ra hk
    exact Jn9 (Jrj (X:=X.wish E)) N.inv rx ry ⟨a,vs,k,w,rfl,rfl,sa.sq,hw,fin0 N K qw⟩ hs
  | tup xs =>
   obtain⟨a,vs,e1,sa,ra⟩:=qx
   subst e1
   dsimp only[Jg] at K
   cases hk:atI xs k with
   | none=>rw[hk] at K;exact Zf K
   | some z =>
    rw[hk] at K
    obtain⟨w,hw,qw⟩:=Ji0 ra hk
    exact Jn9 (J0r (X:=X.wish E)) N.inv rx ry ⟨a,vs,k,w,rfl,rfl,sa,hw,fin0 N K qw⟩ hs
  | str x =>
   have e1:xv=.str x:=qx
   subst e1
   dsimp only[Jg] at K
   split at K
   ·rename_i hz
    cases hk:atI x.cps.toList k with
    | none=>rw[hk] at K;exact Zf K
    | some z =>
     rw[hk] at K
     exact Jn9 (J0q (X:=X.wish E)) N.inv rx ry ⟨x,k,z,rfl,rfl,hz,hk,fin0 N K rfl⟩ hs
   ·exact Zf K
  | _=>exact Zf K
 | _=>cases x<;>exact Zf K
theorem i_ix (hg:IxI ce X g)(ha:PEi ce X a ma)(hb:PEi ce X b mb)(hs:Jp0 b:=by intro _ _;rfl):PEi ce X (.Subscript a b pos) (Jb g ma mb):=λ pj s σ H ι σi h Q E N K =>
 Subscript_ (ha.run N K λ x h1 u s1 H1 ι1 N1 n1 r1 K1=>hb.run N1 K1 λ y h2 w s2 H2 ι2 N2 n2 r2 K2=>hg a b pj s2 σ H2 ι2 σi h2 x y u w Q E N2 (r1.mono n2) r2 K2 (hs _ _))
abbrev O1:=ISt->IH->Res (Option Int)
def J2i:REL (Option Int) Zg:=λ _ _ _ o u=>Zev u o
def PPi (ce:CeT)(X:Cx)(e:Option Expr)(m:O1):Prop:=PX ce X J2i (evalPart e X.env) m
noncomputable def X4:O1:=λ _ h=>.ok Zc h
def Qs (e:E1):O1:=λ σ h=>(e σ h).bind λ v h1=>match v with
 | .int i=>.ok (Za i) h1
 | _=>.stuck
theorem J1e:PPi ce X Zc X4:=by
 intro pj s σ H ι σi h Q E N K
 rw[evalPart_none]
 exact Zw (K _ s H ι N .refl .none)
theorem J1f (ha:PEi ce X a ma):PPi ce X (Za a) (Qs ma):=by
 intro pj s σ H ι σi h Q E N K
 rw[evalPart_some]
 refine ha.run N K λ x h1 u s1 H1 ι1 N1 n1 r1 K1=>?_
 cases x with
 | int i =>
  obtain⟨w,rw',q⟩:=r1
  have e:w=.int i:=q
  subst e
  obtain⟨t,rfl⟩:=rw'
  exact K1 _ s1 H1 ι1 N1 .refl (.int i t)
 | _=>exact Zf K1
def cutI {α:Type}(xs:List α)(lo hi:Option Int):List α:=(xs.drop (HT.sIx xs.length 0 lo)).take (HT.sIx xs.length xs.length hi-HT.sIx xs.length 0 lo)
def slI:IV->Option Int->Option Int->IH->Res IV
 | .ref i,lo,hi,h=>match h[i]? with
  | some (.lst xs)=>.ok (.ref h.length) (h++[.lst (cutI xs lo hi)])
  | _=>.stuck
 | .rol xs,lo,hi,h=>.ok (.ref h.length) (h++[.lst (cutI xs lo hi)])
 | _,_,_,_=>.stuck
theorem RVs.cut {K:W.Frag}{ι:List Zo}{H:Hp}{xs:List IV}{vs:List V}(r:RVs K ι H xs vs)(lo hi:Option Int):RVs K ι H (cutI xs lo hi) (cutV vs lo hi):=by
 unfold cutI cutV
 rw[r.length]
 exact(r.drop _).take _
def eSl (f:IV->Option Int->Option Int->IH->Res IV)(e:E1)(lo hi:O1):E1:=λ σ h=>(e σ h).bind λ x h1=>(lo σ h1).bind λ l h2=>(hi σ h2).bind λ u h3=>f x l u h3
def SlI (ce:CeT)(X:Cx)(g:IV->Option Int->Option Int->IH->Res IV):Prop :=
 ∀(pj:PnT)(s:Zn)(σ:L2.St)(H:Hp)(ι:List Zo)(σi:ISt)(h:IH)(x:IV)(v vl vu:Zg)(lo hi:Option Int)(sl:Zo)(Q:QvT)(E:QvT),Now ce X pj ι σi h σ H s->RU X.K ι H x v->s.heap.IsSliceOf sl vl vu .none->Zev vl lo->Zev vu hi ->
  Kont ce X RU pj ι σi σ H (g x lo hi h) Q E->∃T id,typeLookup (.type T) "__getitem__"=pure (Za (.builtin id))/\s.TypeIs v T/\Zy (Z8 X.prog X.w) X.A (Zd5 v (.ref sl)) Q E s
theorem Jws {pj:PnT}{s:Zn}{σ:L2.St}{H:Hp}{Q:QvT}{E:QvT}{r:V->Option Int->Option Int->Hp->VK->Prop}{x:V}{v vl vu:Zg}{lo hi:Option Int}{sl:Zo}(p:SlR (X.wish E) r)(I:Inv X pj σ H s)(rx:RelV x v)
  (hs:s.heap.IsSliceOf sl vl vu .none)(pl:Zev vl lo)(pu:Zev vu hi)(k:r x lo hi H λ z H'=>∀u s',Inv X pj σ H' s'->RelV z u->Q u s') :
  ∃T id,typeLookup (.type T) "__getitem__"=pure (Za (.builtin id))/\s.TypeIs v T/\Zy (Z8 X.prog X.w) X.A (Zd5 v (.ref sl)) Q E s:=by
 obtain⟨T,id,h1,h2,h3⟩:=p pj s σ H x v vl vu lo hi sl _ (I.wish E) rx hs pl pu k
 exact⟨T,id,h1,h2,Zaf h3 (λ u s' ⟨_,_,I',r,q⟩=>q u s' I'.unwish r) λ _ _ z=>z⟩
theorem Jxt {g:IV->Option Int->Option Int->IH->Res IV}{lo hi:Option Expr}{ml mh:O1}{p2:Pos}(hr:SlI ce X g)(he:PEi ce X a ma)(hl:PPi ce X lo ml)(hu:PPi ce X hi mh):PEi ce X (.Subscript a (.Slice lo hi Zc p2) pos) (eSl g ma ml mh):=by
 intro pj s σ H ι σi h Q E N K
 refine Subscript_ (he.run N K λ x h1 v s1 H1 ι1 N1 n1 r1 K1=>?_)
 refine wpAny_Slice (PX.run hl N1 K1 λ l h2 vl s2 H2 ι2 N2 n2 pl K2=>PX.run hu N2 K2 λ u h3 vu s3 H3 ι3 N3 n3 pu K3=>?_)
 rw[evalPart_none]
 refine Zw ?_
 have I4:Inv X pj σ H3 { s3 with heap:=s3.heap.push { cls:=.type "slice",data:=.fields #[vl,vu,.none] } }:=N3.inv.kept (t':=s3.toks) λ b ob q=>Zh _ q
 obtain⟨T,id,hT,ht,hg⟩:=hr pj { s3 with heap:=s3.heap.push { cls:=.type "slice",data:=.fields #[vl,vu,.none] } } σ H3 ι3 σi h3 x v vl vu l u s3.heap.objs.size Q E ⟨I4,N3.rel,N3.st⟩ ((r1.mono n2).mono n3) (Heap.IsSliceOf.new ..) pl pu K3
 show Zy (Z8 X.prog X.w) X.A (Zdh a (.Slice lo hi Zc p2) v (.ref s3.heap.objs.size)) Q E { s3 with heap:=s3.heap.push { cls:=.type "slice",data:=.fields #[vl,vu,.none] } }
 exact tail_any (ops:=[.ref s3.heap.objs.size,v]) ht hT hg (by with_unfolding_all rfl)
def eCB (f:List IV->IH->Res IV)(a:A1):E1:=λ σ h=>(a σ h).bind f
variable {es:List Expr}{mr:A1}{x:Str}{p:Pos}{id T:String}{g:List IV->IH->Res IV}
theorem VY (hc:QH ce X (.builtin id) g)(hg:Gl X x)(hm:X.mg x=Zc)(hv:Zca x=Za (.builtin id))(ha:PAi ce X (a::es) mr)(hn:x≠"__name__":=by decide)(hdb:(x==("__debug__":Str))=Zk:=by decide) 
  (he:ZF (a::es) X.env=(Zk,ZaU a X.env)::ZF es X.env:=by rfl)(hpl:(Zbo pos (ZF es X.env)).any (·.1)=Zk:=by rfl):PEi ce X (.Call (.Name x p) (a::es) [] pos) (eCB g mr):=λ pj s σ H ι σi h Q E N K =>
 Zah (Qz N.inv hg hm hv (ZbE ((ha pos).run N K λ xs h1 us s1 H1 ι1 N1 n1 r1 K1=>hc pj s1 σ H1 ι1 σi h1 xs us Q E N1 r1 K1) he hpl) hn hdb)
theorem Jra (hc:QH ce X (.type T) g)(hg:Gl X x)(hm:X.mg x=Zc)(hv:Zca x=Za (.type T))(ha:PAi ce X (a::es) mr)(hn:x≠"__name__":=by decide)(hdb:(x==("__debug__":Str))=Zk:=by decide) 
  (he:ZF (a::es) X.env=(Zk,ZaU a X.env)::ZF es X.env:=by rfl)(hpl:(Zbo pos (ZF es X.env)).any (·.1)=Zk:=by rfl):PEi ce X (.Call (.Name x p) (a::es) [] pos) (eCB g mr):=λ pj s σ H ι σi h Q E N K =>
 Zah (Qz N.inv hg hm hv (ZaA ((ha pos).run N K λ xs h1 us s1 H1 ι1 N1 n1 r1 K1=>hc pj s1 σ H1 ι1 σi h1 xs us Q E N1 r1 K1) he hpl) hn hdb)
def on1 (f:IV->IH->Res IV):List IV->IH->Res IV
 | [x],h=>f x h
 | _,_=>.stuck
def on2 (f:IV->IV->IH->Res IV):List IV->IH->Res IV
 | [x,y],h=>f x y h
 | _,_=>.stuck
theorem RVs.one_of {K:W.Frag}{ι:List Zo}{H:Hp}{x:IV}{vs:List V}(r:RVs K ι H [x] vs):∃v,vs=[v]/\RV K ι H x v:=by
 obtain⟨v,r',e,q,q2⟩:=r
 have e2:r'=[]:=q2
 subst e2
 exact⟨v,e,q⟩
theorem RVs.two_of {K:W.Frag}{ι:List Zo}{H:Hp}{x y:IV}{vs:List V}(r:RVs K ι H [x,y] vs):∃v w,vs=[v,w]/\RV K ι H x v/\RV K ι H y w:=by
 obtain⟨v,r',e,q,r2⟩:=r
 obtain⟨w,e2,q2⟩:=r2.one_of
 subst e2
 exact⟨v,w,e,q,q2⟩
theorem VU {fv:Zg}{f:IV->IH->Res IV}(hh:∀(pj:PnT)(s:Zn)(σ:L2.St)(H:Hp)(ι:List Zo)(σi:ISt)(h:IH)(x:IV)(xv:V)(u:Zg)(Q:QvT)(E:QvT),Now ce X pj ι σi h σ H s->RelV xv u->RV X.K ι H x xv ->
  Kont ce X RU pj ι σi σ H (f x h) Q E->Zy (Z8 X.prog X.w) X.A (call fv [u]) Q E s):QH ce X fv (on1 f):=by
 intro pj s σ H ι σi h xs us Q E N r K
 obtain⟨vs,rv,q⟩:=r
 match xs,K with
 | [x],K =>
  obtain⟨v,e,qx⟩:=q.one_of
  subst e
  obtain⟨u,rfl,ru⟩:=Vf rv
  exact hh pj s σ H ι σi h x v u Q E N ru qx K
 | [],K=>exact Zf K
 | _::_::_,K=>exact Zf K
noncomputable def lenI:IV->IH->Res IV
 | .str x,h=>if x.length<=sizeLine then .ok (.int x.length) h else .stuck
 | .tup xs,h=>.ok (.int xs.length) h
 | .rol xs,h=>.ok (.int xs.length) h
 | .ref i,h=>match h[i]? with
  | some (.lst xs)=>.ok (.int xs.length) h
  | _=>.stuck
 | _,_=>.stuck
theorem J2m:QH ce X (.builtin "len") (on1 lenI):=VU λ pj s σ H ι σi h x xv u Q E N ru qx K=>by
 cases x with
 | str y =>
  have e:xv=.str y:=qx
  subst e
  dsimp only[lenI] at K
  split at K
  ·rename_i hz
   exact Ve (Jf2 (X:=X.wish E)) N.inv (.cons ru .nil) ⟨_,_,rfl,⟨hz,rfl⟩,fin0 N K rfl⟩
  ·exact Zf K
 | tup xs =>
  obtain⟨a,vs,e1,sa,ra⟩:=qx
  subst e1
  exact Ve (Jf2 (X:=X.wish E)) N.inv (.cons ru .nil) ⟨_,xs.length,rfl,.inr ⟨vs,sa,ra.length.symm⟩,fin0 N K rfl⟩
 | rol xs =>
  obtain⟨a,vs,e1,sa,ra⟩:=qx
  subst e1
  exact Ve (Jf2 (X:=X.wish E)) N.inv (.cons ru .nil) ⟨_,xs.length,rfl,.inl ⟨vs,sa.sq,ra.length.symm⟩,fin0 N K rfl⟩
 | ref i =>
  obtain⟨a,e1,ha⟩:=qx
  subst e1
  dsimp only[lenI] at K
  cases hi:h[i]? with
  | none=>rw[hi] at K;exact Zf K
  | some ob =>
   rw[hi] at K
   cases ob with
   | lst xs =>
    obtain⟨vs,e1,r1⟩:=N.at hi ha
    exact Ve (Jf2 (X:=X.wish E)) N.inv (.cons ru .nil) ⟨_,xs.length,rfl,.inl ⟨vs,SqL.of e1,r1.length.symm⟩,fin0 N K rfl⟩
   | _=>exact Zf K
 | _=>exact Zf K
end
def ALen (n:Nat)(m:A1):Prop:=∀σ h xs h',m σ h=.ok xs h'->xs.length=n
theorem Js8:ALen 0 Jd:=λ _ _ xs _ e=>by
 unfold Jd at e
 cases e
 rfl
theorem Jp3 (hr:ALen n r):ALen (n+1) (Jc e r):=λ σ h xs h' q=>by
 unfold Jc at q
 cases e1:e σ h with
 | ok x h1 =>
  rw[e1] at q
  change (r σ h1).bind (λ xs h2=>.ok (x::xs) h2)=_ at q
  cases e2:r σ h1 with
  | ok ys h2 =>
   rw[e2] at q
   cases q
   rw[ZD,hr σ h1 ys _ e2]
  | exc n h2=>rw[e2] at q;cases q
  | stuck=>rw[e2] at q;cases q
 | exc n h1=>rw[e1] at q;cases q
 | stuck=>rw[e1] at q;cases q
def XH (K:W.Frag)(x:Str)(f:List IV->IH->Res IV):Sp:=λ vs H Q E=>∀ce,spI ce K [x] f vs H Q E
theorem Jtm {P:ZB}{w:Zab}{K:W.Frag}{mg:Str->Option Zg}{base:Zau}{k:Nat}{fa:Zo}{fd:Za2}{x:Str}{f:List IV->IH->Res IV}{ce:CeT}(F:FnOk P w K mg base (CXI P w) k fa fd [x] (spI ce K [x] f)) :
  FnOk P w K mg base (CXI P w) k fa fd [x] (XH K x f):=F.imp λ _ _ _ _ h=>h ce
noncomputable def toD (h:IH):Nat->IV->Option Zei
 | 0=>λ v=>match v with
  | .non=>Za .none
  | .bl b=>Za (.bool b)
  | .int i=>Za (.int i)
  | .str x=>Za (.str x)
  | _=>Zc
 | n+1=>λ v=>match v with
  | .non=>Za .none
  | .bl b=>Za (.bool b)
  | .int i=>Za (.int i)
  | .str x=>Za (.str x)
  | .tup xs=>(xs.mapM (toD h n)).map .tuple
  | .rol xs=>(xs.mapM (toD h n)).map .list
  | .ref i=>match h[i]? with
   | some (.lst xs)=>(xs.mapM (toD h n)).map .list
   | _=>Zc
section
variable {ce:CeT}{X:Cx}
theorem Jce {n:Nat}(N:Now ce X pj ι σi h σ H s) 
  (ih:∀(v:IV)(d:Zei)(x:V)(u:Zg),toD h n v=Za d->RV X.K ι H v x->RelV x u->∃as,Reads s.heap u d as) :
  ∀(xs:List IV)(ds:List Zei)(vs:List V)(us:List Zg),xs.mapM (toD h n)=Za ds->RVs X.K ι H xs vs->Vals vs us->∃as,ReadsAll s.heap us ds as
 | [],ds,vs,us,e,q,r=>by
  have e1:vs=[]:=q
  subst e1
  cases r
  simp at e
  subst e
  exact⟨_,.nil⟩
 | x::xs,ds,vs,us,e,q,r=>by
  obtain⟨v,vr,e1,q1,q2⟩:=q
  subst e1
  cases r with
  | cons r1 r2 =>
   rw[ZdN] at e
   cases e2:toD h n x with
   | none=>rw[e2] at e;cases e
   | some d =>
    rw[e2] at e
    cases e3:xs.mapM (toD h n) with
    | none=>rw[e3] at e;cases e
    | some dr =>
     rw[e3] at e
     cases e
     obtain⟨as,h1⟩:=ih x d v _ e2 q1 r1
     obtain⟨bs,h2⟩:=Jce N ih xs dr vr _ e3 q2 r2
     exact⟨_,.cons h1 h2⟩
theorem Jgc (N:Now ce X pj ι σi h σ H s):∀(n:Nat)(v:IV)(d:Zei)(x:V)(u:Zg),toD h n v=Za d->RV X.K ι H v x->RelV x u->∃as,Reads s.heap u d as:=by
 have flat:∀(v:IV)(d:Zei)(x:V)(u:Zg),toD h 0 v=Za d->RV X.K ι H v x->RelV x u->∃as,Reads s.heap u d as:=by
  intro v d x u e q r
  cases v with
  | non=>cases e;have e1:x=.non:=q;subst e1;cases r;exact⟨_,.none⟩
  | bl b=>cases e;have e1:x=.bl b:=q;subst e1;cases r;exact⟨_,.bool b⟩
  | int i=>cases e;have e1:x=.int i:=q;subst e1;obtain⟨t,rfl⟩:=r;exact⟨_,.int i t⟩
  | str z=>cases e;have e1:x=.str z:=q;subst e1;obtain⟨t,rfl⟩:=r;exact⟨_,.str z t⟩
  | _=>cases e
 intro n
 induction n with
 | zero=>exact flat
 | succ n ih =>
  intro v d x u e q r
  cases v with
  | non=>exact flat .non d x u e q r
  | bl b=>exact flat (.bl b) d x u e q r
  | int i=>exact flat (.int i) d x u e q r
  | str z=>exact flat (.str z) d x u e q r
  | tup xs =>
   obtain⟨a,vs,e1,sa,ra⟩:=q
   subst e1
   cases r
   obtain⟨ds,e2,rfl⟩:=ZH.mp (show(xs.mapM (toD h n)).map PyData.tuple=Za d from e)
   obtain⟨its,rv,⟨o,ho,hc,m,hd⟩,hz⟩:=N.inv.tuple sa
   obtain⟨as,h1⟩:=Jce N ih xs ds vs its e2 ra rv
   exact⟨_,.tuple ho hc hd h1⟩
  | rol xs =>
   obtain⟨a,vs,e1,sa,ra⟩:=q
   subst e1
   cases r
   obtain⟨ds,e2,rfl⟩:=ZH.mp (show(xs.mapM (toD h n)).map ZcJ=Za d from e)
   obtain⟨its,rv,⟨o,m,ho,hc,_,hd⟩,hz⟩:=N.inv.list sa.sq
   obtain⟨as,h1⟩:=Jce N ih xs ds vs its e2 ra rv
   exact⟨_,.list ho hc hd h1⟩
  | ref i =>
   obtain⟨a,e1,ha⟩:=q
   subst e1
   cases r
   have e':(match h[i]? with|some (.lst xs)=>(xs.mapM (toD h n)).map ZcJ|_=>Zc)=Za d:=e
   cases hi:h[i]? with
   | none=>rw[hi] at e';cases e'
   | some ob =>
    rw[hi] at e'
    cases ob with
    | lst xs =>
     obtain⟨ds,e2,rfl⟩:=ZH.mp e'
     obtain⟨vs,e1,r1⟩:=N.at hi ha
     obtain⟨its,rv,⟨o,m,ho,hc,_,hd⟩,hz⟩:=N.inv.list (SqL.of e1)
     obtain⟨as,h1⟩:=Jce N ih xs ds vs its e2 r1 rv
     exact⟨_,.list ho hc hd h1⟩
    | _=>cases e'
theorem Jcc (hf:∀v d,f v=Za d->d.depth<=n):∀(xs:List IV)(ds:List Zei),xs.mapM f=Za ds->PyData.depthAll ds<=n
 | [],ds,e=>by simp at e;subst e;exact Zac _
 | x::xs,ds,e=>by
  rw[ZdN] at e
  cases e2:f x with
  | none=>rw[e2] at e;cases e
  | some d =>
   rw[e2] at e
   cases e3:xs.mapM f with
   | none=>rw[e3] at e;cases e
   | some dr =>
    rw[e3] at e
    cases e
    have h1:=hf x d e2
    have h2:=Jcc hf xs dr e3
    show max d.depth (PyData.depthAll dr)<=n
    omega
theorem Jl2:∀(n:Nat)(v:IV)(d:Zei),toD h n v=Za d->d.depth<=n:=by
 intro n
 induction n with
 | zero =>
  intro v d e
  cases v<;>cases e<;>exact Zp _
 | succ n ih =>
  intro v d e
  cases v with
  | non=>cases e;exact Zac _
  | bl b=>cases e;exact Zac _
  | int i=>cases e;exact Zac _
  | str z=>cases e;exact Zac _
  | tup xs =>
   obtain⟨ds,e2,rfl⟩:=ZH.mp (show(xs.mapM (toD h n)).map PyData.tuple=Za d from e)
   exact ZcD (Jcc ih xs ds e2)
  | rol xs =>
   obtain⟨ds,e2,rfl⟩:=ZH.mp (show(xs.mapM (toD h n)).map ZcJ=Za d from e)
   exact ZcD (Jcc ih xs ds e2)
  | ref i =>
   have e':(match h[i]? with|some (.lst xs)=>(xs.mapM (toD h n)).map ZcJ|_=>Zc)=Za d:=e
   cases hi:h[i]? with
   | none=>rw[hi] at e';cases e'
   | some ob =>
    rw[hi] at e'
    cases ob with
    | lst xs =>
     obtain⟨ds,e2,rfl⟩:=ZH.mp e'
     exact ZcD (Jcc ih xs ds e2)
    | _=>cases e'
noncomputable def Xe:IV->IV->Option Bool
 | .non,.non=>Za Zi
 | .int i,.int j=>Za (decide (i=j))
 | .str i,.str j=>Za (decide (i=j))
 | .bl i,.bl j=>Za (decide (i=j))
 | _,_=>Zc
noncomputable def Vn (x y:IV)(h:IH):Option Bool:=match toD h 6 x,toD h 6 y with
 | some a,Za b=>if a.canLay0=Zi/\b.canLay0=Zi then Za (Zej a b) else Zc
 | _,_=>Zc
noncomputable def cEq (x y:IV)(h:IH):Res IV:=match Xe x y with
 | some b=>.ok (.bl b) h
 | none=>match Vn x y h with
  | some b=>.ok (.bl b) h
  | none=>.stuck
noncomputable def cNe (x y:IV)(h:IH):Res IV:=match Xe x y with
 | some b=>.ok (.bl (!b)) h
 | none=>match Vn x y h with
  | some b=>.ok (.bl (!b)) h
  | none=>.stuck
theorem Jnj (e:Vn x y h=Za b):∃da db,toD h 6 x=Za da/\toD h 6 y=Za db/\da.canLay0=Zi/\db.canLay0=Zi/\b=Zej da db:=by
 unfold Vn at e
 cases e1:toD h 6 x with
 | none=>rw[e1] at e;cases e
 | some da =>
  cases e2:toD h 6 y with
  | none=>rw[e1,e2] at e;cases e
  | some db =>
   rw[e1,e2] at e
   dsimp only at e
   split at e
   ·rename_i hz
    cases e
    exact⟨da,db,rfl,rfl,hz.1,hz.2,rfl⟩
   ·cases e
theorem Jly {K:W.Frag}{ι:List Zo}{H:Hp}{x y:IV}{b:Bool}{xv yv:V}(e:Xe x y=Za b)(qx:RV K ι H x xv)(qy:RV K ι H y yv):scal xv yv=Zi/\decide (xv=yv)=b:=by
 cases x with
 | non =>
  cases y with
  | non=>cases e;cases (show xv=.non from qx);cases (show yv=.non from qy);exact⟨rfl,rfl⟩
  | _=>cases e
 | int i =>
  cases y with
  | int j=>cases e;cases (show xv=.int i from qx);cases (show yv=.int j from qy);exact⟨rfl,03⟩
  | _=>cases e
 | str i =>
  cases y with
  | str j=>cases e;cases (show xv=.str i from qx);cases (show yv=.str j from qy);exact⟨rfl,03⟩
  | _=>cases e
 | bl i =>
  cases y with
  | bl j=>cases e;cases (show xv=.bl i from qx);cases (show yv=.bl j from qy);exact⟨rfl,03⟩
  | _=>cases e
 | _=>cases y<;>cases e
theorem o_eq (hu:X.A.units+64<cLine):OpI ce X (Zav .Eq) cEq:=by
 intro pj s σ H ι σi h x y v u Q E N rx ry K
 obtain⟨xv,rx,qx⟩:=rx
 obtain⟨yv,ry,qy⟩:=ry
 unfold cEq at K
 cases es:Xe x y with
 | some b =>
  rw[es] at K
  obtain⟨h1,h2⟩:=Jly es qx qy
  exact Qf (J3m (X:=X.wish E)) N.inv rx ry ⟨h1,by rw[h2];exact fin0 N K rfl⟩
 | none =>
  rw[es] at K
  dsimp only at K
  cases ed:Vn x y h with
  | none=>rw[ed] at K;exact Zf K
  | some b =>
   rw[ed] at K
   obtain⟨da,db,e1,e2,c1,c2,rfl⟩:=Jnj ed
   obtain⟨as,r1⟩:=Jgc N 6 x da xv v e1 qx rx
   obtain⟨bs,r2⟩:=Jgc N 6 y db yv u e2 qy ry
   have d1:=Jl2 6 x da e1
   exact PySem.SeqAt.compareEq_reads r1 r2 c1 c2 00 (fin0 N K rfl _ s N.inv rfl)
theorem o_ne (hu:X.A.units+64<cLine):OpI ce X (Zav .NotEq) cNe:=by
 intro pj s σ H ι σi h x y v u Q E N rx ry K
 obtain⟨xv,rx,qx⟩:=rx
 obtain⟨yv,ry,qy⟩:=ry
 unfold cNe at K
 cases es:Xe x y with
 | some b =>
  rw[es] at K
  obtain⟨h1,h2⟩:=Jly es qx qy
  exact Qf (J3r (X:=X.wish E)) N.inv rx ry ⟨h1,by rw[h2];exact fin0 N K rfl⟩
 | none =>
  rw[es] at K
  dsimp only at K
  cases ed:Vn x y h with
  | none=>rw[ed] at K;exact Zf K
  | some b =>
   rw[ed] at K
   obtain⟨da,db,e1,e2,c1,c2,rfl⟩:=Jnj ed
   obtain⟨as,r1⟩:=Jgc N 6 x da xv v e1 qx rx
   obtain⟨bs,r2⟩:=Jgc N 6 y db yv u e2 qy ry
   have d1:=Jl2 6 x da e1
   exact PySem.SeqAt.compareNe_reads r1 r2 c1 c2 00 (fin0 N K rfl _ s N.inv rfl)
noncomputable def isI:IV->IV->Option Bool
 | .non,.non=>Za Zi
 | .bl a,.bl b=>Za (a==b)
 | .bl _,.non=>Za Zk
 | .int _,.non=>Za Zk
 | .str _,.non=>Za Zk
 | .tup _,.non=>Za Zk
 | .rol _,.non=>Za Zk
 | .ref _,.non=>Za Zk
 | .non,.bl _=>Za Zk
 | .int _,.bl _=>Za Zk
 | .str _,.bl _=>Za Zk
 | .tup _,.bl _=>Za Zk
 | .rol _,.bl _=>Za Zk
 | .ref _,.bl _=>Za Zk
 | _,_=>Zc
theorem isR:isI (.ref i) .non=Za Zk:=rfl
theorem isD:isI (.int i) .non=Za Zk:=rfl
noncomputable def cIs (x y:IV)(h:IH):Res IV:=match isI x y with
 | some b=>.ok (.bl b) h
 | none=>.stuck
noncomputable def Jnb (x y:IV)(h:IH):Res IV:=match isI x y with
 | some b=>.ok (.bl (!b)) h
 | none=>.stuck
theorem Jv3 {K:W.Frag}{ι:List Zo}{H:Hp}{x y:IV}{b:Bool}{v u:Zg}(e:isI x y=Za b)(rx:RU K ι H x v)(ry:RU K ι H y u):plainIs v u=Zi/\(v==u)=b:=by
 obtain⟨xv,rx,qx⟩:=rx
 obtain⟨yv,ry,qy⟩:=ry
 cases y with
 | non =>
  cases (show yv=.non from qy)
  cases ry
  cases x with
  | non=>cases e;cases (show xv=.non from qx);cases rx;exact⟨rfl,rfl⟩
  | bl c=>cases e;cases (show xv=.bl c from qx);cases rx;exact⟨rfl,rfl⟩
  | int c=>cases e;cases (show xv=.int c from qx);obtain⟨t,rfl⟩:=rx;exact⟨rfl,rfl⟩
  | str c=>cases e;cases (show xv=.str c from qx);obtain⟨t,rfl⟩:=rx;exact⟨rfl,rfl⟩
  | tup c=>cases e;obtain⟨a,vs,rfl,_⟩:=qx;cases rx;exact⟨rfl,rfl⟩
  | rol c=>cases e;obtain⟨a,vs,rfl,_⟩:=qx;cases rx;exact⟨rfl,rfl⟩
  | ref c=>cases e;obtain⟨a,rfl,_⟩:=qx;cases rx;exact⟨rfl,rfl⟩
 | bl d =>
  cases (show yv=.bl d from qy)
  cases ry
  cases x with
  | non=>cases e;cases (show xv=.non from qx);cases rx;exact⟨rfl,rfl⟩
  | bl c=>cases e;cases (show xv=.bl c from qx);cases rx;cases c<;>cases d<;>exact⟨rfl,rfl⟩
  | int c=>cases e;cases (show xv=.int c from qx);obtain⟨t,rfl⟩:=rx;exact⟨rfl,rfl⟩
  | str c=>cases e;cases (show xv=.str c from qx);obtain⟨t,rfl⟩:=rx;exact⟨rfl,rfl⟩
  | tup c=>cases e;obtain⟨a,vs,rfl,_⟩:=qx;cases rx;exact⟨rfl,rfl⟩
  | rol c=>cases e;obtain⟨a,vs,rfl,_⟩:=qx;cases rx;exact⟨rfl,rfl⟩
  | ref c=>cases e;obtain⟨a,rfl,_⟩:=qx;cases rx;exact⟨rfl,rfl⟩
 | _=>cases x<;>cases e
theorem o_is:OpI ce X (Zav .Is) cIs:=by
 intro pj s σ H ι σi h x y v u Q E N rx ry K
 unfold cIs at K
 cases ei:isI x y with
 | none=>rw[ei] at K;exact Zf K
 | some b =>
  rw[ei] at K
  obtain⟨h1,h2⟩:=Jv3 ei rx ry
  exact wpAny_is_plain h1 (by rw[h2];exact fin0 N K rfl _ s N.inv rfl)
theorem Jya:OpI ce X (Zav .IsNot) Jnb:=by
 intro pj s σ H ι σi h x y v u Q E N rx ry K
 unfold Jnb at K
 cases ei:isI x y with
 | none=>rw[ei] at K;exact Zf K
 | some b =>
  rw[ei] at K
  obtain⟨h1,h2⟩:=Jv3 ei rx ry
  exact wpAny_isNot_plain h1 (by rw[h2];exact fin0 N K rfl _ s N.inv rfl)
inductive Ty where
 | non|bl|int|str|lst|tup|dct|ins (c:Str)|exc (c:Str)
noncomputable def tyI:IV->IH->Option Ty
 | .non,_=>Za .non
 | .bl _,_=>Za .bl
 | .int _,_=>Za .int
 | .str _,_=>Za .str
 | .tup _,_=>Za .tup
 | .rol _,_=>Za .lst
 | .ref i,h=>match h[i]? with
  | some (.lst _)=>Za .lst
  | some (.dct _)=>Za .dct
  | some (.ins c _)=>Za (.ins c)
  | _=>Zc
structure ClsI (K:W.Frag)(C:Zo):Prop where
 cl:Cls K C
 ha:W.findIn K (.ref C) "__class__"=Za (Za (.builtin "object.__class__"))
 hn:W.specialIn K (.builtin "object.__class__") "__get__"=Za (Za (.builtin "getset_descriptor.__get__"))
 htk:W.takesIn K (.builtin "object.__class__")=Za Zi
 hm:W.mroIn K C (.type "object")=Za Zi
structure IsOk (ce:CeT)(K:W.Frag)(c:Zg)(ans:Ty->Option Bool):Prop where
 non:∀b,ans .non=Za b->W.kitOne K (.type "NoneType") c=Za b
 bl:∀b,ans .bl=Za b->W.kitOne K (.type "bool") c=Za b
 int:∀b,ans .int=Za b->W.kitOne K (.type "int") c=Za b
 str:∀b,ans .str=Za b->W.kitOne K (.type "str") c=Za b
 lst:∀b,ans .lst=Za b->W.kitOne K (.type "list") c=Za b
 tup:∀b,ans .tup=Za b->W.kitOne K (.type "tuple") c=Za b
 dct:∀b,ans .dct=Za b->W.kitOne K (.type "dict") c=Za b
 ins:∀k C b,ans (.ins k)=Za b->ce k=Za C->ClsI K C/\W.kitOne K (.ref C) c=Za b
 exc:∀k C b,ans (.exc k)=Za b->W.nsIn K Z3 k=Za (Za (.ref C))->ExI K C/\W.kitOne K (.ref C) c=Za b
def eIsi (ans:Ty->Option Bool)(e:E1):E1:=λ σ h=>(e σ h).bind λ v h1=>match (tyI v h1).bind ans with
 | some b=>.ok (.bl b) h1
 | none=>.stuck
theorem Jxv {b:Bool}{Q:QvT}{E:QvT}{A:ZK}(N:Now ce X pj ι σi h σ H s)(rx:RU X.K ι H x u)(O:IsOk ce X.K c ans) 
  (e:(tyI x h).bind ans=Za b)(hq:∀tk,Q (.bool b) { s with toks:=tk }):Zy (Z8 X.prog X.w) A (call (.builtin "isinstance") [u,c]) Q E s:=by
 obtain⟨xv,rx,qx⟩:=rx
 cases x with
 | non=>cases (show xv=.non from qx);cases rx;exact W.kia_one W.kitx_none N.inv.kIn Zam (O.non b e) (λ z=>nomatch z) hq
 | bl i=>cases (show xv=.bl i from qx);cases rx;exact W.kia_one W.kitx_bool N.inv.kIn Zam (O.bl b e) (λ z=>nomatch z) hq
 | int i=>cases (show xv=.int i from qx);obtain⟨t,rfl⟩:=rx;exact W.kia_one W.kitx_int N.inv.kIn Zam (O.int b e) (λ z=>nomatch z) hq
 | str i=>cases (show xv=.str i from qx);obtain⟨t,rfl⟩:=rx;exact W.kia_one W.kitx_str N.inv.kIn Zam (O.str b e) (λ z=>nomatch z) hq
 | tup xs =>
  obtain⟨a,vs,rfl,sa,_⟩:=qx
  cases rx
  obtain⟨its,rv,⟨o,ho,hc,m,hd⟩,hz⟩:=N.inv.tuple sa
  exact W.kia_one W.kitx_tuple N.inv.kIn ⟨o,ho,hc⟩ (O.tup b e) (λ z=>nomatch z) hq
 | rol xs =>
  obtain⟨a,vs,rfl,sa,_⟩:=qx
  cases rx
  obtain⟨its,rv,⟨o,m,ho,hc,_,hd⟩,hz⟩:=N.inv.list sa.sq
  exact W.kia_one W.kitx_list N.inv.kIn ⟨o,ho,hc⟩ (O.lst b e) (λ z=>nomatch z) hq
 | ref i =>
  obtain⟨a,rfl,ha⟩:=qx
  cases rx
  cases hi:h[i]? with
  | none=>simp[tyI,hi] at e
  | some ob =>
   cases ob with
   | lst xs =>
    simp only[tyI,hi] at e
    obtain⟨vs,e1,r1⟩:=N.at hi ha
    obtain⟨its,rv,⟨o,m,ho,hc,_,hd⟩,hz⟩:=N.inv.list (SqL.of e1)
    exact W.kia_one W.kitx_list N.inv.kIn ⟨o,ho,hc⟩ (O.lst b e) (λ z=>nomatch z) hq
   | dct kvs =>
    simp only[tyI,hi] at e
    obtain⟨vs,e1,r1⟩:=N.at hi ha
    obtain⟨_,_,ws,_,p⟩:=(show JM X.prog X.w H s.heap a (.dK vs) from N.inv.hok a _ e1)
    obtain⟨o,es,ep,h1,h2,_⟩:=p
    exact W.kia_one W.kitx_dict N.inv.kIn ⟨o,h1,h2.1⟩ (O.dct b e) (λ z=>nomatch z) hq
   | ins c fs =>
    simp only[tyI,hi] at e
    obtain⟨C,dx,vs,hC,hH,rp⟩:=N.at hi ha
    obtain⟨I,hk⟩:=O.ins c C b e hC
    obtain⟨mA,Ob,_⟩:=Jjl N.inv.hok hH
    obtain⟨od,J,_⟩:=Ob.look
    exact W.kia_one (W.kitx_own (I.cl.get _) I.cl.hd I.ha I.hn I.htk I.hm) N.inv.kIn J hk (λ z=>nomatch z) hq
   | exc c fs=>simp[tyI,hi] at e
   | hld c fs=>simp[tyI,hi] at e
   | tab q=>simp[tyI,hi] at e
variable {a cx:Expr}{ma:E1}{pos p:Pos}
def ClsE (X:Cx)(cx:Expr)(c:Zg):Prop:=∀(pj:PnT)(σ:L2.St)(H:Hp)(s:Zn)(Q:QvT)(E:QvT),Inv X pj σ H s->Q c s->Zy (Z8 X.prog X.w) X.A (ZaU cx X.env) Q E s
theorem Ya (hg:Gl X x)(hm:X.mg x=Zc)(hv:Zca x=Za c)(hn:x≠"__name__":=by decide)(hdb:(x==("__debug__":Str))=Zk:=by decide):ClsE X (.Name x p) c:=λ _ _ _ _ _ _ I q=>Qz I hg hm hv q hn hdb
theorem Jw8 (hg:Gl X x)(hm:X.mg x=Za c)(hdb:(x==("__debug__":Str))=Zk:=by decide):ClsE X (.Name x p) c:=λ _ _ _ _ _ _ I q=>Xa I hg hm q hdb
theorem J23 {ans:Ty->Option Bool}{c:Zg}(hc:ClsE X cx c)(O:IsOk ce X.K c ans)(ha:PEi ce X a ma)(hg:Gl X "isinstance")(hm:X.mg "isinstance"=Zc)(hv:Zca "isinstance"=Za (.builtin "isinstance"):=by rfl)
  (he:ZF [a,cx] X.env=(Zk,ZaU a X.env)::ZF [cx] X.env:=by rfl)(he2:ZF [cx] X.env=(Zk,ZaU cx X.env)::ZF [] X.env:=by rfl)(hpl:(Zbo pos (ZF [cx] X.env)).any (·.1)=Zk:=by rfl):PEi ce X (.Call (.Name "isinstance" p) [a,cx] [] pos) (eIsi ans ma):=by
 intro pj s σ H ι σi h Q E N K
 refine Zah (Qz N.inv hg hm hv ?_ 01 01)
 refine ZbE ?_ he hpl
 rw[he]
 show Zy _ _ (spliced ((Zk,ZaU a X.env)::Zbo pos (ZF [cx] X.env))) _ _ s
 refine ZcY (ha.run N K λ x h1 u s1 H1 ι1 N1 n1 r1 K1=>?_)
 rw[he2]
 show Zy _ _ (spliced ((Zk,ZaU cx X.env)::Zbo pos (ZF [] X.env))) _ _ s1
 refine ZcY (hc pj σ H1 s1 _ E N1.inv ?_)
 refine Calls.spliced_nil ?_
 cases e:(tyI x h1).bind ans with
 | none=>rw[e] at K1;exact Zf K1
 | some b =>
  rw[e] at K1
  exact Jxv N1 r1 O e λ tk=>K1 _ _ H1 ι1 ⟨N1.inv.tok tk,N1.rel,N1.st⟩ .refl ⟨.bl b,rfl,rfl⟩
def VA:Ty->Option Bool
 | .int=>Za Zi|.bl=>Za Zi|.ins _=>Zc|.exc _=>Zc|_=>Za Zk
def V9:Ty->Option Bool
 | .bl=>Za Zi|.ins _=>Zc|.exc _=>Zc|_=>Za Zk
def VC:Ty->Option Bool
 | .str=>Za Zi|.ins _=>Zc|.exc _=>Zc|_=>Za Zk
def QK:Ty->Option Bool
 | .lst=>Za Zi|.ins _=>Zc|.exc _=>Zc|_=>Za Zk
def Vy:Ty->Option Bool
 | .tup=>Za Zi|.ins _=>Zc|.exc _=>Zc|_=>Za Zk
theorem Jrh {K:W.Frag}:IsOk ce K (.type "bool") V9:=by
 refine⟨?_,?_,?_,?_,?_,?_,?_,(λ k C b e=>by cases e),(λ k C b e=>by cases e)⟩<;>(intro b e;cases e;first|rfl|with_unfolding_all rfl|kernel_rfl)
theorem Jtz {K:W.Frag}:IsOk ce K (.type "str") VC:=by
 refine⟨?_,?_,?_,?_,?_,?_,?_,(λ k C b e=>by cases e),(λ k C b e=>by cases e)⟩<;>(intro b e;cases e;first|rfl|with_unfolding_all rfl|kernel_rfl)
theorem Jk7 {K:W.Frag}:IsOk ce K (.type "list") QK:=by
 refine⟨?_,?_,?_,?_,?_,?_,?_,(λ k C b e=>by cases e),(λ k C b e=>by cases e)⟩<;>(intro b e;cases e;first|rfl|with_unfolding_all rfl|kernel_rfl)
theorem Jt0 {K:W.Frag}:IsOk ce K (.type "tuple") Vy:=by
 refine⟨?_,?_,?_,?_,?_,?_,?_,(λ k C b e=>by cases e),(λ k C b e=>by cases e)⟩<;>(intro b e;cases e;first|rfl|with_unfolding_all rfl|kernel_rfl)
theorem Jty {K:W.Frag}:IsOk ce K (.type "int") VA:=by
 refine⟨?_,?_,?_,?_,?_,?_,?_,(λ k C b e=>by cases e),(λ k C b e=>by cases e)⟩<;>(intro b e;cases e;first|rfl|with_unfolding_all rfl|kernel_rfl)
end
def clOf (cells:List (Str×Zo)):List (Str×Zbh)->List (Str×Zo)->List (Str×Zo)
 | [],acc=>acc
 | (n,k)::r,acc=>clOf cells r (if (k==Za7)=Zi then(match cells.lookup n with|some c=>(n,c)::acc|none=>acc) else acc)
theorem Jhw {env:Env}(names:List (Str×Zbh))(acc:List (Str×Zo))(h:∀x∈names,x.2=.free->∃c,env.cells.lookup x.1=Za c) :
  (forIn names acc (λ (x:Str×Zbh)(r:List (Str×Zo))=>if (x.2==Za7)=Zi then(do let c<-cellOf env x.1;pure (ZaR ((x.1,c)::r))) else pure (ZaR r)):Sem (List (Str×Zo)))=pure (clOf env.cells names acc):=by
 induction names generalizing acc with
 | nil=>rfl
 | cons x r ih =>
  obtain⟨n,k⟩:=x
  have ih':=λ a=>ih a λ y hy=>h y (Zl _ hy)
  rw[List.forIn_cons]
  by_cases hk:(k==Za7)=Zi
  ·have hk':k=.free:=by
    cases k<;>first|rfl|exact absurd hk 01
   obtain⟨c,hc⟩:=h (n,k) Zx hk'
   have e1:cellOf env n=pure c:=by unfold cellOf;rw[hc]
   simp only[hk,if_true,e1,pure_bind]
   rw[ih']
   simp only[clOf,hk,if_true,hc]
  ·simp only[hk,ZX,if_false,pure_bind]
   rw[ih']
   simp only[clOf,hk,ZX,if_false]
theorem Jas {scope:Zbj}{env:Env}(h:∀x∈scope.names,x.2=.free->∃c,env.cells.lookup x.1=Za c):ZcF scope env=pure (clOf env.cells scope.names []):=by
 have e:=Jhw (env:=env) scope.names [] h
 have e2:ZcF scope env=((forIn scope.names [] (λ (x:Str×Zbh)(r:List (Str×Zo))=>if (x.2==Za7)=Zi then(do let c<-cellOf env x.1;pure (ZaR ((x.1,c)::r))) else pure (ZaR r)):Sem (List (Str×Zo)))>>=λ s=>pure s):=rfl
 rw[e2,e]
 rfl
theorem Ji8 {cells:List (Str×Zo)}:∀(names:List (Str×Zbh))(acc:List (Str×Zo)),(∀x c,acc.lookup x=Za c->cells.lookup x=Za c)->∀x c,(clOf cells names acc).lookup x=Za c->cells.lookup x=Za c
 | [],_,h,x,c,e=>h x c e
 | (n,k)::r,acc,h,x,c,e=>by
  refine Ji8 r _ ?_ x c e
  intro y d q
  split at q
  ·cases hc:cells.lookup n with
   | none=>rw[hc] at q;exact h y d q
   | some a =>
    rw[hc] at q
    simp only[Zag] at q
    cases hb:y==n with
    | true =>
     rw[hb] at q
     cases q
     rw[beq_iff_eq.mp hb]
     exact hc
    | false =>
     rw[hb] at q
     exact h y d q
  ·exact h y d q
theorem Jkk:∀(names:List (Str×Zbh))(acc:List (Str×Zo))(x:Str),(acc.lookup x).isSome=Zi->((clOf cells names acc).lookup x).isSome=Zi
 | [],_,_,h=>h
 | (n,k)::r,acc,x,h=>by
  refine Jkk r _ x ?_
  split
  ·cases hc:cells.lookup n with
   | none=>exact h
   | some a =>
    simp only[Zag]
    cases hb:x==n with
    | true=>rfl
    | false=>exact h
  ·exact h
theorem XZ {cells:List (Str×Zo)}:∀(names:List (Str×Zbh))(acc:List (Str×Zo))(x:Str)(c:Zo),(x,Za7)∈names->cells.lookup x=Za c->((clOf cells names acc).lookup x).isSome=Zi
 | [],_,_,_,h,_=>by simp at h
 | (n,k)::r,acc,x,c,h,hc=>by
  rcases Z6.mp h with e|e
  ·obtain⟨rfl,rfl⟩:=Prod.mk.inj e
   refine Jkk r _ _ ?_
   simp[hc]
  ·exact XZ r _ x c e hc
theorem Jbk {env:Env}:∀{names:List (Str×Zbh)}{x:Str}{k:Zbh},
  (names.map λ (n,k)=>if (k==Za7&&env.scope.kind==.function&&env.kindOf n==Za .cell) then(n,Zdj) else(n,k)).lookup x=Za k ->
  ∃k0,names.lookup x=Za k0/\(k,k0)∈([(k0,k0),(.cell,.free)]:List (Zbh×Zbh))
 | [],_,_,h=>by simp at h
 | (n,k1)::r,x,k,h=>by
  have ih:=@Jbk env r x k
  have h':Zb3 x ((if (k1==Za7&&env.scope.kind==.function&&env.kindOf n==Za .cell)=Zi then(n,Zdj) else(n,k1))::_)=Za k:=h
  cases hx:x==n with
  | true =>
   refine⟨k1,by simp[Zag,hx],?_⟩
   by_cases hc:(k1==Za7&&env.scope.kind==.function&&env.kindOf n==Za .cell)=Zi
   ·rw[if_pos hc] at h'
    simp only[Zag,hx] at h'
    cases h'
    simp only[Zr,beq_iff_eq] at hc
    rw[hc.1.1]
    simp
   ·rw[if_neg hc] at h'
    simp only[Zag,hx] at h'
    cases h'
    simp
  | false =>
   have h2:Zb3 x (r.map λ (n,k)=>if (k==Za7&&env.scope.kind==.function&&env.kindOf n==Za .cell) then(n,Zdj) else(n,k))=Za k:=by
    by_cases hc:(k1==Za7&&env.scope.kind==.function&&env.kindOf n==Za .cell)=Zi
    ·rw[if_pos hc] at h';simpa only[Zag,hx] using h'
    ·rw[if_neg hc] at h';simpa only[Zag,hx] using h'
   obtain⟨k0,e,m⟩:=ih h2
   exact⟨k0,by simp only[Zag,hx];exact e,m⟩
theorem Jfs {env:Env}:∀{names:List (Str×Zbh)}{x:Str},names.lookup x=Za .free ->
  ∃k,(names.map λ (n,k)=>if (k==Za7&&env.scope.kind==.function&&env.kindOf n==Za .cell) then(n,Zdj) else(n,k)).lookup x=Za k/\(k=.cell∨k=.free)
 | [],_,h=>by simp at h
 | (n,k1)::r,x,h=>by
  have ih:=@Jfs env r x
  cases hx:x==n with
  | true =>
   simp only[Zag,hx] at h
   cases h
   by_cases hc:(Za7==Za7&&env.scope.kind==.function&&env.kindOf n==Za .cell)=Zi
   ·exact⟨.cell,by rw[Z5];dsimp only;rw[if_pos hc];simp only[Zag,hx],.inl rfl⟩
   ·exact⟨.free,by rw[Z5];dsimp only;rw[if_neg hc];simp only[Zag,hx],.inr rfl⟩
  | false =>
   simp only[Zag,hx] at h
   obtain⟨k,e,q⟩:=ih h
   refine⟨k,?_,q⟩
   rw[Z5]
   dsimp only
   by_cases hc:(k1==Za7&&env.scope.kind==.function&&env.kindOf n==Za .cell)=Zi
   ·rw[if_pos hc];simp only[Zag,hx];exact e
   ·rw[if_neg hc];simp only[Zag,hx];exact e
def cxC (X:Cx)(N':List Str)(scope:Zbj)(C:Zo)(s:Zn)(H:Hp)(fp:List Zo):Cx :=
 { X with N:=N',s₀:=s,H₀:=H,env:=compEnvC scope (clOf X.env.cells scope.names []) C X.env,outer:=X.stack,ex:=fp,fn:=λ _=>Zk,pn:=[] }
def QM (N0 loc caps:List Str)(js:List Nat)(sc₀ scope:Zbj):Bool :=
 decide (scope.kind=.function)&&decide (sc₀.kind=.function)&&scope.names.all (λ x=>!(x.2==.cell))&&scope.names.all (λ x=>!(x.2==.local)||decide (scope.names.lookup x.1=Za .local)) &&
 scope.names.all (λ x=>!(x.2==.free)||decide (sc₀.names.lookup x.1=Za .cell)||decide (sc₀.names.lookup x.1=Za .free)) &&
 scope.names.all (λ x=>!(decide (scope.names.lookup x.1=Za .free))||(x.2==.free)) &&
 (js.zip caps).all (λ p=>decide (N0[p.1]?=Za p.2)&&decide (scope.names.lookup p.2=Za .free))&&decide (js.length=caps.length)&&decide (loc++caps).Nodup &&
 loc.all (λ n=>decide (scope.names.lookup n=Za .local))
open Classical in
def JN (chk:IH->Prop)(g:G1)(t:T1)(e:E1)(i0:Nat):List IV->ISt->IH->Res IV
 | [],_,h=>if chk h then .ok (.ref i0) h else .stuck
 | x::xs,σ,h=>if chk h then(match g x σ h with
   | .next σ1 h1=>(match t σ1 h1 with
    | .ok Zi h2=>(match e σ1 h2 with
     | .ok v h3=>(match h3[i0]? with
      | some (.lst acc)=>if acc.length<sizeLine then JN chk g t e i0 xs σ1 (h3.set i0 (.lst (acc++[v]))) else .stuck
      | _=>.stuck)
     | _=>.stuck)
    | .ok Zk h2=>JN chk g t e i0 xs σ1 h2
    | _=>.stuck)
   | _=>.stuck) else .stuck
def stC (nloc:Nat)(js:List Nat)(σ:ISt):ISt:=ZI nloc Zc++js.map λ j=>(σ[j]?).join
def Js (it:I1)(nloc:Nat)(js:List Nat)(g:G1)(t:T1)(e:E1):E1:=λ σ h=>(it σ h).bind λ J h1=>JN J.chk g t e h1.length J.xs (stC nloc js σ) (h1++[.lst []])
theorem Jkm {prog:ZB}{w:Zab}{A:ZK}{R:Zd2->Zn->Prop}{s:Zn}{elt target iter:Expr}{ifs:List Expr}{scope:Zbj}{pos:Pos}{it acc:Zg}{env:Env}(I:Nat->Zn->Prop) 
  (turn:∀n s,I n s->Zy (Z8 prog w) A (ZbC it) (λ r s₁=>match r with
   | none=>R (.ok .next) s₁
   | some v=>Zy (Z8 prog w) A (Zco target it v) (λ _ s₁'=>Zy (Z8 prog w) A (Zdi target env v) (λ _ s₂ =>
     Zy (Z8 prog w) A (forIn ifs Zi λ c r=>if r=Zi then do let ok<-Zef c env (ZaU c env);pure (ZaR ok) else pure (ZaR r)) (λ ok s₃ =>
      if ok=Zi then Zy (Z8 prog w) A (ZaU elt env) (λ x s₄ =>
       Zy (Z8 prog w) A (call (.builtin "list.append") [acc,x]) (λ _ s₅=>∃m,m<n/\I m s₅) (λ _ _=>False) s₄) (λ _ _=>False) s₃
      else ∃m,m<n/\I m s₃) (λ _ _=>False) s₂) (λ _ _=>False) s₁') (λ _ _=>False) s₁) (λ _ _=>False) s)
  (n:Nat) (h:I n s):Zcp (Z8 prog w) A (.compLoop (.ListComp elt [⟨target,iter,ifs,0⟩] scope pos) 0 it acc env) R s:=by
 refine codeAny_loop rfl I (λ n s hI=>?_) n h
 show Zy _ A ((compTurn (.ListComp elt [⟨target,iter,ifs,0⟩] scope pos) 0 it acc env).onRaise (λ x=>do noteFrame x env;theTreesLotGoes x)) _ _ s
 refine wpAny_noted (nof ?_)
 rw[compTurn_list]
 refine Zd (ZaX (Zd (Zaf (turn n s hI) (λ r s₁ h₁=>?_) λ _ _ h'=>h')))
 cases r with
 | none=>exact Zw h₁
 | some v =>
  refine Zd (Zaf h₁ (λ _ s₁' h₁'=>?_) λ _ _ h'=>h')
  refine Zd (Zaf h₁' (λ _ s₂ h₂=>Zd (Zaf h₂ (λ ok s₃ h₃=>?_) λ _ _ h'=>h')) λ _ _ h'=>h')
  cases ok with
  | false=>exact Zw ⟨rfl,h₃⟩
  | true =>
   exact Zd (Zd (Zaf h₃ (λ x s₄ h₄=>Zd (Zaf h₄ (λ _ s₅ h₅=>Zw (Zw ⟨rfl,h₅⟩)) λ _ _ h'=>h')) λ _ _ h'=>h'))
def PTsi (ce:CeT)(X:Cx)(ifs:List Expr)(m:T1):Prop:=PX ce X RB (forIn ifs Zi λ c r=>if r=Zi then do let ok<-Zef c X.env (ZaU c X.env);pure (ZaR ok) else pure (ZaR r)) m
noncomputable def JB:T1:=λ _ h=>.ok Zi h
theorem Jwn:PTsi ce X [] JB:=λ _ s _ H ι _ _ _ _ N K=>wpAny_tests_nil (K Zi s H ι N .refl rfl)
theorem Jwo {ce:CeT}{X:Cx}{c:Expr}{m:T1}(hc:PTi ce X c m):PTsi ce X [c] m:=λ pj s σ H ι σi h Q E N K=>wpAny_tests_one (hc pj s σ H ι σi h Q E N K)
def Vv (ce:CeT)(X:Cx)(use:Option (Zg->Sem Unit))(pj:PnT)(ι:List Zo)(σi:ISt)(σ:L2.St)(H:Hp)(r:Res IV)(Q:QvT)(E:QvT):Prop :=
 match r with
 | .ok v h'=>∀D C m s' H' ι',Now ce X pj ι' σi h' σ H' s'->Nxt ι H ι' H'->RU X.K ι' H' v (.ref D)->s'.heap.Ns C m->FpOk X pj H' C->compPost (Z8 X.prog X.w) X.A E use Q (.ref D) C (.ok .next) s'
 | .exc n h'=>∀pl a s' H' ι',Now ce X (pj++pl) ι' σi h' σ H' s'->Nxt ι H ι' H'->ι'[n]?=Za a->E (.ref a) s'
 | .stuck=>False
theorem Vv.mono (k:Vv ce X use pj ι σi σ H r Q E)(n:Nxt ι H ι' H'):Vv ce X use pj ι' σi σ H' r Q E:=by
 cases r with
 | ok v h'=>exact λ D C m s' H2 ι2 N n2 q=>k D C m s' H2 ι2 N (n.trans n2) q
 | exc m h'=>exact λ pl a s' H2 ι2 N n2 q=>k pl a s' H2 ι2 N (n.trans n2) q
 | stuck=>exact k
def Warm (A:ZK)(H:Hp):Prop:=∃a oe u vs,A.handled=Za (.ref a)/\H a=Za (.frz oe u)/\oe.data=.fields vs/\vs[2]?=Za .none
theorem Warm.mono (x:Ext H H')(w:Warm A H):Warm A H':=let ⟨a,oe,u,vs,e1,e2,e3,e4⟩:=w;⟨a,oe,u,vs,e1,x.frzs _ _ _ e2,e3,e4⟩
structure TurnC (P:ZB)(w:Zab)(C:Cx->Hp->Prop)(tg:Expr)(J:It)(fp:List Zo)(it:Zo)(tn:Nat->Zau->Prop):Prop where
 obj:∀i h,tn i h->∀b∈fp,∃o,h.get? b=Za o/\∀v,o.data≠.cell v
 keep:∀i h h',tn i h->(∀b∈fp,∀o,h.get? b=Za o->h'.get? b=Za o)->tn i h'
 item:∀(X:Cx)(i:Nat)(s:Zn)(σ:L2.St)(H:Hp),C X H->Inv X [] σ H s->(∀b∈fp,FpOk X [] H b)->tn i s.heap->J.go i H ->
  Zy (Z8 P w) X.A (ZbC (.ref it)) (λ r s1=>∃u,r=Za u/\Zy (Z8 P w) X.A (Zco tg (.ref it) u) (λ _ s2=>∃x H',Inv X [] σ H' s2/\RelV x u/\J.yld i H x H'/\tn (i+1) s2.heap/\∀b∈fp,H' b=Zc) (λ _ _=>False) s1) (λ _ _=>False) s
 done:∀(X:Cx)(i:Nat)(s:Zn)(σ:L2.St)(H:Hp),C X H->Inv X [] σ H s->(∀b∈fp,FpOk X [] H b)->tn i s.heap->J.stop i H->Zy (Z8 P w) X.A (ZbC (.ref it)) (λ r s1=>r=Zc/\Inv X [] σ H s1) (λ _ _=>False) s
 self:∀(A:ZK)(i:Nat)(s:Zn)(Q:QvT)(E:QvT),tn i s.heap->Q (.ref it) s->Zy (Z8 P w) A (Zeg (.ref it)) Q E s
def J2g (X0:Cx)(X:Cx)(_:Hp):Prop:=X.prog=X0.prog/\X.w=X0.w/\X.K=X0.K/\X.calm=Zi
def RItC (C:Cx->Hp->Prop)(ce:CeT)(X:Cx)(tg:Expr)(pj:PnT)(ι':List Zo)(I:ItI)(itv:Zg)(s2:Zn)(H':Hp):Prop :=
 ∃(it:Zo)(fp:List Zo)(tn:Nat->Zau->Prop)(J:It),itv=.ref it/\TurnC X.prog X.w C tg J fp it tn/\tn 0 s2.heap/\(∀b∈fp,FpOk X pj H' b)/\ItOk ce X.K ι' H' J I
def PIc (C:Cx->Hp->Prop)(ce:CeT)(X:Cx)(tg iter:Expr)(m:I1):Prop :=
 ∀(pj:PnT)(s:Zn)(σ:L2.St)(H:Hp)(ι:List Zo)(σi:ISt)(h:IH)(Q:QvT)(E:QvT),Now ce X pj ι σi h σ H s ->
  (match m σi h with
   | .ok I h'=>∀itv s' H' ι',Now ce X pj ι' σi h' σ H' s'->Nxt ι H ι' H'->RItC C ce X tg pj ι' I itv s' H'->Q itv s'
   | .exc n h'=>∀pl a s' H' ι',Now ce X (pj++pl) ι' σi h' σ H' s'->Nxt ι H ι' H'->ι'[n]?=Za a->E (.ref a) s'
   | .stuck=>False) ->
  Zy (Z8 X.prog X.w) X.A (ZaU iter X.env) (λ v s1=>Zy (Z8 X.prog X.w) X.A (Zeg v) Q E s1) E s
theorem PIi.c (p:PIi ce X tg iter m):PIc (J2g X) ce X tg iter m:=λ pj s σ H ι σi h Q E N k=>p pj s σ H ι σi h Q E N (by
 cases e:m σi h with
 | exc n h'=>rw[e] at k;exact k
 | stuck=>rw[e] at k;exact k
 | ok I h' =>
  rw[e] at k
  intro itv s' H' ι' N' n' ⟨it,fp,tn,J,e1,T,r⟩
  refine k itv s' H' ι' N' n' ⟨it,fp,tn,J,e1,⟨T.obj,T.keep,λ X' i s σ H c=>?_,λ X' i s σ H c=>?_,T.self⟩,r⟩
  ·exact T.item X' c.1 c.2.1 c.2.2.1 c.2.2.2 i [] s σ H _
  ·exact T.done X' c.1 c.2.1 c.2.2.1 c.2.2.2 i [] s σ H _)
section
variable {ce:CeT}{X:Cx}
theorem Jkn {N0 loc caps:List Str}{js:List Nat}{sc₀ scope:Zbj}{tg iter elt:Expr}{ifs:List Expr}{g:G1}{mt:T1}{me:E1}{pos ppos:Pos}{use:Option (Zg->Sem Unit)}(hi:PIc Cc ce X tg iter mi) 
  (hg:∀C s H fp,PGi ce (cxC X (loc++caps) scope C s H fp) tg g)(ht:∀C s H fp,PTsi ce (cxC X (loc++caps) scope C s H fp) ifs mt)(he:∀C s H fp,PEi ce (cxC X (loc++caps) scope C s H fp) elt me)
  (ok:QM N0 loc caps js sc₀ scope=Zi)(hN0:X.N=N0:=by rfl)(hsc:X.env.scope=sc₀:=by rfl)(hs:∀x,ZbS iter X.env x=pure x:=by intro _;rfl)
  {pj:PnT}{s:Zn}{σ:L2.St}{H:Hp}{ι:List Zo}{σi:ISt}{h:IH}{Q:QvT}{E:QvT}(hcc:∀C s H1 fp H',Ext H H'->Cc (cxC X (loc++caps) scope C s H1 fp) H')(N:Now ce X pj ι σi h σ H s)(K:Vv ce X use pj ι σi σ H (Js mi loc.length js g mt me σi h) Q E) :
  Zy (Z8 X.prog X.w) X.A (comprehension (.ListComp elt [⟨tg,iter,ifs,0⟩] scope pos) scope X.env ppos (newList []) Zk (ZaU iter X.env) use) Q E s:=by
 simp only[QM,Zr,decide_eq_true_eq,ZaG,ZaZ,ZaF,beq_iff_eq,beq_eq_false_iff_ne] at ok
 obtain⟨⟨⟨⟨⟨⟨⟨⟨⟨kF,kF0⟩,kNC⟩,kL⟩,kFr⟩,kFx⟩,kJ⟩,kLen⟩,kNd⟩,kLo⟩:=ok
 have hfree:∀x∈scope.names,x.2=.free->X.env.kindOf x.1=Za .cell∨X.env.kindOf x.1=Za .free:=λ x hx hk=>by
  have e:X.env.kindOf x.1=sc₀.names.lookup x.1:=by rw[<- hsc];rfl
  rw[e]
  rcases kFr x hx with(z|z)|z
  ·exact absurd hk z
  ·exact .inl z
  ·exact .inr z
 have hclos:ZcF scope X.env=pure (clOf X.env.cells scope.names []):=Jas λ x hx hk=>N.inv.ok.has x.1 (hfree x hx hk)
 refine wpAny_comprehension_free (use:=use) (e:=.ListComp elt [⟨tg,iter,ifs,0⟩] scope pos) rfl hs hclos kF (λ x hx hl=>(kL x hx).resolve_left λ z=>z hl) ?_
 refine hi pj s σ H ι σi h _ E N ?_
 unfold Js at K
 cases e0:mi σi h with
 | exc n h'=>rw[e0] at K;exact K
 | stuck=>rw[e0] at K;exact K
 | ok Jt h1 =>
  rw[e0] at K
  intro itv s1 H1 ι1 N1 n1 RI
  obtain⟨it,fp,tn,J,e,T,st1,f1,OK⟩:=RI
  subst e
  -- the list
  refine wpAny_newObj_type ?_
  have fresh1:H1 s1.heap.objs.size=Zc:=N1.inv.hok.fresh (Zp _)
  have I2:Inv X pj σ (upd H1 s1.heap.objs.size (.lst [])) { s1 with heap:=s1.heap.push { cls:=.type "list",dict:=Zc,data:=.seq ([]:List Zg).toArray } } :=
   N1.inv.laid (t':=s1.toks) (λ b u e=>Zh _ e) (Zp _) ⟨Zac _,[],0,.nil,Z1 _ rfl⟩
  obtain⟨R2,n2⟩:=N1.rel.alloc (o:=.lst []) (io:=.lst []) fresh1 ⟨[],JE,rfl⟩
  generalize hs2:({ s1 with heap:=s1.heap.push { cls:=.type "list",dict:=Zc,data:=.seq ([]:List Zg).toArray } }:Zn)=s2 at I2 ⊢
  generalize hD:s1.heap.objs.size=D at *
  generalize hH2:upd H1 D (.lst [])=H2 at *
  have N2:Now ce X pj (ι1++[D]) σi (h1++[.lst []]) σ H2 s2:=⟨I2,R2,N1.st.mono n2⟩
  have keep12:∀b o,s1.heap.get? b=Za o->s2.heap.get? b=Za o:=λ b o q=>by rw[<- hs2];exact Zh _ q
  have st2:tn 0 s2.heap:=T.keep 0 _ _ st1 λ b _ o q=>keep12 b o q
  have hat:(ι1++[D])[h1.length]?=Za D:=by
   rw[<- N1.rel.len,Z9 (Zp _)]
   simp
  have f2:∀b∈fp,FpOk X pj H2 b:=λ b hb=>by
   refine⟨?_,(f1 b hb).2⟩
   obtain⟨o,ho,_⟩:=T.obj 0 _ st1 b hb
   have:b≠D:=Z7 (by rw[<- hD];exact Z4 ho)
   rw[<- hH2,Jx this]
   exact(f1 b hb).1
  -- the block's own dict
  refine wpAny_newFunctionEnv (λ x hx=>kNC x hx) (by intro y hy;simp at hy) (λ h3 hns3 hsb3=>?_) kF
  generalize hC:s2.heap.objs.size=C at *
  have keep23:∀b o,s2.heap.get? b=Za o->h3.get? b=Za o:=λ b o q=>(hsb3.2 b (Z7 (by rw[<- hC];exact Z4 q))).trans (Zh _ q)
  have cells':∀x c,(clOf X.env.cells scope.names []).lookup x=Za c->X.env.cells.lookup x=Za c:=Ji8 _ _ (λ x c q=>by simp at q)
  -- the context of the block
  have okX:(cxC X (loc++caps) scope C s2 H2 fp).Ok:=by
   refine⟨N.inv.ok.mod,kF,N.inv.ok.glob,N.inv.ok.blt,Zc2 hC,λ x y c a b=>N.inv.ok.inj x y c (cells' x c a) (cells' y c b),λ x hx=>?_,λ x c z=>?_,N.inv.ok.hd,N.inv.ok.frames,.inl rfl,λ b hb=>?_,λ b o q=>I2.bs b o q,
    Zak N.inv.ok.bsz I2.sz,λ b o q hb=>?_,λ b hb z=>?_,I2.stack,I2.stkFree⟩
   ·have hx':(relabel scope X.env).names.lookup x=Za .cell∨(relabel scope X.env).names.lookup x=Za .free:=hx
    have hfr:scope.names.lookup x=Za .free:=by
     rcases hx' with z|z
     ·obtain⟨k0,e,m⟩:=Jbk z
      simp only[Z6,Prod.mk.injEq,Zal,or_false] at m
      rcases m with⟨m1,_⟩|⟨_,m2⟩
      ·exact absurd (kNC _ (Zai e)) (by rw[<- m1];intro q;exact q rfl)
      ·rw[m2] at e;exact e
     ·obtain⟨k0,e,m⟩:=Jbk z
      simp only[Z6,Prod.mk.injEq,Zal,or_false] at m
      rcases m with⟨m1,_⟩|⟨m1,_⟩
      ·rw[<- m1] at e;exact e
      ·cases m1
    have hm:=Zai hfr
    obtain⟨c,hc'⟩:=N.inv.ok.has x (hfree (x,.free) hm rfl)
    exact Zbk.mp (XZ _ _ x c hm hc')
   ·exact absurd (show Zk=Zi from z) Zu
   ·have hbD:=f2 b hb
    obtain⟨o,ho,_⟩:=T.obj 0 _ st2 b hb
    exact⟨Z7 (by show b<C;rw[<- hC];exact Z4 ho),λ x c q=>hbD.2.2.2.2.1 x c (cells' x c q)⟩
   ·rcases(f2 b hb).2.2.2.1 with z|z
    ·exact N.inv.ok.noex b o q z
    ·exact Zck _ (ZJ (Z4 q) (Zak N.inv.ok.bsz z))
   ·rcases Z6.mp (I2.stkSub b z) with e|e
    ·exact(f2 b hb).2.1 e
    ·exact(f2 b hb).2.2.1 e
  -- the block's state
  have lenJ:js.length=caps.length:=kLen
  have stl:(stC loc.length js σi).length=(loc++caps).length:=by simp[stC,lenJ]
  have R3:Rel ce X.K (ι1++[D]) (h1++[.lst []]) H2:=R2
  have I3:Inv (cxC X (loc++caps) scope C s2 H2 fp) [] (ZI loc.length Zc++js.map λ j=>(σ[j]?).join) H2 { s2 with heap:=h3,toks:=s2.toks+([]:List (Str×Zg)).length }:=by
   refine⟨okX,rfl,I2.bare,Un.kept keep23,⟨_,hns3,λ i x v a b c=>?_⟩,λ x c q=>?_,I2.hok.fresh (Zc2 hC),λ x c q=>I2.freeC x c (cells' x c q),λ p hp=>absurd (show p∈([]:PnT) from hp) 03,I2.hok.kept keep23,by show _=(loc++caps).length;simp[lenJ]⟩
   ·have hi:loc.length<=i:=by
     refine ZcE λ hlt=>?_
     rw[ZC (by simpa using hlt),ZbD] at b
     split at b<;>cases b
    obtain⟨k,rfl⟩:∃k,i=loc.length+k:=⟨i-loc.length,00⟩
    have a':(loc++caps)[loc.length+k]?=Za x:=a
    rw[Z9 00] at a'
    rw[Z9 03] at b
    simp only[Nat.add_sub_cancel_left,Zby,Zt] at a' b
    cases ej:js[k]? with
    | none=>rw[ej] at b;cases b
    | some j =>
     rw[ej] at b
     have b':(σ[j]?).join=Za v:=ZQ b
     have hσ:σ[j]?=Za (Za v):=by
      cases es:σ[j]? with
      | none=>rw[es] at b';cases b'
      | some o=>rw[es] at b';rw[show o=Za v from b']
     have hz:=kJ (j,x) (ZdG.mpr ⟨k,by rw[List.getElem?_zip_eq_some];exact⟨ej,a'⟩⟩)
     obtain⟨hx1,hx2⟩:=hz
     obtain⟨m,hn,hl⟩:=I2.loc
     have hk:=hfree (x,.free) (Zai hx2) rfl
     obtain⟨u,ru,lk⟩:=hl j x v (by rw[hN0];exact hx1) hσ (by rcases hk with q|q;exact .inr (.inl q);exact .inr (.inr q))
     rcases lk with⟨q,_⟩|⟨q,c,hc',hcell⟩
     ·rcases hk with q'|q'<;>(rw[q'] at q;cases q)
     ·obtain⟨kk,ek,hkk⟩:=Jfs (env:=X.env) hx2
      have hcl:=XZ (cells:=X.env.cells) scope.names [] x c (Zai hx2) hc'
      obtain⟨c',hc2⟩:=Zbk.mp hcl
      have:=cells' x c' hc2
      rw[hc'] at this
      cases this
      obtain⟨oc,hoc,hd⟩:=hcell
      refine⟨u,ru,.inr ⟨?_,c,hc2,oc,keep23 _ _ hoc,hd⟩⟩
      rcases hkk with rfl|rfl
      ·exact .inl ek
      ·exact .inr ek
   ·obtain⟨v,o,ho,hd⟩:=I2.cell x c (cells' x c q)
    exact⟨v,o,keep23 _ _ ho,hd⟩
  have N3:Now ce (cxC X (loc++caps) scope C s2 H2 fp) [] (ι1++[D]) (stC loc.length js σi) (h1++[.lst []]) (ZI loc.length Zc++js.map λ j=>(σ[j]?).join) H2 { s2 with heap:=h3,toks:=s2.toks+([]:List (Str×Zg)).length }:=by
   refine⟨I3,R3,by simp[stC],λ i v q=>?_⟩
   unfold stC at q
   have hi:loc.length<=i:=by
    refine ZcE λ hlt=>?_
    rw[ZC (by simpa using hlt),ZbD] at q
    split at q<;>cases q
   rw[Z9 (by simpa using hi)] at q
   simp only[Zby,Zt] at q
   cases ej:js[i-loc.length]? with
   | none=>rw[ej] at q;cases q
   | some j =>
    rw[ej] at q
    have q':(σi[j]?).join=Za v:=ZQ q
    have hσ:σi[j]?=Za (Za v):=by
     cases es:σi[j]? with
     | none=>rw[es] at q';cases q'
     | some o=>rw[es] at q';rw[show o=Za v from q']
    obtain⟨u,hu,qu⟩:=N2.st.at_ j v hσ
    refine⟨u,?_,qu⟩
    rw[Z9 (by simpa using hi)]
    simp only[Zby,Zt,ej,ZdC,hu]
    rfl
  have st3:tn 0 h3:=T.keep 0 _ _ st2 λ b _ o q=>keep23 b o q
  have K2:Vv ce X use pj (ι1++[D]) σi σ H2 (JN Jt.chk g mt me h1.length Jt.xs (stC loc.length js σi) (h1++[.lst []])) Q E:=Vv.mono (r:=JN Jt.chk g mt me h1.length Jt.xs (stC loc.length js σi) (h1++[.lst []])) K (n1.trans n2)
  have loop:Zcp (Z8 X.prog X.w) X.A (.compLoop (.ListComp elt [⟨tg,iter,ifs,0⟩] scope pos) 0 (.ref it) (.ref D) (compEnvC scope (clOf X.env.cells scope.names []) C X.env)) (compPost (Z8 X.prog X.w) X.A E use Q (.ref D) C)
    { s2 with heap:=h3,toks:=s2.toks+([]:List (Str×Zg)).length }:=by
   refine Jkm (λ n s'=>∃k ιk σk hk σ' H',Now ce (cxC X (loc++caps) scope C s2 H2 fp) [] ιk σk hk σ' H' s'/\Nxt (ι1++[D]) H2 ιk H'/\tn k s'.heap/\(∀b∈fp,H' b=Zc)/\n=Jt.xs.length-k/\k<=Jt.xs.length/\Vv ce X use pj ιk σi σ H' (JN Jt.chk g mt me h1.length (Jt.xs.drop k) σk hk) Q E) ?_ Jt.xs.length
    ⟨0,ι1++[D],stC loc.length js σi,h1++[.lst []],_,H2,N3,.refl,st3,λ b hb=>(f2 b hb).1,03,Zac _,by simpa using K2⟩
   have stat:∀{H':Hp},(∀b∈fp,H' b=Zc)->∀b∈fp,FpOk (cxC X (loc++caps) scope C s2 H2 fp) [] H' b:=λ hn b hb =>
    ⟨hn b hb,(okX.exf b hb).1,okX.exfs b hb,.inl hb,(okX.exf b hb).2,λ p hp=>absurd (show p∈([]:PnT) from hp) 03⟩
   rintro n s4 ⟨k,ιk,σk,hk,σ4,H4,N4,n4,st4,fr4,rfl,hkl,K4⟩
   by_cases hlt:k<Jt.xs.length
   ·have hd:Jt.xs.drop k=Jt.xs[k]::Jt.xs.drop (k+1):=ZaH hlt
    rw[hd] at K4
    unfold JN at K4
    split at K4
    ·rename_i hck
     obtain⟨go,yl⟩:=OK.go k Jt.xs[k] hk H4 ιk (n2.trans n4) N4.rel hck (Zb hlt)
     refine thn (T.item (cxC X (loc++caps) scope C s2 H2 fp) k s4 σ4 H4 (hcc _ _ _ _ _ (n1.trans (n2.trans n4)).ext) N4.inv (stat fr4) st4 go) λ r s5 ⟨u,hr,h5⟩=>?_
     subst hr
     refine thn h5 λ _ s6 ⟨x,H6,I6,r6,y6,st6,fr6⟩=>?_
     obtain⟨R6,n6,q6⟩:=yl x H6 y6
     have I6':=I6.pinned (stat fr6) (T.obj _ _ st6)
     have N6:Now ce (cxC X (loc++caps) scope C s2 H2 fp) ([]++QZ fp s6.heap) ιk σk hk σ4 H6 s6:=⟨I6',R6,N4.st.mono n6⟩
     have again:∀{σ7:L2.St}{H7:Hp}{s7:Zn}{σ7i:ISt}{h7:IH}{ι7:List Zo},Now ce (cxC X (loc++caps) scope C s2 H2 fp) ([]++QZ fp s6.heap) ι7 σ7i h7 σ7 H7 s7->Nxt ιk H6 ι7 H7->Vv ce X use pj ιk σi σ H4 (JN Jt.chk g mt me h1.length (Jt.xs.drop (k+1)) σ7i h7) Q E ->
       ∃m,m<Jt.xs.length-k/\∃k ιk σk hk σ' H',Now ce (cxC X (loc++caps) scope C s2 H2 fp) [] ιk σk hk σ' H' s7/\Nxt (ι1++[D]) H2 ιk H'/\tn k s7.heap/\(∀b∈fp,H' b=Zc)/\m=Jt.xs.length-k/\k<=Jt.xs.length/\Vv ce X use pj ιk σi σ H' (JN Jt.chk g mt me h1.length (Jt.xs.drop k) σk hk) Q E :=
      λ {σ7 H7 s7 σ7i h7 ι7} N7 n7 K7=>by
       have nn:Nxt ιk H4 ι7 H7:=n6.trans n7
       refine⟨Jt.xs.length-(k+1),00,k+1,ι7,σ7i,h7,σ7,H7,N7.pins,n4.trans nn,T.keep _ _ _ st6 λ b hb o e=>(N7.inv.pin (b,o) (Zj _ (Zj _ (Ys hb e)))).1,λ b hb=>?_,rfl,hlt,K7.mono nn⟩
       obtain⟨o,e,d⟩:=T.obj _ _ st6 b hb
       exact(N7.inv.pin (b,o) (Zj _ (Zj _ (Ys hb e)))).2.1
     cases eg:g Jt.xs[k] σk hk with
     | next σg hgg =>
      rw[eg] at K4
      dsimp only at K4
      refine hg C s2 H2 fp _ s6 σ4 H6 ιk σk hk _ u (λ _ s7=>Zy (Z8 X.prog X.w) X.A (forIn ifs Zi λ c r=>if r=Zi then do let ok<-Zef c _ (ZaU c _);pure (ZaR ok) else pure (ZaR r)) _ _ s7) (λ _ _=>False) N6 ⟨x,r6,q6⟩ ?_
      rw[eg]
      intro s7 σ7 H7 ι7 N7 n7
      refine ht C s2 H2 fp _ s7 σ7 H7 ι7 σg hgg _ (λ _ _=>False) N7 ?_
      cases et:mt σg hgg with
      | ok c h8 =>
       rw[et] at K4
       intro d s8 H8 ι8 N8 n8 rd
       have rd':d=c:=rd
       subst rd'
       cases d with
       | false=>exact again N8 (n7.trans n8) K4
       | true =>
        dsimp only at K4
        refine he C s2 H2 fp _ s8 σ7 H8 ι8 σg h8 _ (λ _ _=>False) N8 ?_
        cases ee:me σg h8 with
        | ok v h9 =>
         rw[ee] at K4
         dsimp only at K4
         intro w s9 H9 ι9 N9 n9 rw9
         have hat9:ι9[h1.length]?=Za D:=(((n4.trans n6).trans n7).trans (n8.trans n9)).at hat
         cases hl:h9[h1.length]? with
         | none=>rw[hl] at K4;exact Zf K4
         | some ob =>
          rw[hl] at K4
          cases ob with
          | lst acc =>
           dsimp only at K4
           split at K4
           ·rename_i hz
            obtain⟨vs,eD,rD⟩:=N9.at hl hat9
            obtain⟨wv,rw9,qw⟩:=rw9
            have ap:=Jlc (X:=(cxC X (loc++caps) scope C s2 H2 fp).wish λ _ _=>False) ([]++QZ fp s6.heap) s9 σ7 H9 (.ref D) [wv] (.ref D) [w] (λ _ H'=>H'=upd H9 D (.lst (vs++[wv]))) (N9.inv.wish _) rfl (.cons rw9 .nil) ⟨D,vs,wv,rfl,rfl,eD,by rw[rD.length];exact hz,rfl⟩
            refine Zaf ap (λ _ s10 hq=>?_) λ _ _ z=>z
            obtain⟨z,H10,I10,_,rfl⟩:=hq
            have n10:Nxt ι9 H9 ι9 (upd H9 D (.lst (vs++[wv]))):=⟨⟨[],03⟩,Ext.upd_mut eD (by rw[eD];exact Zam)⟩
            obtain⟨R10,_⟩:=N9.rel.write (o:=.lst (vs++[wv])) (io:=.lst (acc++[v])) hat9 eD (by rw[eD];exact Zam) ⟨_,JE,(RVs.mono n10 _ _ rD).append (RVs.one (RV.mono n10 _ _ qw))⟩
            exact again ⟨I10.unwish,R10,N9.st.mono n10⟩ (((n7.trans n8).trans n9).trans n10) K4
           ·exact Zf K4
          | _=>exact Zf K4
        | _=>rw[ee] at K4;exact Zf K4
      | _=>rw[et] at K4;exact Zf K4
     | _=>rw[eg] at K4;exact Zf K4
    ·exact Zf K4
   ·have hke:Jt.xs.drop k=[]:=Zc6 00
    rw[hke] at K4
    unfold JN at K4
    split at K4
    ·rename_i hck
     have stop:=OK.stop k hk H4 ιk (n2.trans n4) N4.rel hck 00
     refine thn (T.done (cxC X (loc++caps) scope C s2 H2 fp) k s4 σ4 H4 (hcc _ _ _ _ _ (n1.trans (n2.trans n4)).ext) N4.inv (stat fr4) st4 stop) λ r s5 ⟨hr,I5⟩=>?_
     subst hr
     obtain⟨m,hnm,_⟩:=I5.loc
     -- back to the def's own frame
     have hos:s5.os=s2.os:=I5.os
     obtain⟨hp5,g5,d5,t5,os5⟩:=s5
     obtain rfl:os5=s2.os:=hos
     have J5:Inv X pj σ H4 { s2 with heap:=hp5,gens:=g5,drawn:=d5,toks:=t5 }:=I2.call (ch:=fp) I5.base I5.hok I5.bare λ b hb=>⟨(f2 b hb).2.2.2.1,(f2 b hb).2.1,(f2 b hb).2.2.2.2.1,(f2 b hb).2.2.2.2.2⟩
     have fC:FpOk X pj H4 C:=I2.fpOk (Zc2 hC) I5.free
     exact K4 D C m _ H4 ιk ⟨J5,N4.rel,(N2.st.mono n4)⟩ .refl ⟨.ref D,rfl,D,rfl,n4.at hat⟩ hnm fC
    ·exact Zf K4
  exact codeAny_compStart_list loop (T.self X.A 0 _ _ _ st3 loop)
theorem Now.letgo {pj:PnT}{ι:List Zo}{σi:ISt}{h:IH}{σ:L2.St}{H:Hp}{s:Zn}{C:Zo}{h':Zau}(N:Now ce X pj ι σi h σ H s)(fC:FpOk X pj H C)(sb:Zc0 C s.heap h'):Now ce X pj ι σi h σ H { s with heap:=h' } :=
 ⟨N.inv.turned (it:=C) (t':=s.toks) (λ b o hb q=>(sb.2 b hb).trans q) fC.1 fC.2.1 fC.2.2.2.1 fC.2.2.2.2.1 fC.2.2.2.2.2,N.rel,N.st⟩
theorem Jv2 {N0 loc caps:List Str}{js:List Nat}{sc₀ scope:Zbj}{tg iter elt:Expr}{ifs:List Expr}{g:G1}{mt:T1}{me:E1}{pos:Pos}(hc:X.calm=Zi)(hi:PIi ce X tg iter mi) 
  (hg:∀C s H fp,PGi ce (cxC X (loc++caps) scope C s H fp) tg g)(ht:∀C s H fp,PTsi ce (cxC X (loc++caps) scope C s H fp) ifs mt)(he:∀C s H fp,PEi ce (cxC X (loc++caps) scope C s H fp) elt me)
  (ok:QM N0 loc caps js sc₀ scope=Zi)(hN0:X.N=N0:=by rfl)(hsc:X.env.scope=sc₀:=by rfl)(hs:∀x,ZbS iter X.env x=pure x:=by intro _;rfl):PEi ce X (.ListComp elt [⟨tg,iter,ifs,0⟩] scope pos) (Js mi loc.length js g mt me):=by
 intro pj s σ H ι σi h Q E N K
 rw[eval_ListComp]
 refine Jkn hi.c hg ht he ok hN0 hsc hs (λ _ _ _ _ _ _=>⟨rfl,rfl,rfl,hc⟩) N ?_
 cases e0:Js mi loc.length js g mt me σi h with
 | exc n h'=>rw[e0] at K;exact K
 | stuck=>rw[e0] at K;exact K
 | ok v h' =>
  rw[e0] at K
  exact λ D C m s' H' ι' N' n' r hns fC=>⟨m,hns,λ h2 sb=>K _ _ H' ι' (N'.letgo fC sb) n' r⟩
theorem Jwg {N0 loc caps:List Str}{js:List Nat}{sc₀ scope:Zbj}{tg iter elt:Expr}{ifs:List Expr}{g:G1}{mt:T1}{me:E1}{pos pos2 pos3:Pos}{i:Nat}{x:Str}(hc:X.calm=Zi)(hi:PIi ce X tg iter mi) 
  (hg:∀C s H fp,PGi ce (cxC X (loc++caps) scope C s H fp) tg g)(ht:∀C s H fp,PTsi ce (cxC X (loc++caps) scope C s H fp) ifs mt)(he:∀C s H fp,PEi ce (cxC X (loc++caps) scope C s H fp) elt me)
  (ok:QM N0 loc caps js sc₀ scope=Zi)(hN0:X.N=N0:=by rfl)(hsc:X.env.scope=sc₀:=by rfl)(hs:∀x,ZbS iter X.env x=pure x)
  (hN:X.N.Nodup)(hix:X.N[i]?=Za x)(hlx:Loc X.env.scope x)(hf:X.fn x=Zi∨X.env.scope.names.lookup x=Za .local)
  (hsw:ZcU (.ListComp elt [⟨tg,iter,ifs,0⟩] scope pos) (Za (.Name x pos2)) pos3.line X.env=pure Zi) :
  PS1 ce X (.Assign [.Name x pos2] (.ListComp elt [⟨tg,iter,ifs,0⟩] scope pos) pos3) (Ji i (Js mi loc.length js g mt me)):=by
 intro pj s σ H ι σi h Q E N K
 rw[exec_Assign_Name_used _ _ _ _ hsw]
 refine Zd (ZaX (Zd ?_))
 rw[arm_evalThenUse_ListComp]
 refine Zd ?_
 refine Jkn (use:=Za (Zdi (.Name x pos2) X.env)) hi.c hg ht he ok hN0 hsc hs (λ _ _ _ _ _ _=>⟨rfl,rfl,rfl,hc⟩) N ?_
 unfold Ji at K
 cases e0:Js mi loc.length js g mt me σi h with
 | exc n h'=>rw[e0] at K;exact λ pl a s' H' ι' N' n' q=>K pl a s' σ H' ι' N' n' q s' (.inl rfl)
 | stuck=>rw[e0] at K;exact K
 | ok v h' =>
  rw[e0] at K
  intro D C m s' H' ι' N' n' r hns fC
  obtain⟨w,rw',q⟩:=r
  obtain⟨oC,es,ep,hoC,hdC,hrest⟩:=id hns
  have hp:Inv X (pj++QZ [C] s'.heap) σ H' s':=N'.inv.pinned (λ b hb=>(show b=C by simpa using hb)▸fC) (λ b hb=>by
   have e:b=C:=by simpa using hb
   subst e
   exact⟨oC,hoC,λ v z=>by rw[hdC] at z;cases z⟩)
  refine wpAny_assign_Name (Jge hp hN hix hlx rw' (λ s2 I2=>?_) hf)
  have hC2:=(I2.pin (C,oC) (Zj _ (Zj _ (Ys 03 hoC)))).1
  refine⟨m,⟨oC,es,ep,hC2,hdC,hrest⟩,λ h2 sb=>Zw ?_⟩
  have N2:Now ce X pj ι' (σi.set i (Za v)) h' (σ.set i (Za w)) H' s2:=⟨I2.unpinned,N'.rel,N'.st.set i q⟩
  exact Zw (K _ _ H' ι' (N2.letgo fC sb) n')
def Vq (x:Str):List IV:=x.cps.toList.map λ c=>.str ⟨#[c]⟩
def Its (x:Str):It:=⟨λ i _=>i<x.cps.size,λ i H y H'=>H'=H/\∃c,x.cps[i]?=Za c/\y=.str ⟨#[c]⟩,λ i _=>x.cps.size<=i⟩
theorem Jn8 {P:ZB}{w:Zab}{K:W.Frag}{tg:Expr}{x:Str}{t:Tok}(it:Zo)(hty:["enumerate","zip","dict_itemiterator","dict_reverseitemiterator","odict_iterator","itertools.zip_longest","itertools.pairwise"].contains ty=Zk) 
  (W:∀A:ZK,A.handled=Zc->Walks P w A it [it] [it] x.cps.size (SignAt x) (λ i h=>h.IsStrIter it ty x t i))
  (We:∀(A:ZK)(E:QvT)(s:Zn)(i:Nat)(Q:Option Zg->Zn->Prop),A.handled=Zc->s.heap.IsStrIter it ty x t i->x.cps[i]?=Zc->(∀h',Heap.ExtBut it s.heap h'->Q Zc { s with heap:=h' })->Zy (Z8 P w) A (ZbC (.ref it)) Q E s)
  (Ws:∀(A:ZK)(E:QvT)(s:Zn)(i:Nat)(Q:QvT),s.heap.IsStrIter it ty x t i->Q (.ref it) s->Zy (Z8 P w) A (Zeg (.ref it)) Q E s):Turn P w K tg (Its x) [it] it (λ i h=>h.IsStrIter it ty x t i) where
 mem:=03
 obj:=λ i h st b hb=>by
  have e:b=it:=by simpa using hb
  subst e
  obtain⟨o,e,c,d⟩:=st
  exact⟨o,e,λ v z=>by rw[d] at z;cases z⟩
 keep:=λ i h h' st k=>by
  obtain⟨o,e,r⟩:=st
  exact⟨o,k it 03 o e,r⟩
 item:=by
  intro X hP hw hK hc i pj s σ H E I hf st hg
  subst hP hw hK
  obtain⟨f0,f1,f2,f3,f4,f5⟩:=hf it 03
  refine(W X.A (I.ok.hd hc)).item i s _ _ hg st λ v h' tk hv st' kk=>?_
  obtain⟨c,u,hcc,rfl⟩:=hv
  have I1:Inv X pj σ H { s with heap:=h',toks:=tk }:=I.turned (λ b o hb e=>kk b o (by simpa using hb) e) f0 f1 f3 f4 f5
  obtain⟨o,e,c1,d1⟩:=id st'
  exact⟨_,rfl,Jto (s:={ s with heap:=h',toks:=tk }) e c1 d1 hty ⟨.str ⟨#[c]⟩,H,I1,⟨u,rfl⟩,⟨rfl,c,hcc,rfl⟩,st',λ b hb=>(hf b hb).1⟩⟩
 done:=by
  intro X hP hw hK hc i pj s σ H E I hf st hg
  subst hP hw hK
  obtain⟨f0,f1,f2,f3,f4,f5⟩:=hf it 03
  have hi:x.cps.size<=i:=hg
  have hx:x.cps[i]?=Zc:=by simp[hi]
  exact We X.A _ s i _ (I.ok.hd hc) st hx λ h' eb=>⟨rfl,I.turned (t':=s.toks) (λ b o hb e=>eb b o hb e) f0 f1 f3 f4 f5⟩
 self:=λ A i s Q E st h=>Ws A E s i Q st h
def Jt4:IV->IH->Res ItI
 | .str x,h=>.ok ⟨Vq x,λ _=>True⟩ h
 | _,_=>.stuck
def iStr (e:E1):I1:=λ σ h=>(e σ h).bind Jt4
theorem Jv4 {x:Str}{ι:List Zo}{H₀:Hp}:ItOk ce X.K ι H₀ (Its x) ⟨Vq x,λ _=>True⟩:=by
 refine⟨λ k v h H ι' hp R hck hx=>?_,λ k h H ι' hp R hck hx=>?_⟩
 ·have hk:k<x.cps.size:=by
   have:=(Zq.mp hx).1
   simpa [Vq] using this
  refine⟨hk,λ y H' hy=>?_⟩
  obtain⟨rfl,c,hc,rfl⟩:=hy
  simp only[Vq,Zt,ZdF,hc] at hx
  cases hx
  exact⟨R,.refl,rfl⟩
 ·have:(Vq x).length=x.cps.size:=by simp[Vq]
  show x.cps.size<=k
  rw[<- this]
  exact hx
theorem Jo8 {tg l:Expr}{ml:E1}(hl:PEi ce X l ml):PIi ce X tg l (iStr ml):=by
 intro pj s σ H ι σi h Q E N K
 refine hl pj s σ H ι σi h _ E N ?_
 unfold iStr at K
 cases e0:ml σi h with
 | exc n h'=>rw[e0] at K;exact K
 | stuck=>rw[e0] at K;exact K
 | ok v h' =>
  rw[e0] at K
  intro u s1 H1 ι1 N1 n1 r1
  obtain⟨w,rw',q⟩:=r1
  have fresh:∀b∈[s1.heap.objs.size],FpOk X pj H1 b:=λ b hb=>by
   have e:b=s1.heap.objs.size:=by simpa using hb
   subst e
   exact N1.inv.fpOk (Zp _) (N1.inv.hok.fresh (Zp _))
  cases v with
  | str x =>
   have e1:w=.str x:=q
   subst e1
   obtain⟨t,rfl⟩:=rw'
   simp only[Res.bind,Jt4] at K
   cases ha:x.cps.all (· < 128) with
   | true =>
    refine wpAny_pyIter_ascii ha (K _ _ H1 ι1 ⟨N1.inv.kept (t':=s1.toks) λ b o e=>Zh _ e,N1.rel,N1.st⟩ n1 ?_)
    exact⟨s1.heap.objs.size,[s1.heap.objs.size],_,Its x,rfl,Jn8 (ty:="str_ascii_iterator") (t:=t) _ 01 (λ A hA=>Walks.strAscii hA _ x t) (λ A E s i Q hA st hx hQ=>wpAny_pyNext_ascii_end hA st hx hQ) (λ A E s i Q st hq=>wpAny_pyIter_striter_ascii st hq),⟨_,Z1 _ rfl,rfl,rfl⟩,fresh,Jv4⟩
   | false =>
    refine wpAny_pyIter_wide ha (K _ _ H1 ι1 ⟨N1.inv.kept (t':=s1.toks) λ b o e=>Zh _ e,N1.rel,N1.st⟩ n1 ?_)
    exact⟨s1.heap.objs.size,[s1.heap.objs.size],_,Its x,rfl,Jn8 (ty:="str_iterator") (t:=t) _ 01 (λ A hA=>Walks.strWide hA _ x t) (λ A E s i Q hA st hx hQ=>wpAny_pyNext_wide_end hA st hx hQ) (λ A E s i Q st hq=>wpAny_pyIter_striter_wide st hq),⟨_,Z1 _ rfl,rfl,rfl⟩,fresh,Jv4⟩
  | _=>simp only[Res.bind,Jt4] at K
def Ite (K:W.Frag)(a:Zo):It :=
 ⟨λ i H=>∃xs x,SqL K H a xs/\xs[i]?=Za x,λ i H y H'=>∃p x,H p=Zc/\y=.ref p/\H'=upd H p (.tup [.int (i:Int),x])/\∀xs,SqL K H a xs->xs[i]?=Za x,λ i H=>∃xs,SqL K H a xs/\xs.length<=i⟩
theorem Jsr {P:ZB}{w:Zab}{K:W.Frag}{es:List Expr}{k:Nat}{p:Pos}(a it e:Zo)(hne:e≠it):Turn P w K (.Tuple es k p) (Ite K a) [e,it] e (λ i h=>(∃old,IsEnum h e it (i:Int) old)/\h.IsListIter it a i) where
 mem:=03
 obj:=λ i h st b hb=>by
  obtain⟨⟨old,he⟩,o,e1,c,d⟩:=st
  simp only[Z6,Zal,or_false] at hb
  rcases hb with rfl|rfl
  ·exact⟨_,he,λ v z=>by
    have z':Data.fields _=Zeu v:=z
    cases z'⟩
  ·exact⟨o,e1,λ v z=>by rw[d] at z;cases z⟩
 keep:=λ i h h' st k=>⟨let ⟨old,he⟩:=st.1;⟨old,k e 03 _ he⟩,st.2.at λ o e=>k it 03 o e⟩
 item:=by
  intro X hP hw hK hc i pj s σ H E I hf st hg
  subst hP hw hK
  obtain⟨⟨old,he⟩,hit⟩:=st
  obtain⟨xs,x,hq,hx⟩:=hg
  obtain⟨its,rv,pl,hz⟩:=I.list hq
  obtain⟨u,hu,ru⟩:=rv.get hx
  have fe:=hf e 03
  have fi:=hf it 03
  have hn:H s.heap.objs.size=Zc:=I.hok.fresh (Zp _)
  refine wpAny_pyNext_enum_item he hit pl.isList (x:=u) (by simpa using hu) hne λ h' he' hit' ht hsz kk=>?_
  refine⟨_,rfl,wpAny_letOwnedTupleGo_enum he' λ h2 he2 sb=>?_⟩
  have ltE:e<s.heap.objs.size:=Z4 he
  have neT:s.heap.objs.size≠e:=ZaP ltE
  have k2:∀b o,b≠e->b≠it->s.heap.get? b=Za o->h2.get? b=Za o:=λ b o h1 h3 q=>(sb.2 b h1).trans (kk b o h1 h3 q)
  have hl2:h2.IsListIter it a (i+1):=by
   obtain⟨o,q,r⟩:=hit'
   exact⟨o,(sb.2 it (ZR hne)).trans q,r⟩
  have t2:h2.get? s.heap.objs.size=Za { cls:=.type "tuple",data:=.seq #[.int i s.toks,u] }:=(sb.2 _ neT).trans ht
  -- the two records turn, then the tuple is tracked
  obtain⟨oe,hoe⟩:∃o,s.heap.get? e=Za o:=⟨_,he⟩
  obtain⟨oi,hoi,_⟩:=id hit
  have neP:∀b u,H b=Za u->b≠s.heap.objs.size:=λ b u q=>Vp q hn
  have I1:Inv X pj σ (upd H s.heap.objs.size (.tup [.int (i:Int),x])) { s with heap:=h2,toks:=s.toks+1 }:=by
   refine I.step (g':=s.gens) (d':=s.drawn) (ch:=[e,it]) (λ b hb=>?_) (λ b o _ _ hc q _=>k2 b o (λ z=>hc (by simp[z])) (λ z=>hc (by simp[z])) q) (λ b o _ _ hc q _=>⟨o.slots,k2 b o (λ z=>hc (by simp[z])) (λ z=>hc (by simp[z])) q⟩) (λ b o _ q n=>?_)
    (λ b o hc q=>⟨o,k2 b o (λ z=>hc (by simp[z])) (λ z=>hc (by simp[z])) q⟩) (λ b xs q=>by rw[Jx (neP b _ q)];exact q) (λ b o u q=>by rw[Jx (neP b _ q)];exact q) (λ b ps q=>⟨#[],by rw[Jx (neP b _ q),q];simp⟩) (λ m hm=>?_) (λ b u q=>?_) I.bare
   ·simp only[Z6,Zal,or_false] at hb
    rcases hb with rfl|rfl
    ·exact⟨fe.2.2.2.1,fe.2.1,fe.2.2.2.2.1,fe.2.2.2.2.2⟩
    ·exact⟨fi.2.2.2.1,fi.2.1,fi.2.2.2.2.1,fi.2.2.2.2.2⟩
   ·rw[Jx (Z7 (Z4 q))];exact n
   ·obtain⟨o,es,ep,ho,r⟩:=hm
    exact⟨o,es,ep,k2 _ o (ZR fe.2.1) (ZR fi.2.1) ho,r⟩
   ·by_cases hb:b=s.heap.objs.size
    ·subst hb
     rw[JE] at q
     cases q
     exact⟨by show 2<=sizeLine;decide,[.int i s.toks,u],.cons ⟨_,rfl⟩ (.cons ru .nil),⟨_,t2,rfl,_,rfl⟩⟩
    ·rw[Jx hb] at q
     have n1:b≠e:=λ z=>by rw[z,fe.1] at q;cases q
     have n2:b≠it:=λ z=>by rw[z,fi.1] at q;cases q
     refine(I.hok b u q).stay (λ c v hc r=>k2 c v ?_ ?_ r) (λ c q=>by rw[Jx (neP c _ q)];exact q) λ c ys q=>by rw[Jx (neP c _ q)];exact q
     ·rcases hc with z|z
      ·rw[z];exact n1
      ·intro y;rw[y,fe.1] at z;cases z
     ·rcases hc with z|z
      ·rw[z];exact n2
      ·intro y;rw[y,fi.1] at z;cases z
  refine⟨.ref s.heap.objs.size,_,I1,rfl,⟨s.heap.objs.size,x,hn,rfl,rfl,λ ys hy=>by rw[I.list_inj hy hq];exact hx⟩,⟨⟨_,he2⟩,hl2⟩,λ b hb=>?_⟩
  simp only[Z6,Zal,or_false] at hb
  rcases hb with rfl|rfl
  ·rw[Jx (Z7 ltE)];exact fe.1
  ·rw[Jx (Z7 (Z4 hoi))];exact fi.1
 done:=by
  intro X hP hw hK hc i pj s σ H E I hf st hg
  subst hP hw hK
  obtain⟨⟨old,he⟩,hit⟩:=st
  obtain⟨xs,hq,hx⟩:=hg
  obtain⟨its,rv,p,hz⟩:=I.list hq
  obtain⟨f0,f1,f2,f3,f4,f5⟩:=hf it 03
  have hl:=rv.length
  exact wpAny_pyNext_enum_end (I.ok.hd hc) he hit p.isList (by simp;omega) λ h' eb=>⟨rfl,I.turned (t':=s.toks) (λ b o hb e=>eb b o hb e) f0 f1 f3 f4 f5⟩
 self:=λ _ _ _ _ _ st h=>let ⟨_,he⟩:=st.1;wpAny_pyIter_enum he h
noncomputable def Qi (n:Nat):List IV->List IV
 | []=>[]
 | x::xs=>.tup [.int n,x]::Qi (n+1) xs
theorem Jex:∀(xs:List IV)(n k:Nat),(Qi n xs)[k]?=(xs[k]?).map λ x=>.tup [.int ((n+k:Nat):Int),x]
 | [],_,_=>by simp[Qi]
 | x::xs,n,0=>by simp[Qi]
 | x::xs,n,k+1=>by
  simp only[Qi,ZaB]
  rw[Jex xs (n+1) k]
  have:n+1+k=n+(k+1):=00
  rw[this]
theorem QW:∀(xs:List IV)(n:Nat),(Qi n xs).length=xs.length
 | [],_=>rfl
 | _::xs,n=>by simp[Qi,QW xs]
def Qw:List IV->IH->Res ItI
 | [.ref i],h=>match h[i]? with
  | some (.lst xs)=>.ok ⟨Qi 0 xs,λ h'=>h'[i]?=Za (.lst xs)⟩ h
  | _=>.stuck
 | _,_=>.stuck
theorem J0m {i:Nat}{ι:List Zo}(ha:ι[i]?=Za a):ItOk ce X.K ι H₀ (Ite X.K a) ⟨Qi 0 xs,λ h'=>h'[i]?=Za (.lst xs)⟩:=by
 refine⟨λ k v h H ι' hp R hck hx=>?_,λ k h H ι' hp R hck hx=>?_⟩
 ·obtain⟨vs,e1,r1⟩:=R.get hck (hp.at ha)
  have hx':(Qi 0 xs)[k]?=Za v:=hx
  rw[Jex] at hx'
  obtain⟨x,hxk,rfl⟩:=ZH.mp hx'
  obtain⟨u,hu,qu⟩:=r1.get hxk
  refine⟨⟨vs,u,SqL.of e1,hu⟩,λ y H' hy=>?_⟩
  obtain⟨p,x',hp0,rfl,rfl,hy⟩:=hy
  have:=hy vs (SqL.of e1)
  rw[hu] at this
  cases this
  obtain⟨R',n'⟩:=R.grow (o:=.tup [.int (k:Int),u]) hp0
  refine⟨R',n',p,_,rfl,SqT.of JE,⟨_,_,rfl,?_,_,_,rfl,RV.mono n' _ _ qu,rfl⟩⟩
  show V.int (k:Int)=V.int ((0+k:Nat):Int)
  simp
 ·obtain⟨vs,e1,r1⟩:=R.get hck (hp.at ha)
  exact⟨vs,SqL.of e1,by rw[r1.length,<-QW xs 0];exact hx⟩
theorem J0d {es:List Expr}{kt:Nat}{pt:Pos}{a:Expr}{ma:A1}{p pos:Pos}(hg:Gl X "enumerate")(hm:X.mg "enumerate"=Zc)(ha:PAi ce X [a] ma)(hs:ZF [a] X.env=[(Zk,ZaU a X.env)]:=by rfl):PIi ce X (.Tuple es kt pt) (.Call (.Name "enumerate" p) [a] [] pos) (iRg Qw ma):=by
 intro pj s σ H ι σi h Q E N K
 refine Call_ (Qz N.inv hg hm boot_enumerate (ZaA ?_ hs rfl))
 refine ha pos pj s σ H ι σi h _ E N ?_
 unfold iRg at K
 cases e0:ma σi h with
 | exc n h'=>rw[e0] at K;exact K
 | stuck=>rw[e0] at K;exact K
 | ok vs h' =>
  rw[e0] at K
  intro us s1 H1 ι1 N1 n1 r1
  obtain⟨xs,rv,qs⟩:=r1
  match vs,K with
  | [.ref i],K =>
   obtain⟨w,e1,q⟩:=qs.one_of
   subst e1
   obtain⟨b,e3,hb⟩:=q
   subst e3
   obtain⟨u,rfl,ru⟩:=Vf rv
   cases ru
   cases hi:h'[i]? with
   | none=>simp only[Res.bind,Qw,hi] at K
   | some ob =>
    cases ob with
    | lst ys =>
     simp only[Res.bind,Qw,hi] at K
     obtain⟨ws,eH,rH⟩:=N1.at hi hb
     obtain⟨z,its,n,r,hl,eo⟩:=N1.inv.lstM eH
     refine call_enumerate_1 eo λ h2 he hit hsz kp=>?_
     refine wpAny_pyIter_enum he (K _ _ H1 ι1 ⟨N1.inv.kept (t':=s1.toks) kp,N1.rel,N1.st⟩ n1 ?_)
     refine⟨s1.heap.objs.size+1,[s1.heap.objs.size+1,s1.heap.objs.size],_,Ite X.K b,rfl,Jsr b s1.heap.objs.size (s1.heap.objs.size+1) (ZaP (Za0 _)),⟨⟨_,he⟩,hit⟩,λ c hc=>?_,J0m hb⟩
     simp only[Z6,Zal,or_false] at hc
     rcases hc with rfl|rfl
     ·exact N1.inv.fpOk (Zbg _) (N1.inv.hok.fresh (Zbg _))
     ·exact N1.inv.fpOk (Zp _) (N1.inv.hok.fresh (Zp _))
    | _=>simp only[Res.bind,Qw,hi] at K
  | [],K=>exact Zf K
  | .non::_,K=>exact Zf K
  | .bl _::_,K=>exact Zf K
  | .str _::_,K=>exact Zf K
  | .tup _::_,K=>exact Zf K
  | .rol _::_,K=>exact Zf K
  | .int _::_,K=>exact Zf K
  | .ref _::_::_,K=>exact Zf K
end
noncomputable def Xw:IV->IH->Res ItI
 | .str x,h=>Jt4 (.str x) h
 | v,h=>itOf v h
def J6 (e:E1):I1:=λ σ h=>(e σ h).bind Xw
theorem Jts {ce:CeT}{X:Cx}{tg l:Expr}{ml:E1}(hl:PEi ce X l ml):PIi ce X tg l (J6 ml):=by
 intro pj s σ H ι σi h Q E N K
 cases e0:ml σi h with
 | ok v h' =>
  cases v with
  | str x=>exact Jo8 (tg:=tg) hl pj s σ H ι σi h Q E N (by unfold iStr;unfold J6 at K;rw[e0] at K ⊢;exact K)
  | _=>exact Jrb (tg:=tg) hl pj s σ H ι σi h Q E N (by unfold iVal;unfold J6 at K;rw[e0] at K ⊢;exact K)
 | exc n h'=>exact Jrb (tg:=tg) hl pj s σ H ι σi h Q E N (by unfold iVal;unfold J6 at K;rw[e0] at K ⊢;exact K)
 | stuck=>exact Jrb (tg:=tg) hl pj s σ H ι σi h Q E N (by unfold iVal;unfold J6 at K;rw[e0] at K ⊢;exact K)
section
variable {ce:CeT}{X:Cx}
theorem x_sl:SlI ce X slI:=by
 intro pj s σ H ι σi h x v vl vu lo hi sl Q E N rx hs pl pu K
 obtain⟨xv,rx,qx⟩:=rx
 cases x with
 | ref i =>
  obtain⟨a,e1,ha⟩:=qx
  subst e1
  dsimp only[slI] at K
  cases hi':h[i]? with
  | none=>rw[hi'] at K;exact Zf K
  | some ob =>
   rw[hi'] at K
   cases ob with
   | lst xs =>
    obtain⟨vs,e1,r1⟩:=N.at hi' ha
    exact Jws (Jsi (X:=X.wish E)) N.inv rx hs pl pu ⟨a,vs,rfl,SqL.of e1,λ p hp=>finA N K p hp ⟨_,JE,RVs.new hp (r1.cut lo hi)⟩⟩
   | _=>exact Zf K
 | rol xs =>
  obtain⟨a,vs,e1,sa,ra⟩:=qx
  subst e1
  exact Jws (Jsi (X:=X.wish E)) N.inv rx hs pl pu ⟨a,vs,rfl,sa.sq,λ p hp=>finA N K p hp ⟨_,JE,RVs.new hp (ra.cut lo hi)⟩⟩
 | _=>exact Zf K
noncomputable def Q9:IV->IH->Res IV
 | .ref i,h=>match h[i]? with
  | some (.lst xs)=>.ok (.ref h.length) (h++[.lst xs])
  | _=>.stuck
 | .rol xs,h=>.ok (.ref h.length) (h++[.lst xs])
 | .tup xs,h=>.ok (.ref h.length) (h++[.lst xs])
 | _,_=>.stuck
theorem Jzj:QH ce X (.type "list") (on1 Q9):=VU λ pj s σ H ι σi h x xv u Q E N ru qx K=>by
 cases x with
 | ref i =>
  obtain⟨a,e1,ha⟩:=qx
  subst e1
  dsimp only[Q9] at K
  cases hi:h[i]? with
  | none=>rw[hi] at K;exact Zf K
  | some ob =>
   rw[hi] at K
   cases ob with
   | lst xs =>
    obtain⟨vs,e1,r1⟩:=N.at hi ha
    exact Ve (Jcx (X:=X.wish E)) N.inv (.cons ru .nil) ⟨a,vs,rfl,.inl (SqL.of e1),λ p hp=>finA N K p hp ⟨_,JE,RVs.new hp r1⟩⟩
   | _=>exact Zf K
 | rol xs =>
  obtain⟨a,vs,e1,sa,ra⟩:=qx
  subst e1
  exact Ve (Jcx (X:=X.wish E)) N.inv (.cons ru .nil) ⟨a,vs,rfl,.inl sa.sq,λ p hp=>finA N K p hp ⟨_,JE,RVs.new hp ra⟩⟩
 | tup xs =>
  obtain⟨a,vs,e1,sa,ra⟩:=qx
  subst e1
  exact Ve (Jcx (X:=X.wish E)) N.inv (.cons ru .nil) ⟨a,vs,rfl,.inr sa,λ p hp=>finA N K p hp ⟨_,JE,RVs.new hp ra⟩⟩
 | _=>exact Zf K
noncomputable def Xg:IV->IH->Res IV
 | .ref i,h=>match h[i]? with
  | some (.lst xs)=>.ok (.tup xs) h
  | _=>.stuck
 | .tup xs,h=>.ok (.tup xs) h
 | _,_=>.stuck
theorem Jw7:QH ce X (.type "tuple") (on1 Xg):=VU λ pj s σ H ι σi h x xv u Q E N ru qx K=>by
 cases x with
 | ref i =>
  obtain⟨a,e1,ha⟩:=qx
  subst e1
  dsimp only[Xg] at K
  cases hi:h[i]? with
  | none=>rw[hi] at K;exact Zf K
  | some ob =>
   rw[hi] at K
   cases ob with
   | lst xs =>
    obtain⟨vs,e1,r1⟩:=N.at hi ha
    exact Ve (Jek (X:=X.wish E)) N.inv (.cons ru .nil) ⟨a,vs,rfl,.inl ⟨SqL.of e1,λ p hp=>finT N K p hp r1⟩⟩
   | _=>exact Zf K
 | tup xs =>
  have qx':=qx
  obtain⟨a,vs,e1,sa,ra⟩:=qx
  subst e1
  exact Ve (Jek (X:=X.wish E)) N.inv (.cons ru .nil) ⟨a,vs,rfl,.inr ⟨sa,fin0 N K qx'⟩⟩
 | _=>exact Zf K
def VT:List IV->Option (List Bool)
 | []=>Za []
 | .bl b::r=>(VT r).map (b:: ·)
 | _::_=>Zc
noncomputable def allI:IV->IH->Res IV
 | .ref i,h=>match h[i]? with
  | some (.lst xs)=>(match VT xs with
   | some bs=>.ok (.bl (bs.all id)) h
   | none=>.stuck)
  | _=>.stuck
 | _,_=>.stuck
theorem Jna {K:W.Frag}{ι:List Zo}{H:Hp}:∀{xs:List IV}{bs:List Bool}{vs:List V}{us:List Zg},VT xs=Za bs->RVs K ι H xs vs->Vals vs us->us=bs.map ZcB
 | [],bs,vs,us,e,q,r=>by
  cases e
  have e1:vs=[]:=q
  subst e1
  cases r
  rfl
 | x::xs,bs,vs,us,e,q,r=>by
  obtain⟨v,vr,e1,q1,q2⟩:=q
  subst e1
  cases r with
  | cons r1 r2 =>
   cases x with
   | bl b =>
    obtain⟨b2,e2,rfl⟩:=ZH.mp (show(VT xs).map (b:: ·)=Za bs from e)
    cases (show v=.bl b from q1)
    cases r1
    rw[Jna e2 q2 r2]
    rfl
   | _=>cases e
theorem Jp4 (bs:List Bool):((ZT bs.length).all λ i=>bs.getD i Zi)=bs.all id:=by
 induction bs with
 | nil=>rfl
 | cons b r ih =>
  rw[ZD,List.range_succ_eq_map,Zar,List.all_map,Zar]
  have e:((ZT r.length).all ((λ i=>(b::r).getD i Zi)∘Nat.succ))=(ZT r.length).all λ i=>r.getD i Zi:=by
   congr 1
  rw[e,ih]
  rfl
theorem J2l (hh:X.A.handled=Zc):QH ce X (.builtin "all") (on1 allI):=VU λ pj s σ H ι σi h x xv u Q E N ru qx K=>by
 cases x with
 | ref i =>
  obtain⟨a,e1,ha⟩:=qx
  subst e1
  cases ru
  dsimp only[allI] at K
  cases hi:h[i]? with
  | none=>rw[hi] at K;exact Zf K
  | some ob =>
   rw[hi] at K
   cases ob with
   | lst xs =>
    dsimp only at K
    cases hb:VT xs with
    | none=>rw[hb] at K;exact Zf K
    | some bs =>
     rw[hb] at K
     obtain⟨vs,e1,r1⟩:=N.at hi ha
     obtain⟨its,rv,pl,hz⟩:=N.inv.list (SqL.of e1)
     have eu:=Jna hb r1 rv
     subst eu
     refine call_all_walk (ZaM pl.isList ?_)
     have hlt:a<s.heap.objs.size:=by obtain⟨o,_,ho,_⟩:=pl;exact Z4 ho
     have ne:a≠s.heap.objs.size:=Z7 hlt
     refine⟨s.heap.objs.size,_,_,_,_,_,λ i=>bs.getD i Zi,rfl,ZbL (prog:=X.prog) (w:=X.w) (A:=X.A.in1) hh s.heap.objs.size a ne (bs.map ZcB).toArray,⟨⟨_,Z1 _ rfl,rfl,rfl⟩,?_⟩,?_,λ h' tk kk=>?_⟩
     ·obtain⟨o,n,ho,hc,_,hd⟩:=pl
      exact⟨o,Zh _ ho,hc,n,hd⟩
     ·intro i v s' Q' E' hP hq
      simp only[ZdH,Zt] at hP
      obtain⟨b,hb',rfl⟩:=ZH.mp hP
      refine ZaK ?_
      have:bs.getD i Zi=b:=by simp[List.getD,hb']
      rw[<- this]
      exact hq
     ·rw[show(bs.map ZcB).toArray.size=bs.length by simp,Jp4]
      have I1:Inv X pj σ H { s with heap:=s.heap.push { cls:=.type "list_iterator",data:=.fields #[.ref a,.int 0 0] } }:=N.inv.kept (t':=s.toks) λ b o e=>Zh _ e
      have f:=N.inv.fpOk (Zp _) (N.inv.hok.fresh (Zp _))
      exact fin0 N K rfl _ _ (I1.turned (t':=tk) (it:=s.heap.objs.size) (λ b o hb e=>kk b o (by simpa using hb) e) f.1 f.2.1 f.2.2.2.1 f.2.2.2.2.1 f.2.2.2.2.2) rfl
   | _=>exact Zf K
 | _=>exact Zf K
def MtI (ce:CeT)(X:Cx)(T id:String)(g:IV->List IV->IH->Res IV):Prop :=
 ∀(pj:PnT)(s:Zn)(σ:L2.St)(H:Hp)(ι:List Zo)(σi:ISt)(h:IH)(x:IV)(xs:List IV)(v:Zg)(us:List Zg)(Q:QvT)(E:QvT),Now ce X pj ι σi h σ H s->RU X.K ι H x v->RUs X.K ι H xs us ->
  Kont ce X RU pj ι σi σ H (g x xs h) Q E->Zy (Z8 X.prog X.w) X.A (call (.builtin id) (v::us)) Q E s
def tyOk (T:String):IV->IH->Bool
 | .str _,_=>T=="str"
 | .int _,_=>T=="int"
 | .ref i,h=>match h[i]? with
  | some (.lst _)=>T=="list"
  | some (.dct _)=>T=="dict"
  | _=>Zk
 | .rol _,_=>T=="list"
 | _,_=>Zk
def eBm (T:String)(g:IV->List IV->IH->Res IV)(o:E1)(a:A1):E1:=λ σ h=>(o σ h).bind λ x h1=>if tyOk T x h1=Zi then(a σ h1).bind λ xs h2=>g x xs h2 else .stuck
theorem Jwq (N:Now ce X pj ι σi h σ H s)(q:RV X.K ι H x xv)(e:tyOk T x h=Zi):tyV X.K T xv H:=by
 cases x with
 | str y=>cases (show xv=.str y from q);exact beq_iff_eq.mp e
 | int y=>cases (show xv=.int y from q);exact beq_iff_eq.mp e
 | rol y =>
  obtain⟨a,vs,rfl,sa,_⟩:=q
  exact .inl ⟨beq_iff_eq.mp e,vs,sa.sq⟩
 | ref i =>
  obtain⟨a,rfl,ha⟩:=q
  cases hi:h[i]? with
  | none=>simp[tyOk,hi] at e
  | some ob =>
   cases ob with
   | lst xs =>
    simp only[tyOk,hi] at e
    obtain⟨vs,e1,_⟩:=N.at hi ha
    exact .inl ⟨beq_iff_eq.mp e,vs,SqL.of e1⟩
   | dct kvs =>
    simp only[tyOk,hi] at e
    obtain⟨vs,e1,_⟩:=N.at hi ha
    exact .inr (.inr (.inl ⟨beq_iff_eq.mp e,.inl ⟨vs,e1⟩⟩))
   | _=>simp[tyOk,hi] at e
 | _=>simp[tyOk] at e
variable {o a:Expr}{es:List Expr}{mo:E1}{ma:A1}{name:Str}{apos cpos:Pos}{T id:String}{g:IV->List IV->IH->Res IV}
theorem i_bm (pa:PlainAttrs T)(slot:Slot T name id)(hty:typeOf (.builtin id)=pure (.type "method_descriptor"))(hm:MtI ce X T id g)(ho:PEi ce X o mo)(ha:PAi ce X (a::es) ma) 
  (hbase:ZcH o name X.env (ZaU o X.env)=ZaU o X.env:=by rfl)
  (hfew:((Zbo cpos (ZF (a::es) X.env)).all (λ x=>!x.1)&&(Zdt cpos (Zcy [] X.env)).all (λ x=>x.1.isSome)
   && decide ((a::es).length+([]:List ZdV).length+(if ([]:List ZdV).isEmpty then 0 else 1)<30))=Zi:=by rfl)
  (hline:(apos.endLine==cpos.line)=Zi:=by rfl) (hs:ZF (a::es) X.env=(Zk,ZaU a X.env)::ZF es X.env:=by rfl) (hplain:(Zbo cpos (ZF es X.env)).any (·.1)=Zk:=by rfl) :
  PEi ce X (.Call (.Attribute o name apos) (a::es) [] cpos) (eBm T g mo ma):=by
 intro pj s σ H ι σi h Q E N K
 refine wpAny_Call_method_late hbase hfew hline rfl (ho.run N K λ x h1 v s1 H1 ι1 N1 n1 r1 K1=>?_)
 by_cases hty1:tyOk T x h1=Zi
 ·rw[if_pos hty1] at K1
  obtain⟨xv,rx,qx⟩:=r1
  obtain⟨h1',h2'⟩:=Jwr N1.inv rx (Jwq N1 qx hty1)
  refine⟨T,id,pa,slot,hty,h1',h2',?_⟩
  have hA:=(ha cpos).run (Q1:=λ us s2=>Zy (Z8 X.prog X.w) X.A (call (.builtin id) (v::us)) Q E s2) N1 K1 λ xs h2 us s2 H2 ι2 N2 n2 r2 K2=>hm pj s2 σ H2 ι2 σi h2 x xs v us Q E N2 ⟨xv,rx,RV.mono n2 _ _ qx⟩ r2 K2
  rw[hs] at hA ⊢
  exact Zd6 (by show(Zk||(Zbo cpos (ZF es X.env)).any (·.1))=Zk;rw[hplain]<;>rfl) (Calls.evalArgs_plain hA)
 ·rw[if_neg hty1] at K1
  exact Zf K1
theorem J2z (pa:PlainAttrs T)(slot:Slot T name id)(hty:typeOf (.builtin id)=pure (.type "method_descriptor"))(hm:MtI ce X T id g)(ho:PEi ce X o mo) 
  (hbase:ZcH o name X.env (ZaU o X.env)=ZaU o X.env:=by rfl)(hline:(apos.endLine==cpos.line)=Zi:=by rfl):PEi ce X (.Call (.Attribute o name apos) [] [] cpos) (eBm T g mo Jd):=by
 intro pj s σ H ι σi h Q E N K
 refine wpAny_Call_method0_late hbase hline (ho.run N K λ x h1 v s1 H1 ι1 N1 n1 r1 K1=>?_)
 by_cases hty1:tyOk T x h1=Zi
 ·rw[if_pos hty1] at K1
  obtain⟨xv,rx,qx⟩:=r1
  obtain⟨h1',h2'⟩:=Jwr N1.inv rx (Jwq N1 qx hty1)
  exact⟨T,id,pa,slot,hty,h1',h2',Zd6 rfl (PySem.evalArgs_none (hm pj s1 σ H1 ι1 σi h1 x [] v [] Q E N1 ⟨xv,rx,qx⟩ .nil K1))⟩
 ·rw[if_neg hty1] at K1
  exact Zf K1
theorem Jst {pj:PnT}{s:Zn}{σ:L2.St}{H:Hp}{Q:QvT}{E:QvT}{r:V->List V->Hp->VK->Prop}{x:V}{xs:List V}{v:Zg}{us:List Zg}(p:MtM (X.wish E) id r)(I:Inv X pj σ H s)(rx:RelV x v)(rs:Vals xs us)
  (k:r x xs H λ z H'=>∀u s',Inv X pj σ H' s'->RelV z u->Q u s'):Zy (Z8 X.prog X.w) X.A (call (.builtin id) (v::us)) Q E s :=
 Zaf (p pj s σ H x xs v us _ (I.wish E) rx rs k) (λ u s' ⟨_,_,I',r,q⟩=>q u s' I'.unwish r) λ _ _ z=>z
theorem finW {b:Zo}{vs ws:List V}{w:V}(N:Now ce X pj ι σi h σ H s)(K:Kont ce X RU pj ι σi σ H (.ok v (h.set i (.lst ys))) Q E) 
  (hb:ι[i]?=Za b)(eH:H b=Za (.lst vs))(r:RVs X.K ι H ys ws)(q:RV X.K ι H v w):∀u s',Inv X pj σ (upd H b (.lst ws)) s'->RelV w u->Q u s':=λ u s' I ru=>by
 have n:Nxt ι H ι (upd H b (.lst ws)):=⟨⟨[],03⟩,Ext.upd_mut eH (by rw[eH];exact Zam)⟩
 obtain⟨R,_⟩:=N.rel.write (o:=.lst ws) (io:=.lst ys) hb eH (by rw[eH];exact Zam) ⟨_,JE,RVs.mono n _ _ r⟩
 exact K u s' _ ι ⟨I,R,N.st.mono n⟩ n ⟨w,ru,RV.mono n _ _ q⟩
def VS:IV->List IV->IH->Res IV
 | .ref i,[y],h=>match h[i]? with
  | some (.lst xs)=>if xs.length<sizeLine then .ok .non (h.set i (.lst (xs++[y]))) else .stuck
  | _=>.stuck
 | _,_,_=>.stuck
theorem Jua:MtI ce X "list" "list.append" VS:=by
 intro pj s σ H ι σi h x xs v us Q E N rx rs K
 obtain⟨xv,rx,qx⟩:=rx
 obtain⟨vs,rv,qs⟩:=rs
 cases x with
 | ref i =>
  match xs,K with
  | [y],K =>
   obtain⟨a,rfl,ha⟩:=qx
   obtain⟨w,rfl,qw⟩:=qs.one_of
   dsimp only[VS] at K
   cases hi:h[i]? with
   | none=>rw[hi] at K;exact Zf K
   | some ob =>
    rw[hi] at K
    cases ob with
    | lst zs =>
     dsimp only at K
     split at K
     ·rename_i hz
      obtain⟨ws,e1,r1⟩:=N.at hi ha
      exact Jst (Jlc (X:=X.wish E)) N.inv rx rv ⟨a,ws,w,rfl,rfl,e1,by rw[r1.length];exact hz,finW N K ha e1 (r1.append (RVs.one qw)) rfl⟩
     ·exact Zf K
    | _=>exact Zf K
  | [],K=>exact Zf K
  | _::_::_,K=>exact Zf K
 | _=>cases xs<;>exact Zf K
def setI:IV->IV->IV->ISt->IH->SRes
 | .ref i,.int k,v,σ,h=>match h[i]? with
  | some (.lst xs)=>(match ixN xs.length k with
   | some j=>.next σ (h.set i (.lst (xs.set j v)))
   | none=>.stuck)
  | _=>.stuck
 | _,_,_,_,_=>.stuck
def gSb (o i:E1):G1:=λ v σ h=>rS σ (o σ h) λ ov h1=>rS σ (i σ h1) λ iv h2=>setI ov iv v σ h2
theorem J2u {oe ie:Expr}{mo mi:E1}{pos:Pos}(ho:PEi ce X oe mo)(hi:PEi ce X ie mi)
  (ha:∀v,Zdi (.Subscript oe ie pos) X.env v=(do
   let ov<-Zbp [v] (ZaU oe X.env)
   let iv<-Zbp [v,ov] (ZaU ie X.env)
   ZdX pos
   Zbp [v,ov,iv] (setItem ov iv v)
   release [v,ov,iv] []):=by intro _;rfl):PGi ce X (.Subscript oe ie pos) (gSb mo mi):=by
 intro pj s σ H ι σi h v u Q E N r K
 rw[ha]
 refine Zd (ZL (krun ho N K λ ov h1 ou s1 H1 ι1 N1 n1 r1 K1=>?_))
 refine Zd (ZL (krun hi N1 K1 λ iv h2 iu s2 H2 ι2 N2 n2 r2 K2=>?_))
 have r':RU X.K ι2 H2 v u:=(r.mono n1).mono n2
 obtain⟨ox,ro,qo⟩:=r1.mono n2
 obtain⟨ix,ri,qi⟩:=r2
 obtain⟨vx,rvx,qv⟩:=r'
 refine Zd (ZaX (Zd (ZL ?_)))
 cases ov with
 | ref i =>
  cases iv with
  | int k =>
   obtain⟨a,rfl,haa⟩:=qo
   cases (show ix=.int k from qi)
   dsimp only[setI] at K2
   cases hh:h2[i]? with
   | none=>rw[hh] at K2;exact Zf K2
   | some ob =>
    rw[hh] at K2
    cases ob with
    | lst xs =>
     dsimp only at K2
     cases hj:ixN xs.length k with
     | none=>rw[hj] at K2;exact Zf K2
     | some j =>
      rw[hj] at K2
      obtain⟨ws,e1,r1'⟩:=N2.at hh haa
      refine Zaf (Jnz (X:=X.wish E) pj s2 σ H2 (.ref a) (.int k) vx ou iu u (λ H'=>H'=upd H2 a (.lst (ws.set j vx))) (N2.inv.wish E) ro ri rvx ⟨a,ws,k,j,rfl,rfl,e1,by rw[r1'.length];exact hj,rfl⟩) (λ _ s3 hq=>?_) λ _ _ z=>z
      obtain⟨H',I',rfl⟩:=hq
      have n:Nxt ι2 H2 ι2 (upd H2 a (.lst (ws.set j vx))):=⟨⟨[],03⟩,Ext.upd_mut e1 (by rw[e1];exact Zam)⟩
      obtain⟨R3,_⟩:=N2.rel.write (o:=.lst (ws.set j vx)) (io:=.lst (xs.set j v)) haa e1 (by rw[e1];exact Zam) ⟨_,JE,(RVs.mono n _ _ r1').set (RV.mono n _ _ qv) j⟩
      exact wpAny_release (K2 s3 σ _ ι2 ⟨I'.unwish,R3,N2.st.mono n⟩ n)
    | _=>exact Zf K2
  | _=>exact Zf K2
 | _=>cases iv<;>exact Zf K2
end
section
variable {ce:CeT}{X:Cx}
noncomputable def keyI:IV->Option Key
 | .int i=>Za (.inl i)
 | .str x=>Za (.inr x)
 | _=>Zc
theorem Yp {K:W.Frag}{ι:List Zo}{H:Hp}{x:IV}{v:V}{k:Key}(e:keyI x=Za k)(r:RV K ι H x v):v=kV k:=by
 cases x with
 | int i=>cases e;exact r
 | str y=>cases e;exact r
 | _=>cases e
def maxI:IV->IV->IH->Res IV
 | .int i,.int j,h=>.ok (.int (if j>i then j else i)) h
 | _,_,_=>.stuck
def minI:IV->IV->IH->Res IV
 | .int i,.int j,h=>.ok (.int (if j<i then j else i)) h
 | _,_,_=>.stuck
theorem J2n (hc:X.calm=Zi):QH ce X (.builtin "max") (on2 maxI):=by
 intro pj s σ H ι σi h xs us Q E N r K
 obtain⟨vs,rv,q⟩:=r
 match xs,K with
 | [x,y],K =>
  obtain⟨v,w,rfl,qx,qy⟩:=q.two_of
  cases x with
  | int i =>
   cases y with
   | int j =>
    cases (show v=.int i from qx)
    cases (show w=.int j from qy)
    exact Ve (Jqn (X:=X.wish E) hc) N.inv rv ⟨i,j,rfl,fin0 N K rfl⟩
   | _=>exact Zf K
  | _=>cases y<;>exact Zf K
 | [],K=>exact Zf K
 | [_],K=>exact Zf K
 | _::_::_::_,K=>exact Zf K
theorem J2o (hc:X.calm=Zi):QH ce X (.builtin "min") (on2 minI):=by
 intro pj s σ H ι σi h xs us Q E N r K
 obtain⟨vs,rv,q⟩:=r
 match xs,K with
 | [x,y],K =>
  obtain⟨v,w,rfl,qx,qy⟩:=q.two_of
  cases x with
  | int i =>
   cases y with
   | int j =>
    cases (show v=.int i from qx)
    cases (show w=.int j from qy)
    exact Ve (Jqo (X:=X.wish E) hc) N.inv rv ⟨i,j,rfl,fin0 N K rfl⟩
   | _=>exact Zf K
  | _=>cases y<;>exact Zf K
 | [],K=>exact Zf K
 | [_],K=>exact Zf K
 | _::_::_::_,K=>exact Zf K
noncomputable def V6:List IV->Option (List Str)
 | []=>Za []
 | .str x::r=>(V6 r).map (x:: ·)
 | _=>Zc
theorem Jsp {K:W.Frag}{ι:List Zo}{H:Hp}:∀{xs:List IV}{zs:List Str}{vs:List V}{us:List Zg},V6 xs=Za zs->RVs K ι H xs vs->Vals vs us->∃l:List (Str×Tok),us=Zew l/\l.map (·.1)=zs
 | [],zs,vs,us,e,q,r=>by
  cases e
  have e1:vs=[]:=q
  subst e1
  cases r
  exact⟨[],rfl,rfl⟩
 | x::xs,zs,vs,us,e,q,r=>by
  obtain⟨v,vr,e1,q1,q2⟩:=q
  subst e1
  cases r with
  | cons r1 r2 =>
   cases x with
   | str y =>
    obtain⟨z2,e2,rfl⟩:=ZH.mp (show(V6 xs).map (y:: ·)=Za zs from e)
    cases (show v=.str y from q1)
    obtain⟨t,rfl⟩:=r1
    obtain⟨l,rfl,hl⟩:=Jsp e2 q2 r2
    exact⟨(y,t)::l,rfl,by rw[Z5,hl]⟩
   | _=>cases e
end
noncomputable def JP:List IV->Option (List Int)
 | []=>Za []
 | .int i::r=>(JP r).map (i:: ·)
 | _=>Zc
theorem VF {K:W.Frag}{ι:List Zo}{H:Hp}:∀{xs:List IV}{ns:List Int}{vs:List V}{us:List Zg},JP xs=Za ns->RVs K ι H xs vs->Vals vs us->ZbA us ns
 | [],ns,vs,us,e,q,r=>by
  cases e
  have e1:vs=[]:=q
  subst e1
  cases r
  exact .nil
 | x::xs,ns,vs,us,e,q,r=>by
  obtain⟨v,vr,e1,q1,q2⟩:=q
  subst e1
  cases r with
  | cons r1 r2 =>
   cases x with
   | int i =>
    obtain⟨n2,e2,rfl⟩:=ZH.mp (show(JP xs).map (i:: ·)=Za ns from e)
    cases (show v=.int i from q1)
    obtain⟨t,rfl⟩:=r1
    exact .cons i t (VF e2 q2 r2)
   | _=>cases e
theorem Jcd:∀{us:List Zg}{ns:List Int},ZbA us ns->us.length=ns.length
 | _,_,.nil=>rfl
 | _,_,.cons _ _ r=>by simp[Jcd r]
section
variable {ce:CeT}{X:Cx}
noncomputable def sumI:IV->IH->Res IV
 | .ref i,h=>match h[i]? with
  | some (.lst xs)=>(match JP xs with
   | some ns=>.ok (.int ns.sum) h
   | none=>.stuck)
  | _=>.stuck
 | _,_=>.stuck
theorem J2p (hh:X.A.handled=Zc):QH ce X (.builtin "sum") (on1 sumI):=VU λ pj s σ H ι σi h x xv u Q E N ru qx K=>by
 cases x with
 | ref i =>
  obtain⟨a,e1,ha⟩:=qx
  subst e1
  cases ru
  dsimp only[sumI] at K
  cases hi:h[i]? with
  | none=>rw[hi] at K;exact Zf K
  | some ob =>
   rw[hi] at K
   cases ob with
   | lst xs =>
    dsimp only at K
    cases hb:JP xs with
    | none=>rw[hb] at K;exact Zf K
    | some ns =>
     rw[hb] at K
     obtain⟨vs,e1,r1⟩:=N.at hi ha
     obtain⟨its,rv,pl,hz⟩:=N.inv.list (SqL.of e1)
     have are:=VF hb r1 rv
     obtain⟨ys,hy⟩:=are.allInts.items
     have pl':s.heap.IsList a (intItems ys):=hy▸pl.isList
     refine sum_intListG hh pl' λ h2 tk t2 kk=>?_
     have en:ns=ys.toList.map (·.1):=by
      have q1:=are.numsOf
      have q2:=congrArg (λ z:Array Zg=>numsOf z.toList) hy
      simp only at q2
      rw[<- q1]
      exact q2.trans (nums_intItems ys)
     have es:preSum (numAt ys) ys.size=ns.sum:=by
      rw[preSum_eq,en,ZaY 03]
     rw[es]
     exact fin0 N K rfl _ _ (N.inv.kept (t':=tk) kk) ⟨_,rfl⟩
   | _=>exact Zf K
 | _=>exact Zf K
end
def JX (f:Nat->Int):Nat->Int
 | 0=>0
 | 1=>f 0
 | j+2=>if f (j+1)>JX f (j+1) then f (j+1) else JX f (j+1)
theorem Jfh (f:Nat->Int)(hj:0<j):JX f (j+1)=if f j>JX f j then f j else JX f j:=by
 cases j with
 | zero=>omega
 | succ j=>rfl
section
variable {pr:ZB}{wd:Zab}{B:ZK}{R:Zd2->Zn->Prop}{it:Zo}{fps wrs:List Zo}{n:Nat}{P:Nat->Zg->Prop}{St:Nat->Zau->Prop}
abbrev Jwa (v:Zg)(c:Nat):Obj:={ cls:=.type "list",dict:=Zc,data:=.seq #[v,v] c,slots:=#[] }
theorem VI:(toString "max"++toString ".loop":String)="max.loop":=01
theorem Jx7 {kw:List (Str×Zg)}(W:Walks pr wd B.in1 it fps wrs n P St)(f:Nat->Int)(hf:∀i v,P i v->∃t,v=.int (f i) t)(C:Zo)(hC:C∉fps) :
  ∀(r j:Nat)(z:Zn)(v:Zg)(u:Tok)(c:Nat),n-j=r->0<j->j<=n->St j z.heap->v=.int (JX f j) u->z.heap.get? C=Za (Jwa v c) ->
   (∀u h2 tk,(∀a o,a∉wrs->a≠C->z.heap.get? a=Za o->h2.get? a=Za o)->R (.ok (.ret (.int (JX f n) u))) { z with heap:=h2,toks:=tk }) ->
   Zcp (Z8 pr wd) B (.builtin "max.loop" ⟨[.ref it,.none,.ref C],kw⟩) R z:=by
 have hw:C∉wrs:=λ q=>hC (W.sub _ q)
 intro r
 induction r with
 | zero =>
  intro j z v u c hr h0 hj st ev gC fin
  obtain rfl:j=n:=00
  subst ev
  refine Zaj Zba ?_
  rw[ZM ZN _]
  show Zy _ B.in1 (Zb1 (.ref C)>>=_) _ _ z
  refine Zd (ZaE gC rfl ?_)
  show Zy _ B.in1 (tryCatch (ZbC (.ref it)) _>>=_) _ _ z
  refine Zd (ZU (W.done z _ _ st λ h2 tk keep=>?_))
  have gC2:=keep C _ hw gC
  show Zy _ B.in1 (ZcG C (λ _=>#[])>>=_) _ _ _
  refine Zd ?_
  refine Za5 gC2 rfl (Zd (Za8 (Zw ?_)))
  exact fin u _ tk λ a o ha hb e=>(Z2 _ _ (ZR hb)).trans (keep a o ha e)
 | succ r ih =>
  intro j z v u c hr h0 hj st ev gC fin
  have lt:j<n:=00
  subst ev
  refine Zaj Zba ?_
  rw[ZM ZN _]
  show Zy _ B.in1 (Zb1 (.ref C)>>=_) _ _ z
  refine Zd (ZaE gC rfl ?_)
  show Zy _ B.in1 (tryCatch (ZbC (.ref it)) _>>=_) _ _ z
  refine Zd (ZU (W.item j z _ _ lt st λ y h2 tk hP st2 keep=>?_))
  obtain⟨t,rfl⟩:=hf j y hP
  have gC2:=keep C _ hw gC
  have cmp:=CmpOf.ints_gt (prog:=pr) (w:=wd) (A:=B.in1) (P:=λ i v=>∃t,v=.int (if i=0 then f j else JX f j) t) (λ i=>if i=0 then f j else JX f j) (λ _ _ q=>q)
  show Zy _ B.in1 (tryCatch (Zbp [ZbO (f j) t,ZbO (f j) t] (ZbW .Gt (.int (f j) t) (.int (JX f j) u)>>=_)) _>>=_) _ _ _
  refine Zd (ZU (ZL (Zd (cmp 0 1 _ _ _ _ _ ⟨t,03⟩ ⟨u,03⟩ ?_))))
  refine Zd (ZL (ZaK ?_))
  refine Zd (Za8 (Zw ?_))
  have step:=Jfh f h0
  by_cases hb:f j>JX f j
  ·rw[if_pos hb] at step
   simp only[if_true,show ¬(1:Nat)=0 by decide,if_false,decide_eq_true hb]
   refine Zd ?_
   refine Za5 gC2 rfl (Zd (Za8 ?_))
   rw[VI]
   refine Zw ⟨Zas ZN _,ih (j+1) _ (.int (f j) t) t _ 00 00 lt (W.frame _ _ _ st2 λ a ha o e=>?_) (by rw[step]) (Zbz _ gC2 rfl) λ u2 h3 tk3 k3=>?_⟩
   ·exact(Z2 _ _ (λ q:C=a=>hC (by rw[q];exact ha))).trans e
   ·exact fin u2 h3 tk3 λ a o ha hc e=>k3 a o ha hc ((Z2 _ _ (ZR hc)).trans (keep a o ha e))
  ·rw[if_neg hb] at step
   simp only[if_true,show ¬(1:Nat)=0 by decide,if_false,decide_eq_false hb,ZX]
   refine Zd (Za8 ?_)
   rw[VI]
   refine Zw ⟨Zas ZN _,ih (j+1) _ (.int (JX f j) u) u c 00 00 lt st2 (by rw[step]) gC2 λ u2 h3 tk3 k3=>?_⟩
   exact fin u2 h3 tk3 λ a o ha hc e=>k3 a o ha hc (keep a o ha e)
end
theorem Jp7 (a v:Zg):Zd7 "max" ⟨[a],[(Zax "default",v)]⟩:=by unfold Zd7;kernel_rfl
section
variable {pr:ZB}{wd:Zab}{B:ZK}{E:QvT}{z:Zn}{l:Zo}{us:List Zg}{ns:List Int}{d:Option Zg}{Q:QvT}{kw:List (Str×Zg)}
def J2h (ns:List Int)(d:Option Zg)(v:Zg):Prop:=(ns=[]/\d=Za v)∨(ns≠[]/\∃u,v=.int (JX (λ i=>ns.getD i 0) ns.length) u)
theorem Jrz (hk:Zap "max" ["key","default"] 0 ⟨[],kw⟩=pure [Zc,d])(ha:Zd7 "max" ⟨[.ref l],kw⟩)(hn:ns=[]->∃v,d=Za v)(hh:B.handled=Zc)(hl:z.heap.IsList l us.toArray)(hi:ZbA us ns) 
  (hQ:∀v h2 tk,J2h ns d v->(∀b o,z.heap.get? b=Za o->h2.get? b=Za o)->Q v { z with heap:=h2,toks:=tk }) :
  Zy (Z8 pr wd) B (call (.builtin "max") [.ref l] kw) Q E z:=by
 obtain⟨ol,hol,_⟩:=id hl
 have lt:l<z.heap.objs.size:=Z4 hol
 have ll:=Jcd hi
 refine kmk_tree PySem.F.kind_max PySem.F.plain_max PySem.F.entry_max ha ?_
 show Zy _ B.in1 (Zap "max" ["key","default"] 0 ⟨[],kw⟩>>=_) _ _ z
 refine Zd (ZdO hk ?_)
 refine Zd (Zw ?_)
 refine Zd (ZaM hl ?_)
 refine Zd (ZbQ ?_ (Zac _))
 rw[VI]
 have ne:l≠z.heap.objs.size:=Z7 lt
 have W:=ZbL (prog:=pr) (w:=wd) (A:=B.in1) hh z.heap.objs.size l ne us.toArray
 have sz:us.toArray.size=us.length:=Zs ..
 have hS:(z.heap.push { cls:=.type "list_iterator",data:=.fields #[.ref l,.int 0 0] }).objs.size=z.heap.objs.size+1:=ZcZ ..
 have hC:(z.heap.push { cls:=.type "list_iterator",data:=.fields #[.ref l,.int 0 0] }).objs.size∉[z.heap.objs.size,l]:=by
  rw[hS]
  simp only[Z6,Zal,or_false,not_or]
  exact⟨ZaP (Za0 _),ZaP (Zb6 lt)⟩
 have hw:(z.heap.push { cls:=.type "list_iterator",data:=.fields #[.ref l,.int 0 0] }).objs.size∉[z.heap.objs.size]:=by
  rw[hS]
  simp only[Z6,Zal,or_false]
  exact ZaP (Za0 _)
 have old:∀b o,z.heap.get? b=Za o->((z.heap.push { cls:=.type "list_iterator",data:=.fields #[.ref l,.int 0 0] }).push (Zae "list" #[] 0)).get? b=Za o:=λ b o e=>Zh _ (Zh _ e)
 have gI:((z.heap.push { cls:=.type "list_iterator",data:=.fields #[.ref l,.int 0 0] }).push (Zae "list" #[] 0)).get? z.heap.objs.size=Za { cls:=.type "list_iterator",data:=.fields #[.ref l,.int 0 0] }:=Zh _ (Z1 _ rfl)
 have gC:((z.heap.push { cls:=.type "list_iterator",data:=.fields #[.ref l,.int 0 0] }).push (Zae "list" #[] 0)).get? (z.heap.push { cls:=.type "list_iterator",data:=.fields #[.ref l,.int 0 0] }).objs.size=Za (Zae "list" #[] 0):=Z1 _ rfl
 have notin:∀b o,z.heap.get? b=Za o->b∉[z.heap.objs.size]:=λ b o e q=>Z7 (Z4 e) (Zv.mp q)
 have notC:∀b o,z.heap.get? b=Za o->b≠(z.heap.push { cls:=.type "list_iterator",data:=.fields #[.ref l,.int 0 0] }).objs.size:=λ b o e=>by rw[hS];exact Z7 (Zb6 (Z4 e))
 refine Zw ⟨Zas ZN _,Zaj Zba ?_⟩
 rw[ZM ZN _]
 show Zy _ B.in1 (Zb1 (.ref _)>>=_) _ _ _
 refine Zd (ZaE gC rfl ?_)
 show Zy _ B.in1 (tryCatch (ZbC (.ref z.heap.objs.size)) _>>=_) _ _ _
 by_cases h0:us.length=0
 ·refine Zd (ZU (W.done _ _ _ (by rw[sz,h0];exact⟨⟨_,gI,rfl,rfl⟩,(hl.push _).push _⟩) λ h2 tk keep=>?_))
  obtain⟨v,rfl⟩:=hn (ZaL 00)
  show Zy _ B.in1 (rule _>>=_) _ _ _
  refine Zd (Zd8 (Zw ?_))
  refine hQ v h2 tk (.inl ⟨ZaL 00,rfl⟩) λ b o e=>keep b o (notin b o e) (old b o e)
 ·refine Zd (ZU (W.item 0 _ _ _ (by rw[sz];omega) ⟨⟨_,gI,rfl,rfl⟩,(hl.push _).push _⟩ λ y h2 tk hP st2 keep=>?_))
  have gC2:=keep _ _ hw gC
  show Zy _ B.in1 (ZcG (z.heap.push { cls:=.type "list_iterator",data:=.fields #[.ref l,.int 0 0] }).objs.size (λ _=>#[y,y])>>=_) _ _ _
  refine Zd ?_
  refine Za5 gC2 rfl ?_
  rw[VI]
  have hf:∀(i:Nat)(v:Zg),us.toArray[i]?=Za v->∃t,v=.int ((λ i=>ns.getD i 0) i) t:=λ i v q=>ZdP hi i v (by simpa using q)
  obtain⟨t,rfl⟩:=hf 0 y hP
  refine Zw ⟨Zas ZN _,Jx7 W (λ i=>ns.getD i 0) hf _ hC _ 1 _ _ t _ rfl 01 (by rw[sz];omega) (W.frame _ _ _ st2 λ a ha o e=>?_) rfl (Zbz _ gC2 rfl) λ u h3 tk3 k3=>?_⟩
  ·exact(Z2 _ _ (λ q=>hC (by rw[q];exact ha))).trans e
  ·rw[sz,ll]
   refine hQ _ h3 tk3 (.inr ⟨λ q=>h0 (by rw[ll,q];rfl),u,rfl⟩) λ b o e=>k3 b o (notin b o e) (notC b o e) ((Z2 _ _ (ZR (notC b o e))).trans (keep b o (notin b o e) (old b o e)))
end
section
variable {ce:CeT}{X:Cx}
def maxD (ns:List Int)(d:IV):IV:=if ns=[] then d else .int (JX (λ i=>ns.getD i 0) ns.length)
def Ye (aa:A1)(md:E1):E1:=λ σ h=>(aa σ h).bind λ xs h1=>(md σ h1).bind λ d h2=>match xs with
 | [.ref i]=>(match h2[i]? with
  | some (.lst ys)=>(match JP ys with
   | some ns=>.ok (maxD ns d) h2
   | none=>.stuck)
  | _=>.stuck)
 | _=>.stuck
theorem J0g {a de:Expr}{aa:A1}{md:E1}{p pos kp:Pos}(hh:X.A.handled=Zc)(hg:Gl X "max")(hm:X.mg "max"=Zc)(ha:PAi ce X [a] aa)(hd:PEi ce X de md)(hs:ZF [a] X.env=[(Zk,ZaU a X.env)]) :
  PEi ce X (.Call (.Name "max" p) [a] [⟨Za "default",de,kp⟩] pos) (Ye aa md):=λ pj s σ H ι σi h Q E N K=>by
 refine Zah (Qz N.inv hg hm rfl ?_)
 refine ZdQ ?_ (by rw[hs];rfl) (by rw[hs];rfl) rfl rfl
 refine(ha pos).run N K λ xs h1 us s1 H1 ι1 N1 n1 r1 K1=>?_
 refine ZaI (Zd (PX.run hd N1 K1 λ d h2 du s2 H2 ι2 N2 n2 r2 K2=>Zd (ZaX (Zw (Zb9 ?_)))))
 obtain⟨vs,rv,qs⟩:=r1.mono n2
 match xs,K2 with
 | [.ref i],K2 =>
  obtain⟨w,rfl,ad,rfl,hav⟩:=qs.one_of
  obtain⟨u,rfl,ru⟩:=Vf rv
  cases ru
  dsimp only at K2
  cases hi:h2[i]? with
  | none=>rw[hi] at K2;exact Zf K2
  | some ob =>
   rw[hi] at K2
   cases ob with
   | lst ys =>
    dsimp only at K2
    cases hb:JP ys with
    | none=>rw[hb] at K2;exact Zf K2
    | some ns =>
     rw[hb] at K2
     dsimp only at K2
     obtain⟨ws,e1,r3⟩:=N2.at hi hav
     obtain⟨its,rv2,pl,_⟩:=N2.inv.list (SqL.of e1)
     refine Jrz (d:=Za du) rfl (Jp7 _ _) (λ _=>⟨_,rfl⟩) hh pl.isList (VF hb r3 rv2) λ v h3 tk mi kk=>?_
     have N3:Now ce X pj ι2 σi h2 σ H2 { s2 with heap:=h3,toks:=tk }:=⟨N2.inv.kept (t':=tk) kk,N2.rel,N2.st⟩
     rcases mi with⟨e,ev⟩|⟨e,t,rfl⟩
     ·cases ev
      have em:maxD ns d=d:=if_pos e
      rw[em] at K2
      exact K2 _ _ _ _ N3 .refl r2
     ·have em:maxD ns d=.int (JX (λ i=>ns.getD i 0) ns.length):=if_neg e
      rw[em] at K2
      exact K2 _ _ _ _ N3 .refl ⟨.int _,⟨t,rfl⟩,rfl⟩
   | _=>exact Zf K2
 | [],K2=>exact Zf K2
 | [.non],K2=>exact Zf K2
 | [.bl _],K2=>exact Zf K2
 | [.int _],K2=>exact Zf K2
 | [.str _],K2=>exact Zf K2
 | [.tup _],K2=>exact Zf K2
 | [.rol _],K2=>exact Zf K2
 | x::_::_,K2=>cases x<;>exact Zf K2
end
def metB (f:Nat->Str)(i:Nat)(k:Str):Bool:=(ZT i).any λ j=>decide (k=f j)
def cntD (f:Nat->Str):Nat->Nat
 | 0=>0
 | i+1=>if metB f i (f i) then cntD f i else cntD f i+1
theorem Jrv (f:Nat->Str)(i:Nat)(k:Str):metB f (i+1) k=(metB f i k||decide (k=f i)):=by simp[metB,List.range_succ]
theorem Jmc (f:Nat->Str):∀i,cntD f i<=i
 | 0=>Zp _
 | i+1=>by
  have:=Jmc f i
  unfold cntD
  split<;>omega
section
variable {pr:ZB}{wd:Zab}{B:ZK}{R:Zd2->Zn->Prop}{it:Zo}{fps wrs:List Zo}{G:Array Zel->Array Zel->Prop}{n:Nat}{P:Nat->Zg->Prop}{St:Nat->Zn->Prop}
abbrev Vw (pr:ZB)(wd:Zab)(hp:Zau)(a:Zo)(f:Nat->Str)(i:Nat):Prop:=hp.SetOf (ZcI pr wd) a (λ k=>metB f i k) (cntD f i)
theorem Vw.moved {hp h2:Zau}(q:Vw pr wd hp a f i)(m:∀o,hp.get? a=Za o->h2.get? a=Za o):Vw pr wd h2 a f i:=by
 obtain⟨o,es,ep,t,ho,rest⟩:=q
 exact⟨o,es,ep,t,m o ho,rest⟩
theorem Juw (W:WalksS pr wd B.in1 it fps wrs G n P St)(C:Zo)(hC:C∉fps)(f:Nat->Str)(hf:∀i v,P i v->∃t,v=.str (f i) t)(room:n+1<Zcc) :
  ∀(r i:Nat)(z:Zn),n-i=r->i<=n->St i z->Vw pr wd z.heap C f i->(∀z2,Moved (C::wrs) G z z2->Vw pr wd z2.heap C f n->R (.ok (.ret .none)) z2) ->
   Zcp (Z8 pr wd) B (.builtin "set.update.loop" ⟨[.ref C,.ref it],[]⟩) R z:=by
 have nw:C∉wrs:=λ q=>hC (W.sub _ q)
 have more:∀b∈wrs,b∈C::wrs:=λ b q=>Zl _ q
 intro r
 induction r with
 | zero =>
  intro i z hr hi st hS fin
  obtain rfl:i=n:=00
  refine Zaj Zci ?_
  rw[ZM Zbu _]
  show Zy _ B.in1 (ZbC (.ref it)>>=_) _ _ z
  refine Zd (W.done z _ _ st λ z2 mv=>?_)
  show Zy _ B.in1 (ret ZaD) _ _ z2
  exact Zw (fin z2 (mv.mono more) (hS.moved λ o e=>mv.heap C _ nw e))
 | succ r ih =>
  intro i z hr hi st hS fin
  have lt:i<n:=00
  refine Zaj Zci ?_
  rw[ZM Zbu _]
  show Zy _ B.in1 (ZbC (.ref it)>>=_) _ _ z
  refine Zd (W.item i z _ _ lt st λ v z2 hP st2 mv=>?_)
  obtain⟨t,rfl⟩:=hf i v hP
  have hS2:Vw pr wd z2.heap C f i:=hS.moved λ o e=>mv.heap C _ nw e
  have ki:(ZcI pr wd).is (f i) (.str (f i) t)=Zi:=strKind_is _ _ _ _
  show Zy _ B.in1 (Zbp [ZdT (f i) t] (setAdd C (.str (f i) t))>>=_) _ _ z2
  refine Zd (ZL ?_)
  unfold setAdd
  refine ZL ?_
  refine Zd ((ZcI pr wd).pyHash (k:=f i) ki ?_)
  have rm:cntD f i+1<Zcc:=by have:=Jmc f i;omega
  refine wpAny_setAddHashed_of (knd:=ZcI pr wd) (s:={ z2 with toks:=z2.toks+1 }) ki rfl hS2 rm λ h3 sb hS3=>?_
  have hS4:Vw pr wd h3 C f (i+1):=SetOf_congr hS3 (λ k=>(Jrv f i k).symm) (by show _=cntD f (i+1);rfl)
  refine Zw ⟨Zas Zbu _,ih (i+1) _ 00 lt (W.frame _ z2 _ _ st2 (Zbg _) λ b q o e=>?_) hS4 λ z5 m5 hS5=>?_⟩
  ·rw[sb.2 b (λ e2:b=C=>hC (by rw[<- e2];exact q))];exact e
  ·refine fin z5 (Moved.trans W.gtrans ((mv.mono more).then_heap (Zbg _) λ b o q e=>?_) m5) hS5
   rw[sb.2 b (λ e2:b=C=>q (by rw[e2];exact Zx))];exact e
end
section
variable {pr:ZB}{wd:Zab}{B:ZK}{E:QvT}{z:Zn}{l:Zo}{us:List Zg}{zs:List Str}{Q:QvT}
abbrev QY (led:Bool):Obj:={ cls:=.type "set",dict:=Zc,data:=.set #[] 0 (.fresh 0 0 led) }
abbrev QS (zs:List Str):Nat->Str:=λ i=>zs.getD i Str.empty
set_option maxRecDepth 100000 in
theorem Juv {l2:List (Str×Tok)}(hh:B.handled=Zc)(hl:z.heap.IsList l us.toArray)(eu:us=Zew l2)(ez:l2.map (·.1)=zs)(room:zs.length+1<Zcc)
  (fin:∀(h2:Zau)(tk:Nat),Vw pr wd h2 z.heap.objs.size (QS zs) zs.length->(∀b o,z.heap.get? b=Za o->h2.get? b=Za o)->Q (.ref z.heap.objs.size) { z with heap:=h2,toks:=tk }) :
  Zy (Z8 pr wd) B (call (.type "set") [.ref l]) Q E z:=by
 have len:us.toArray.size=zs.length:=by rw[eu,<-ez];simp[Zew]
 have vals:∀(i:Nat)(v:Zg),us.toArray[i]?=Za v->∃t,v=.str (QS zs i) t:=λ i v q=>by
  rw[eu] at q
  simp only[Zew,ZdH,Zt] at q
  obtain⟨p,hp,rfl⟩:=ZH.mp q
  refine⟨p.2,?_⟩
  rw[<- ez]
  simp[QS,Ze,Zt,hp]
 obtain⟨c,tl,hmro⟩:=PySem.F.called_set.mro
 have hmade:=PySem.F.called_set.made
 have hsub:=PySem.F.called_set.sub
 refine Zeh (codeAny_of_tree ?_)
 show Zy _ _ (callAny (.type "set") _) _ _ _
 refine Zw ⟨Code.quiet_builtin _ (by decide +kernel),Zaj PySem.F.entry_type_call ?_⟩
 rw[Around.under_plain (weight_type_call_type "set" [.ref l] []) rfl]
 have no1:=PySem.F.called_set.notType
 have no2:=PySem.F.called_set.canCreate
 have ok1:=PySem.F.typeCall_set_1 (.ref l)
 repeat (any_goals (first|assumption|wp_step))
 refine Zc5 (code_set_new_1 (.ref l) (E:=E) (Q₁:=λ obj z1=>∃led:Bool,obj=.ref z.heap.objs.size/\z1={ z with heap:=z.heap.push (QY led) }) λ led=>⟨led,rfl,rfl⟩) λ res z1 hr=>?_
 cases res with
 | error e=>exact hr
 | ok fl =>
  cases fl with
  | ret obj =>
   obtain⟨led,rfl,rfl⟩:=hr
   have gS:(z.heap.push (QY led)).get? z.heap.objs.size=Za (QY led):=Z1 _ rfl
   have tS:Shared.TypeIs { z with heap:=z.heap.push (QY led) } (.ref z.heap.objs.size) "set":=⟨_,gS,rfl⟩
   have in1:=PySem.F.called_set.init.lookup
   have in2:=PySem.F.called_set.init.bind (.ref z.heap.objs.size)
   repeat (any_goals (first|assumption|wp_step))
   refine Zc5 (codeAny_call_builtin (R:=wants (λ res z2=>res=.none/\∃h2 tk,z2={ z with heap:=h2,toks:=tk }/\Vw pr wd h2 z.heap.objs.size (QS zs) zs.length/\(∀b o,z.heap.get? b=Za o->h2.get? b=Za o)) E)
    PySem.F.called_set.init.plain PySem.F.entry_set_init (check_set_init_1 tS ?_)) λ res2 z2 hr2=>?_
   ·obtain⟨ol,hol,hcl,nl,hdl⟩:=hl
    obtain⟨ocls,odict,odata,oslots⟩:=ol
    simp only at hcl hdl
    subst hcl;subst hdl
    have gl:(z.heap.push (QY led)).get? l=Za { cls:=.type "list",dict:=odict,data:=.seq us.toArray nl,slots:=oslots }:=Zh _ hol
    have sb1:=PySem.F.sub_list_set
    have sb2:=PySem.F.sub_list_frozenset
    have dne:(Zee "list"==Zee "dict")=Zk:=01
    have hl1:(z.heap.push (QY led)).IsList l us.toArray:=⟨_,gl,rfl,nl,rfl⟩
    unfold Zeq.«set.__init__» noKeywords Builtin.Frozenset.updateFrom
    generalize hPI:Zeg=PI
    wp_walk
    subst hPI
    refine ZaM hl1 ?_
    refine Zd (wpAny_runValue ?_)
    have lS:l<z.heap.objs.size:=Z4 hol
    have h3:B.in1.in1.in1.handled=Zc:=by simp[hh]
    have neI:l≠(z.heap.push (QY led)).objs.size:=by rw[Zc1];exact Z7 (Zb6 lS)
    have nC:z.heap.objs.size∉[(z.heap.push (QY led)).objs.size,l]:=by
     rw[Zc1]
     simp only[Z6,Zal,or_false,not_or]
     exact⟨Z7 (Za0 _),ZaP lS⟩
    refine Juw ((ZbL h3 _ l neI us.toArray).toS) z.heap.objs.size nC (QS zs) vals (by rw[len];exact room) (us.toArray.size-0) 0 _ 00 (Zac _) ⟨⟨_,Z1 _ rfl,rfl,rfl⟩,(hl1.push _)⟩ ?start ?stop
    case start =>
     have g0:((z.heap.push (QY led)).push { cls:=.type "list_iterator",data:=.fields #[.ref l,.int 0 0] }).get? z.heap.objs.size=Za (QY led):=Zh _ gS
     exact SetOf_congr ((setObjOf_fresh (knd:=ZcI pr wd) led).setOf g0 (by unfold Zcc;omega)) (λ _=>rfl) rfl
    case stop =>
     intro z5 mv hS5
     obtain⟨h5,g5,d5,tk5,os5⟩:=z5
     have eg:g5=z.gens:=mv.gens
     have ed:d5=z.drawn:=mv.drawn
     have eo:os5=z.os:=mv.os
     subst eg;subst ed;subst eo
     show Zy _ _ _ _ _ _
     refine Zw ?_
     show Zy _ _ (ret ZaD) _ _ _
     rw[len] at hS5
     refine Zw ⟨rfl,h5,tk5,rfl,hS5,λ b o e=>?_⟩
     have lb:=Z4 e
     have b1:b≠z.heap.objs.size:=Z7 lb
     have b2:b≠(z.heap.push (QY led)).objs.size:=by rw[Zc1];exact Z7 (Zb6 lb)
     exact mv.heap b o (by simp only[Z6,Zal,or_false,not_or];exact⟨b1,b2⟩) (Zh _ (Zh _ e))
   ·cases res2 with
    | error e=>exact hr2
    | ok fl2 =>
     cases fl2 with
     | ret rv =>
      obtain⟨rfl,h2,tk,rfl,hS2,keep⟩:=hr2
      repeat (any_goals (first|assumption|wp_step))
      exact fin _ _ hS2 keep
     | _=>exact hr2.elim
  | _=>exact hr.elim
end
section
variable {ce:CeT}{X:Cx}
def Yd (aa:A1):E1:=λ σ h=>(aa σ h).bind λ xs h1=>match xs with
 | [.ref i]=>(match h1[i]? with
  | some (.lst ys)=>(match V6 ys with
   | some zs=>if zs.length+1<Zcc then .ok (.int (cntD (QS zs) zs.length)) h1 else .stuck
   | none=>.stuck)
  | _=>.stuck)
 | _=>.stuck
theorem Jtt {a:Expr}{aa:A1}{p pos p2 pos2:Pos}(hh:X.A.handled=Zc)(g1:Gl X "len")(m1:X.mg "len"=Zc)(g2:Gl X "set")(m2:X.mg "set"=Zc)(ha:PAi ce X [a] aa)(hs:ZF [a] X.env=[(Zk,ZaU a X.env)]) :
  PEi ce X (.Call (.Name "len" p) [.Call (.Name "set" p2) [a] [] pos2] [] pos) (Yd aa):=λ pj s σ H ι σi h Q E N K=>by
 refine Zah (Qz N.inv g1 m1 rfl ?_)
 refine ZbE ?_ rfl rfl
 refine Zdc ?_
 refine Zah (Qz N.inv g2 m2 rfl ?_)
 refine ZaA ?_ hs rfl
 refine(ha pos2).run N K λ xs h1 us s1 H1 ι1 N1 n1 r1 K1=>?_
 obtain⟨vs,rv,qs⟩:=r1
 match xs,K1 with
 | [.ref i],K1 =>
  obtain⟨w,rfl,ad,rfl,hav⟩:=qs.one_of
  obtain⟨u,rfl,ru⟩:=Vf rv
  cases ru
  dsimp only at K1
  cases hi:h1[i]? with
  | none=>rw[hi] at K1;exact Zf K1
  | some ob =>
   rw[hi] at K1
   cases ob with
   | lst ys =>
    dsimp only at K1
    cases hb:V6 ys with
    | none=>rw[hb] at K1;exact Zf K1
    | some zs =>
     rw[hb] at K1
     dsimp only at K1
     split at K1
     ·rename_i room
      obtain⟨ws,e1,r3⟩:=N1.at hi hav
      obtain⟨its,rv2,pl,_⟩:=N1.inv.list (SqL.of e1)
      obtain⟨l2,eu,ez⟩:=Jsp hb r3 rv2
      refine Juv hh pl.isList eu ez room λ h2 tk hS keep=>Zdd ?_
      obtain⟨o,es,ep,t,ho,hex,hd,hel,hmem,hbb,hf,hn⟩:=hS
      have fit:(es.size:Int)<2^63:=by
       have:=Jmc (QS zs) zs.length
       have sb:Zcc<=2^40:=by unfold Zcc;decide
       omega
      refine call_len_set ho hex hd hf fit ?_
      rw[hn]
      exact K1 _ _ _ _ ⟨(N1.inv.kept (t':=_) keep),N1.rel,N1.st⟩ .refl ⟨.int _,⟨_,rfl⟩,rfl⟩
     ·exact Zf K1
   | _=>exact Zf K1
 | [],K1=>exact Zf K1
 | [.non],K1=>exact Zf K1
 | [.bl _],K1=>exact Zf K1
 | [.int _],K1=>exact Zf K1
 | [.str _],K1=>exact Zf K1
 | [.tup _],K1=>exact Zf K1
 | [.rol _],K1=>exact Zf K1
 | x::_::_,K1=>cases x<;>exact Zf K1
end
section
variable {α β:Type}{h h1:IH}{σ:ISt}
def SRes.sq (r:SRes)(b:S1):SRes:=match r with
 | .next σ' h'=>b σ' h'
 | r=>r
theorem Yh (v:IV)(σ:ISt):Ja 0 (Za v::σ) h=.ok v h:=rfl
theorem Jtk (n:Nat)(x:Option IV)(σ:ISt):Ja (n+1) (x::σ) h=Ja n σ h:=rfl
end
def MulS (x:Str)(n:Int):Bool:=decide (x.length<=1000/\ -1000<=n/\n<=1000)
theorem MulS.ok (h:MulS x n=Zi):MulOk x n:=by
 simp only[MulS,decide_eq_true_eq] at h
 obtain⟨h1,h2,h3⟩:=h
 refine⟨?_,λ hn _=>?_,λ hn _=>?_⟩
 ·simp only[ZcK,decide_eq_false_iff_not]
  omega
 ·have e:(1000:Int)<=(2^63-1)/n:=by
   rw[Zd9 00]
   have:(1000:Int)*n<=1000*1000:=ZaN h3 01
   omega
  omega
 ·have:x.length*n.toNat<=1000*1000:=Nat.mul_le_mul h1 00
  have hb:1000000<sizeLine:=01
  unfold Builtin.Str.tooLong
  simp only[decide_eq_false_iff_not]
  omega
theorem Jye:OpR X (ZaV .Mult) (λ x y H Q=>∃i j,x=.str i/\y=.int j/\MulS i j=Zi/\Q (.str (Txt.mul i j)) H):=by
 intro pj s σ H x y v u Q I rx ry h
 obtain⟨i,j,rfl,rfl,hz,q⟩:=h
 obtain⟨t,rfl⟩:=rx
 obtain⟨t',rfl⟩:=ry
 exact SB.mul (MulS.ok hz) λ t' tk=>⟨.str (Txt.mul i j),H,I.tok _,⟨_,rfl⟩,q⟩
def JQ (x y:IV)(h:IH):Res IV:=match x with
 | .str i=>(match y with
  | .int j=>if MulS i j then .ok (.str (Txt.mul i j)) h else .stuck
  | _=>.stuck)
 | x=>X5 x y h
section
variable {ce:CeT}{X:Cx}
theorem J07:OpI ce X (ZaV .Mult) JQ:=by
 intro pj s σ H ι σi h x y v u Q E N rx ry K
 cases x with
 | str i =>
  obtain⟨xv,rx,qx⟩:=rx
  obtain⟨yv,ry,qy⟩:=ry
  cases y with
  | int j =>
   have e1:xv=.str i:=qx
   have e2:yv=.int j:=qy
   subst e1 e2
   dsimp only[JQ] at K
   split at K
   ·rename_i hz
    exact Qf (Jye (X:=X.wish E)) N.inv rx ry ⟨i,j,rfl,rfl,hz,fin0 N K rfl⟩
   ·exact Zf K
  | _=>exact Zf K
 | _=>exact J3j pj s σ H ι σi h _ y v u Q E N rx ry K
end
noncomputable def valI (kvs:List (Key×IV))(k:Key):Option IV:=(kvs.find? λ kv=>decide (kv.1=k)).map (·.2)
theorem QT {p:Key×IV}(e:p.1=k):valI (p::r) k=Za p.2:=by simp[valI,Zbs,e]
theorem QB {p:Key×IV}(e:¬p.1=k):valI (p::r) k=valI r k:=by simp[valI,Zbs,e]
theorem RPs.get {K:W.Frag}{ι:List Zo}{H:Hp}(k:Key):∀{xs:List (Key×IV)}{vs:List (Key×V)},RPs K ι H xs vs->(valI xs k=Zc/\valV vs k=Zc)∨∃v w,valI xs k=Za v/\valV vs k=Za w/\RV K ι H v w
 | [],_,h=>by
  have e:_=[]:=h
  subst e
  exact .inl ⟨rfl,rfl⟩
 | x::xs,_,h=>by
  obtain⟨v,r,rfl,q,t⟩:=h
  by_cases e:x.1=k
  ·exact .inr ⟨x.2,v,QT e,Jgh e,q⟩
  ·rw[QB e,Jgg e]
   exact RPs.get k t
theorem RPs.snoc {K:W.Frag}{ι:List Zo}{H:Hp}{k:Key}{v:IV}{w:V}(q:RV K ι H v w):∀{xs:List (Key×IV)}{vs:List (Key×V)},RPs K ι H xs vs->RPs K ι H (xs++[(k,v)]) (vs++[(k,w)])
 | [],_,h=>by
  have e:_=[]:=h
  subst e
  exact⟨w,[],rfl,q,rfl⟩
 | x::xs,_,h=>by
  obtain⟨v',r,rfl,q',t⟩:=h
  exact⟨v',r++[(k,w)],rfl,q',RPs.snoc q t⟩
theorem Jjp {vs:List (Key×V)}{k:Key}{w:V}(e:valV vs k=Zc):putK vs k w=vs++[(k,w)]:=by
 unfold putK
 rw[if_neg]
 rw[Jjz,e]
 exact Zu
section
variable {ce:CeT}{X:Cx}
def VW:E1:=λ _ h=>.ok (.ref h.length) (h++[.dct []])
theorem J0c:PEi ce X (.Dict [] [] pos) VW:=λ pj s σ H ι σi h Q E N K=>by
 have hn:=N.inv.hok.fresh (Zp s.heap.objs.size)
 have I1:=N.inv.laid (a:=s.heap.objs.size) (o:=.dK []) (h':=s.heap.push { cls:=.type "dict",data:=.dict #[] }) (t':=s.toks) (λ _ _ q=>Zh _ q) (Zp _) (Jti s.heap N.inv.big)
 obtain⟨R1,n1⟩:=N.rel.alloc (o:=.dK []) (io:=.dct []) hn ⟨[],JE,rfl⟩
 have N1:Now ce X pj (ι++[s.heap.objs.size]) σi (h++[.dct []]) σ (upd H s.heap.objs.size (.dK [])) _:=⟨I1,R1,N.st.mono n1⟩
 have h0:(ι++[s.heap.objs.size])[h.length]?=Za s.heap.objs.size:=by rw[<- N.rel.len,Z9 (Zp _)];simp
 exact wpAny_Dict_empty (K _ _ _ (ι++[s.heap.objs.size]) N1 n1 ⟨.ref _,rfl,_,rfl,h0⟩)
def VL:IV->List IV->IH->Res IV
 | .ref i,[y,v],h=>match h[i]? with
  | some (.dct kvs)=>(match keyI y with
   | some k=>(match valI kvs k with
    | some w=>.ok w h
    | none=>if kvs.length<sizeLine then .ok v (h.set i (.dct (kvs++[(k,v)]))) else .stuck)
   | none=>.stuck)
  | _=>.stuck
 | _,_,_=>.stuck
theorem Jud:MtI ce X "dict" "dict.setdefault" VL:=by
 intro pj s σ H ι σi h x xs v us Q E N rx rs K
 obtain⟨xv,rx,qx⟩:=rx
 obtain⟨vs,rv,qs⟩:=rs
 cases x with
 | ref i =>
  match xs,K with
  | [y,y2],K =>
   obtain⟨a,rfl,ha⟩:=qx
   obtain⟨w,w2,rfl,qw,qw2⟩:=qs.two_of
   dsimp only[VL] at K
   cases hi:h[i]? with
   | none=>rw[hi] at K;exact Zf K
   | some ob =>
    rw[hi] at K
    cases ob with
    | dct kvs =>
     dsimp only at K
     cases ek:keyI y with
     | none=>rw[ek] at K;exact Zf K
     | some k =>
      rw[ek] at K
      dsimp only at K
      obtain⟨ws,e1,r1⟩:=N.at hi ha
      cases Yp ek qw
      cases rv with
      | @cons _ _ _ _ ru t =>
      cases t with
      | @cons _ u2 _ _ ru2 t =>
      cases t
      cases (show v=.ref a from rx)
      obtain⟨z,hd,ps,rel,dd⟩:=Yc N.inv.hok e1
      have hz:ps.length<=sizeLine:=by rw[<- rel.length];exact z
      refine call_meetsIn ZcR dd.typeIs PySem.F.entry_dict_setdefault (PySem.F.args_dict_setdefault_3 _ _ _) (kt_meets_setdefault (Vo X.prog X.w) a (Yo ru) hd u2) ⟨ps,dd,hz,λ v' hv=>?_,λ hn h' dd' hs=>?_⟩
      ·rcases r1.get k with⟨p,q⟩|⟨v1,w1,p,q,r⟩
       ·have rr:=rel.val k
        rw[q] at rr
        rw[RelO.none_of rr] at hv
        cases hv
       ·rw[p] at K
        have rr:=rel.val k
        rw[q,hv] at rr
        exact fin0 (w:=w1) N K r _ _ (N.inv.tok _) rr
      ·rcases r1.get k with⟨p,q⟩|⟨v1,w1,p,q,r⟩
       ·rw[p] at K
        dsimp only at K
        split at K
        ·rename_i hl
         have he:∃q,h'.get? a=Za q:=let ⟨q,_,_,hq,_⟩:=dd';⟨q,hq⟩
         have hlen:(putK ws k w2).length<=sizeLine:=by rw[Jjp q,Z0,r1.length];exact hl
         have I4:=Jqr (t':=s.toks+1) N.inv (by rw[e1];exact Zam) hs he (Jvz hlen hd (rel.put k ru2) dd')
         have n:Nxt ι H ι (upd H a (.dK (putK ws k w2))):=⟨⟨[],03⟩,Ext.upd_mut e1 (by rw[e1];exact Zam)⟩
         obtain⟨R4,_⟩:=N.rel.write (o:=.dK (putK ws k w2)) (io:=.dct (kvs++[(k,y2)])) ha e1 (by rw[e1];exact Zam) ⟨_,JE,(congrArg (λ P=>RPs X.K ι (upd H a (.dK (putK ws k w2))) (kvs++[(k,y2)]) P) (Jjp q)).mpr (RPs.mono n _ _ (r1.snoc qw2))⟩
         exact K _ _ _ ι ⟨I4,R4,N.st.mono n⟩ n ⟨w2,ru2,RV.mono n _ _ qw2⟩
        ·exact Zf K
       ·have rr:=rel.val k
        rw[q,hn] at rr
        exact Zf rr
    | _=>exact Zf K
  | [],K=>exact Zf K
  | [_],K=>exact Zf K
  | _::_::_::_,K=>exact Zf K
 | _=>cases xs<;>exact Zf K
end
noncomputable def putD (kvs:List (Key×IV))(k:Key)(v:IV):List (Key×IV) :=
 if (kvs.any λ kv=>decide (kv.1=k))=Zi then kvs.map (λ kv=>if kv.1=k then(kv.1,v) else kv) else kvs++[(k,v)]
theorem RPs.any {K:W.Frag}{ι:List Zo}{H:Hp}(k:Key):∀{xs:List (Key×IV)}{vs:List (Key×V)},RPs K ι H xs vs->(xs.any λ kv=>decide (kv.1=k))=vs.any λ kv=>decide (kv.1=k)
 | [],_,h=>by
  have e:_=[]:=h
  subst e
  rfl
 | x::xs,_,h=>by
  obtain⟨v,r,rfl,q,t⟩:=h
  rw[Zcl,Zcl,RPs.any k t]
theorem RPs.upd {K:W.Frag}{ι:List Zo}{H:Hp}{k:Key}{v:IV}{w:V}(q:RV K ι H v w):∀{xs:List (Key×IV)}{vs:List (Key×V)},RPs K ι H xs vs->RPs K ι H (xs.map λ kv=>if kv.1=k then(kv.1,v) else kv) (vs.map λ kv=>if kv.1=k then(kv.1,w) else kv)
 | [],_,h=>by
  have e:_=[]:=h
  subst e
  exact rfl
 | x::xs,_,h=>by
  obtain⟨v',r,rfl,q',t⟩:=h
  rw[Z5,Z5]
  by_cases e:x.1=k
  ·rw[if_pos e,if_pos e]
   exact⟨w,_,rfl,q,RPs.upd q t⟩
  ·rw[if_neg e,if_neg e]
   exact⟨v',_,rfl,q',RPs.upd q t⟩
theorem RPs.putKK {K:W.Frag}{ι:List Zo}{H:Hp}{k:Key}{v:IV}{w:V}{xs:List (Key×IV)}{vs:List (Key×V)}(q:RV K ι H v w)(r:RPs K ι H xs vs):RPs K ι H (putD xs k v) (putK vs k w):=by
 unfold putD putK
 rw[r.any k]
 split
 ·exact r.upd q
 ·exact r.snoc q
section
variable {ce:CeT}{X:Cx}
def QR (x y:IV)(h:IH):Res IV:=match x with
 | .ref i=>(match h[i]? with
  | some (.dct kvs)=>(match keyI y with
   | some k=>(match valI kvs k with
    | some v=>.ok v h
    | none=>.stuck)
   | none=>.stuck)
  | _=>.stuck)
 | _=>.stuck
theorem J4e:IxI ce X QR:=by
 intro value slice pj s σ H ι σi h x y v u Q E N rx ry K hs
 obtain⟨xv,rx,qx⟩:=rx
 obtain⟨yv,ry,qy⟩:=ry
 cases x with
 | ref i =>
  obtain⟨a,e1,ha⟩:=qx
  subst e1
  dsimp only[QR] at K
  cases hi:h[i]? with
  | none=>rw[hi] at K;exact Zf K
  | some ob =>
   rw[hi] at K
   cases ob with
   | dct kvs =>
    dsimp only at K
    cases ek:keyI y with
    | none=>rw[ek] at K;exact Zf K
    | some k =>
     rw[ek] at K
     dsimp only at K
     obtain⟨ws,e1,r1⟩:=N.at hi ha
     cases Yp ek qy
     cases (show v=.ref a from rx)
     obtain⟨z,hd,ps,rel,dd⟩:=Yc N.inv.hok e1
     rcases r1.get k with⟨p,q⟩|⟨v1,w1,p,q,r⟩
     ·rw[p] at K;exact Zf K
     ·rw[p] at K
      have rr:=rel.val k
      rw[q] at rr
      obtain⟨w',hw,rw'⟩:=RelO.some_of rr
      exact Zc4 (x:=w') dd.typeIs PySem.F.slot_dict_getitem.lookup (wpAny_getItem_of (Q:=λ r s'=>r=w'/\Q r s') (Yo ry) dd.mapOf hw ⟨rfl,fin0 N K r _ _ (N.inv.tok _) rw'⟩) hs
   | _=>exact Zf K
 | _=>exact Zf K
noncomputable def cInD (x c:IV)(h:IH):Res IV:=match c with
 | .ref i=>(match h[i]? with
  | some (.dct kvs)=>(match keyI x with
   | some k=>.ok (.bl (valI kvs k).isSome) h
   | none=>.stuck)
  | _=>.stuck)
 | _=>.stuck
theorem J3h:OpI ce X (Zav .In) cInD:=by
 intro pj s σ H ι σi h x y v u Q E N rx ry K
 obtain⟨xv,rx,qx⟩:=rx
 obtain⟨yv,ry,qy⟩:=ry
 cases y with
 | ref i =>
  obtain⟨a,e1,ha⟩:=qy
  subst e1
  dsimp only[cInD] at K
  cases hi:h[i]? with
  | none=>rw[hi] at K;exact Zf K
  | some ob =>
   rw[hi] at K
   cases ob with
   | dct kvs =>
    dsimp only at K
    cases ek:keyI x with
    | none=>rw[ek] at K;exact Zf K
    | some k =>
     rw[ek] at K
     dsimp only at K
     obtain⟨ws,e1,r1⟩:=N.at hi ha
     cases Yp ek qx
     cases (show u=.ref a from ry)
     obtain⟨z,hd,ps,rel,dd⟩:=Yc N.inv.hok e1
     refine wpAny_in_of (Yo rx) hd dd.mapOf ?_
     rw[<- (rel.val k).isSome_eq]
     have es:(valV ws k).isSome=(valI kvs k).isSome:=by
      rcases r1.get k with⟨p,q⟩|⟨v1,w1,p,q,r⟩<;>rw[p,q]<;>rfl
     rw[es]
     exact fin0 N K rfl _ _ (N.inv.tok _) rfl
   | _=>exact Zf K
 | _=>exact Zf K
def Y1:IV->IV->IV->ISt->IH->SRes
 | .ref i,iv,v,σ,h=>match h[i]? with
  | some (.dct kvs)=>(match keyI iv with
   | some k=>if kvs.length<sizeLine then .next σ (h.set i (.dct (putD kvs k v))) else .stuck
   | none=>.stuck)
  | _=>.stuck
 | _,_,_,_,_=>.stuck
def gSbD (o i:E1):G1:=λ v σ h=>rS σ (o σ h) λ ov h1=>rS σ (i σ h1) λ iv h2=>Y1 ov iv v σ h2
theorem Jz3 {oe ie:Expr}{mo mi:E1}{pos:Pos}(ho:PEi ce X oe mo)(hi:PEi ce X ie mi)
  (ha:∀v,Zdi (.Subscript oe ie pos) X.env v=(do
   let ov<-Zbp [v] (ZaU oe X.env)
   let iv<-Zbp [v,ov] (ZaU ie X.env)
   ZdX pos
   Zbp [v,ov,iv] (setItem ov iv v)
   release [v,ov,iv] [])):PGi ce X (.Subscript oe ie pos) (gSbD mo mi):=by
 intro pj s σ H ι σi h v u Q E N r K
 rw[ha]
 refine Zd (ZL (krun ho N K λ ov h1 ou s1 H1 ι1 N1 n1 r1 K1=>?_))
 refine Zd (ZL (krun hi N1 K1 λ iv h2 iu s2 H2 ι2 N2 n2 r2 K2=>?_))
 have r':RU X.K ι2 H2 v u:=(r.mono n1).mono n2
 obtain⟨ox,ro,qo⟩:=r1.mono n2
 obtain⟨ix,ri,qi⟩:=r2
 obtain⟨vx,rvx,qv⟩:=r'
 refine Zd (ZaX (Zd (ZL ?_)))
 cases ov with
 | ref i =>
  obtain⟨a,rfl,haa⟩:=qo
  dsimp only[Y1] at K2
  cases hh:h2[i]? with
  | none=>rw[hh] at K2;exact Zf K2
  | some ob =>
   rw[hh] at K2
   cases ob with
   | dct kvs =>
    dsimp only at K2
    cases ek:keyI iv with
    | none=>rw[ek] at K2;exact Zf K2
    | some k =>
     rw[ek] at K2
     dsimp only at K2
     split at K2
     ·rename_i hl
      obtain⟨ws,e1,r1'⟩:=N2.at hh haa
      cases Yp ek qi
      cases (show ou=.ref a from ro)
      obtain⟨z,hd,ps,rel,dd⟩:=Yc N2.inv.hok e1
      have hz:ps.length<=sizeLine:=by rw[<- rel.length];exact z
      have hlen:(putK ws k vx).length<=sizeLine:=by
       have h1:=Jmk ws k vx
       have h2:=r1'.length
       omega
      refine wpAny_setItem_pairs (hsz:=hz) (Yo ri) dd λ h' dd' hs=>?_
      have he:∃q,h'.get? a=Za q:=let ⟨q,_,_,hq,_⟩:=dd';⟨q,hq⟩
      have I4:=Jqr (t':=s2.toks+1) N2.inv (by rw[e1];exact Zam) hs he (Jvz hlen hd (rel.put k rvx) dd')
      have n:Nxt ι2 H2 ι2 (upd H2 a (.dK (putK ws k vx))):=⟨⟨[],03⟩,Ext.upd_mut e1 (by rw[e1];exact Zam)⟩
      obtain⟨R3,_⟩:=N2.rel.write (o:=.dK (putK ws k vx)) (io:=.dct (putD kvs k v)) haa e1 (by rw[e1];exact Zam) ⟨_,JE,RPs.putKK (RV.mono n _ _ qv) (RPs.mono n _ _ r1')⟩
      exact wpAny_release (K2 _ σ _ ι2 ⟨I4,R3,N2.st.mono n⟩ n)
     ·exact Zf K2
   | _=>exact Zf K2
 | _=>exact Zf K2
end
theorem YB:∀{us:List Zg}{ns:List Int},ZbA us ns->Vals (ns.map V.int) us
 | _,_,.nil=>.nil
 | _,_,.cons _ _ r=>.cons ⟨_,rfl⟩ (YB r)
theorem Jnx {K:W.Frag}{ι:List Zo}{H:Hp}:∀ns:List Int,RVs K ι H (ns.map IV.int) (ns.map V.int)
 | []=>rfl
 | _::ns=>⟨_,_,rfl,rfl,Jnx ns⟩
section
variable {ce:CeT}{X:Cx}
end
def JZ (f:Nat->Int):Nat->Int
 | 0=>0
 | 1=>f 0
 | j+2=>if f (j+1)<JZ f (j+1) then f (j+1) else JZ f (j+1)
theorem Jfb (f:Nat->Int)(hj:0<j):JZ f (j+1)=if f j<JZ f j then f j else JZ f j:=by
 cases j with
 | zero=>omega
 | succ j=>rfl
section
variable {pr:ZB}{wd:Zab}{B:ZK}{R:Zd2->Zn->Prop}{it:Zo}{fps wrs:List Zo}{n:Nat}{P:Nat->Zg->Prop}{St:Nat->Zau->Prop}
theorem Jjo:(toString "min"++toString ".loop":String)="min.loop":=01
theorem Jx6 {kw:List (Str×Zg)}(W:Walks pr wd B.in1 it fps wrs n P St)(f:Nat->Int)(hf:∀i v,P i v->∃t,v=.int (f i) t)(C:Zo)(hC:C∉fps) :
  ∀(r j:Nat)(z:Zn)(v:Zg)(u:Tok)(c:Nat),n-j=r->0<j->j<=n->St j z.heap->v=.int (JZ f j) u->z.heap.get? C=Za (Jwa v c) ->
   (∀u h2 tk,(∀a o,a∉wrs->a≠C->z.heap.get? a=Za o->h2.get? a=Za o)->R (.ok (.ret (.int (JZ f n) u))) { z with heap:=h2,toks:=tk }) ->
   Zcp (Z8 pr wd) B (.builtin "min.loop" ⟨[.ref it,.none,.ref C],kw⟩) R z:=by
 have hw:C∉wrs:=λ q=>hC (W.sub _ q)
 intro r
 induction r with
 | zero =>
  intro j z v u c hr h0 hj st ev gC fin
  obtain rfl:j=n:=00
  subst ev
  refine Zaj Zbb ?_
  rw[ZM ZO _]
  show Zy _ B.in1 (Zb1 (.ref C)>>=_) _ _ z
  refine Zd (ZaE gC rfl ?_)
  show Zy _ B.in1 (tryCatch (ZbC (.ref it)) _>>=_) _ _ z
  refine Zd (ZU (W.done z _ _ st λ h2 tk keep=>?_))
  have gC2:=keep C _ hw gC
  show Zy _ B.in1 (ZcG C (λ _=>#[])>>=_) _ _ _
  refine Zd ?_
  refine Za5 gC2 rfl (Zd (Za8 (Zw ?_)))
  exact fin u _ tk λ a o ha hb e=>(Z2 _ _ (ZR hb)).trans (keep a o ha e)
 | succ r ih =>
  intro j z v u c hr h0 hj st ev gC fin
  have lt:j<n:=00
  subst ev
  refine Zaj Zbb ?_
  rw[ZM ZO _]
  show Zy _ B.in1 (Zb1 (.ref C)>>=_) _ _ z
  refine Zd (ZaE gC rfl ?_)
  show Zy _ B.in1 (tryCatch (ZbC (.ref it)) _>>=_) _ _ z
  refine Zd (ZU (W.item j z _ _ lt st λ y h2 tk hP st2 keep=>?_))
  obtain⟨t,rfl⟩:=hf j y hP
  have gC2:=keep C _ hw gC
  have cmp:=CmpOf.ints_lt (prog:=pr) (w:=wd) (A:=B.in1) (P:=λ i v=>∃t,v=.int (if i=0 then f j else JZ f j) t) (λ i=>if i=0 then f j else JZ f j) (λ _ _ q=>q)
  show Zy _ B.in1 (tryCatch (Zbp [ZbO (f j) t,ZbO (f j) t] (ZbW .Lt (.int (f j) t) (.int (JZ f j) u)>>=_)) _>>=_) _ _ _
  refine Zd (ZU (ZL (Zd (cmp 0 1 _ _ _ _ _ ⟨t,03⟩ ⟨u,03⟩ ?_))))
  refine Zd (ZL (ZaK ?_))
  refine Zd (Za8 (Zw ?_))
  have step:=Jfb f h0
  by_cases hb:f j<JZ f j
  ·rw[if_pos hb] at step
   simp only[if_true,show ¬(1:Nat)=0 by decide,if_false,decide_eq_true hb]
   refine Zd ?_
   refine Za5 gC2 rfl (Zd (Za8 ?_))
   rw[Jjo]
   refine Zw ⟨Zas ZO _,ih (j+1) _ (.int (f j) t) t _ 00 00 lt (W.frame _ _ _ st2 λ a ha o e=>?_) (by rw[step]) (Zbz _ gC2 rfl) λ u2 h3 tk3 k3=>?_⟩
   ·exact(Z2 _ _ (λ q:C=a=>hC (by rw[q];exact ha))).trans e
   ·exact fin u2 h3 tk3 λ a o ha hc e=>k3 a o ha hc ((Z2 _ _ (ZR hc)).trans (keep a o ha e))
  ·rw[if_neg hb] at step
   simp only[if_true,show ¬(1:Nat)=0 by decide,if_false,decide_eq_false hb,ZX]
   refine Zd (Za8 ?_)
   rw[Jjo]
   refine Zw ⟨Zas ZO _,ih (j+1) _ (.int (JZ f j) u) u c 00 00 lt st2 (by rw[step]) gC2 λ u2 h3 tk3 k3=>?_⟩
   exact fin u2 h3 tk3 λ a o ha hc e=>k3 a o ha hc (keep a o ha e)
end
theorem Jp9 (a:Zg):Zd7 "min" ⟨[a],[]⟩:=by unfold Zd7;kernel_rfl
section
variable {pr:ZB}{wd:Zab}{B:ZK}{E:QvT}{z:Zn}{l:Zo}{us:List Zg}{ns:List Int}{Q:QvT}
theorem Jx5 (hh:B.handled=Zc)(hl:z.heap.IsList l us.toArray)(hi:ZbA us ns)(hne:ns≠[]) 
  (hQ:∀v h2 tk,(∃u,v=.int (JZ (λ i=>ns.getD i 0) ns.length) u)->(∀b o,z.heap.get? b=Za o->h2.get? b=Za o)->Q v { z with heap:=h2,toks:=tk }) :
  Zy (Z8 pr wd) B (call (.builtin "min") [.ref l]) Q E z:=by
 obtain⟨ol,hol,_⟩:=id hl
 have lt:l<z.heap.objs.size:=Z4 hol
 have ll:=Jcd hi
 refine kmk_tree PySem.F.kind_min PySem.F.plain_min PySem.F.entry_min (Jp9 _) ?_
 show Zy _ B.in1 (Zap "min" ["key","default"] 0 ⟨[],[]⟩>>=_) _ _ z
 refine Zd (ZdO (show Zap "min" ["key","default"] 0 ⟨[],[]⟩=pure [Zc,Zc] from rfl) ?_)
 refine Zd (Zw ?_)
 refine Zd (ZaM hl ?_)
 refine Zd (ZbQ ?_ (Zac _))
 rw[Jjo]
 have ne:l≠z.heap.objs.size:=Z7 lt
 have W:=ZbL (prog:=pr) (w:=wd) (A:=B.in1) hh z.heap.objs.size l ne us.toArray
 have sz:us.toArray.size=us.length:=Zs ..
 have hS:(z.heap.push { cls:=.type "list_iterator",data:=.fields #[.ref l,.int 0 0] }).objs.size=z.heap.objs.size+1:=ZcZ ..
 have hC:(z.heap.push { cls:=.type "list_iterator",data:=.fields #[.ref l,.int 0 0] }).objs.size∉[z.heap.objs.size,l]:=by
  rw[hS]
  simp only[Z6,Zal,or_false,not_or]
  exact⟨ZaP (Za0 _),ZaP (Zb6 lt)⟩
 have hw:(z.heap.push { cls:=.type "list_iterator",data:=.fields #[.ref l,.int 0 0] }).objs.size∉[z.heap.objs.size]:=by
  rw[hS]
  simp only[Z6,Zal,or_false]
  exact ZaP (Za0 _)
 have old:∀b o,z.heap.get? b=Za o->((z.heap.push { cls:=.type "list_iterator",data:=.fields #[.ref l,.int 0 0] }).push (Zae "list" #[] 0)).get? b=Za o:=λ b o e=>Zh _ (Zh _ e)
 have gI:((z.heap.push { cls:=.type "list_iterator",data:=.fields #[.ref l,.int 0 0] }).push (Zae "list" #[] 0)).get? z.heap.objs.size=Za { cls:=.type "list_iterator",data:=.fields #[.ref l,.int 0 0] }:=Zh _ (Z1 _ rfl)
 have gC:((z.heap.push { cls:=.type "list_iterator",data:=.fields #[.ref l,.int 0 0] }).push (Zae "list" #[] 0)).get? (z.heap.push { cls:=.type "list_iterator",data:=.fields #[.ref l,.int 0 0] }).objs.size=Za (Zae "list" #[] 0):=Z1 _ rfl
 have notin:∀b o,z.heap.get? b=Za o->b∉[z.heap.objs.size]:=λ b o e q=>Z7 (Z4 e) (Zv.mp q)
 have notC:∀b o,z.heap.get? b=Za o->b≠(z.heap.push { cls:=.type "list_iterator",data:=.fields #[.ref l,.int 0 0] }).objs.size:=λ b o e=>by rw[hS];exact Z7 (Zb6 (Z4 e))
 refine Zw ⟨Zas ZO _,Zaj Zbb ?_⟩
 rw[ZM ZO _]
 show Zy _ B.in1 (Zb1 (.ref _)>>=_) _ _ _
 refine Zd (ZaE gC rfl ?_)
 show Zy _ B.in1 (tryCatch (ZbC (.ref z.heap.objs.size)) _>>=_) _ _ _
 have h0:¬us.length=0:=λ q=>hne (ZaL 00)
 ·refine Zd (ZU (W.item 0 _ _ _ (by rw[sz];omega) ⟨⟨_,gI,rfl,rfl⟩,(hl.push _).push _⟩ λ y h2 tk hP st2 keep=>?_))
  have gC2:=keep _ _ hw gC
  show Zy _ B.in1 (ZcG (z.heap.push { cls:=.type "list_iterator",data:=.fields #[.ref l,.int 0 0] }).objs.size (λ _=>#[y,y])>>=_) _ _ _
  refine Zd ?_
  refine Za5 gC2 rfl ?_
  rw[Jjo]
  have hf:∀(i:Nat)(v:Zg),us.toArray[i]?=Za v->∃t,v=.int ((λ i=>ns.getD i 0) i) t:=λ i v q=>ZdP hi i v (by simpa using q)
  obtain⟨t,rfl⟩:=hf 0 y hP
  refine Zw ⟨Zas ZO _,Jx6 W (λ i=>ns.getD i 0) hf _ hC _ 1 _ _ t _ rfl 01 (by rw[sz];omega) (W.frame _ _ _ st2 λ a ha o e=>?_) rfl (Zbz _ gC2 rfl) λ u h3 tk3 k3=>?_⟩
  ·exact(Z2 _ _ (λ q=>hC (by rw[q];exact ha))).trans e
  ·rw[sz,ll]
   refine hQ _ h3 tk3 ⟨u,rfl⟩ λ b o e=>k3 b o (notin b o e) (notC b o e) ((Z2 _ _ (ZR (notC b o e))).trans (keep b o (notin b o e) (old b o e)))
end
section
variable {ce:CeT}{X:Cx}
def Xc:IV->IH->Res IV
 | .ref i,h=>match h[i]? with
  | some (.lst xs)=>(match JP xs with
   | some ns=>if ns=[] then .stuck else .ok (.int (JZ (λ i=>ns.getD i 0) ns.length)) h
   | none=>.stuck)
  | _=>.stuck
 | _,_=>.stuck
theorem Jzl (hh:X.A.handled=Zc):QH ce X (.builtin "min") (on1 Xc):=VU λ pj s σ H ι σi h x xv u Q E N ru qx K=>by
 cases x with
 | ref i =>
  obtain⟨a,e1,ha⟩:=qx
  subst e1
  cases ru
  dsimp only[Xc] at K
  cases hi:h[i]? with
  | none=>rw[hi] at K;exact Zf K
  | some ob =>
   rw[hi] at K
   cases ob with
   | lst xs =>
    dsimp only at K
    cases hb:JP xs with
    | none=>rw[hb] at K;exact Zf K
    | some ns =>
     rw[hb] at K
     dsimp only at K
     split at K
     ·exact Zf K
     ·rename_i hne
      obtain⟨vs,e1,r1⟩:=N.at hi ha
      obtain⟨its,rv,pl,hz⟩:=N.inv.list (SqL.of e1)
      refine Jx5 hh pl.isList (VF hb r1 rv) hne λ v h2 tk ⟨t,ev⟩ kk=>?_
      subst ev
      exact fin0 N K rfl _ _ (N.inv.kept (t':=tk) kk) ⟨t,rfl⟩
   | _=>exact Zf K
 | _=>exact Zf K
end
theorem RVs.erase {K:W.Frag}{ι:List Zo}{H:Hp}:∀{xs:List IV}{vs:List V}(k:Nat),RVs K ι H xs vs->RVs K ι H (xs.eraseIdx k) (vs.eraseIdx k)
 | [],vs,k,h=>by
  cases (show vs=[] from h)
  exact rfl
 | _::_,_,0,h=>by
  obtain⟨v,r,rfl,q,t⟩:=h
  exact t
 | _::_,_,k+1,h=>by
  obtain⟨v,r,rfl,q,t⟩:=h
  exact⟨v,r.eraseIdx k,rfl,q,RVs.erase k t⟩
section
variable {ce:CeT}{X:Cx}
def Xu:IV->List IV->IH->Res IV
 | .ref i,[.ref j],h=>match h[i]? with
  | some (.lst xs)=>(match h[j]? with
   | some (.lst ys)=>if xs.length+ys.length<=sizeLine then .ok .non (h.set i (.lst (xs++ys))) else .stuck
   | _=>.stuck)
  | _=>.stuck
 | _,_,_=>.stuck
theorem Jub:MtI ce X "list" "list.extend" Xu:=by
 intro pj s σ H ι σi h x xs v us Q E N rx rs K
 obtain⟨xv,rx,qx⟩:=rx
 obtain⟨vs,rv,qs⟩:=rs
 cases x with
 | ref i =>
  match xs,K with
  | [y],K =>
   cases y with
   | ref j =>
    obtain⟨a,rfl,ha⟩:=qx
    obtain⟨w,rfl,b,rfl,hb⟩:=qs.one_of
    dsimp only[Xu] at K
    cases hi:h[i]? with
    | none=>rw[hi] at K;exact Zf K
    | some ob =>
     rw[hi] at K
     cases ob with
     | lst zs =>
      dsimp only at K
      cases hj:h[j]? with
      | none=>rw[hj] at K;exact Zf K
      | some oj =>
       rw[hj] at K
       cases oj with
       | lst ys =>
        dsimp only at K
        split at K
        ·rename_i hl
         obtain⟨ws,e1,r1⟩:=N.at hi ha
         obtain⟨ws2,e2,r2⟩:=N.at hj hb
         exact Jst (Jry (X:=X.wish E)) N.inv rx rv ⟨a,b,ws,ws2,rfl,rfl,e1,e2,by rw[r1.length,r2.length];exact hl,finW (ys:=zs++ys) N K ha e1 (r1.append r2) rfl⟩
        ·exact Zf K
       | _=>exact Zf K
     | _=>exact Zf K
   | _=>exact Zf K
  | [],K=>exact Zf K
  | y::_::_,K=>cases y<;>exact Zf K
 | _=>cases xs with
  | nil=>exact Zf K
  | cons y r=>cases y<;>cases r<;>exact Zf K
def isK (k:Int):Zg->Bool
 | .int a _=>a==k
 | _=>Zk
theorem Jrc:∀(us:List Zg)(ns:List Int),us.length=ns.length->(∀i v,us[i]?=Za v->∃t:Tok,v=ZbO (ns.getD i 0) t)->ZbA us ns
 | [],[],_,_=>.nil
 | u::us,n::ns,hl,h=>by
  obtain⟨t,e⟩:=h 0 u rfl
  cases (show u=.int n t from e)
  exact .cons n t (Jrc us ns (by simpa using hl) λ i v q=>h (i+1) v q)
 | [],_::_,hl,_=>by cases hl
 | _::_,[],hl,_=>by cases hl
theorem X9 (j:Int):rngI 0 j=((ZT j.toNat).map λ k=>((k:Nat):Int)).map IV.int:=by
 simp[rngI]
end
section
variable {prog:ZB}{w:Zab}{A:ZK}{E:QvT}{s:Zn}
end
open AutoSeq1 (wpAny_loadPart') in
section
variable {prog:ZB}{w:Zab}{A:ZK}{E:QvT}{s:Zn}
end
section
variable {ce:CeT}{X:Cx}
end
def QQ (a:ZbP):Option Str:=match a with
 | { posonlyargs:=[],args:=[p],vararg:=Zc,kwonlyargs:=[],kw_defaults:=[],kwarg:=Zc,defaults:=[] }=>Za p.arg
 | _=>Zc
abbrev lamQ (q:Str):Str:=q++".<locals>."++"<lambda>"
abbrev lamO (q:Str)(params:ZbP)(body:Expr)(scope:Zbj)(cl:List (Str×Zo))(pm ctv:Zg)(c:Zo):Obj:=W.kla_obj "<lambda>" (lamQ q) params body scope cl pm c ctv
def Q5 (mg:Str->Option Zg)(base:Zau):Prop :=
 ∃bm ob,mg "__builtins__"=Za (.ref bm)/\bm≠Zct/\bm≠Z3/\base.get? bm=Za ob/\ob.cls=.type "module"/\ob.dict=Za Zct/\ob.data=.plain
theorem QI.rec (l:QI H q cv)(hok:HOk P w H h):h.CodeRec cv (lamQ q):=by
 obtain⟨c,oc,vs,t,e1,e2,e3,e4⟩:=l
 exact⟨c,oc,vs,t,e1,(hok c _ e2).1,e3,e4⟩
theorem QI.mono (fz:∀b o u,H b=Za (.frz o u)->H' b=Za (.frz o u))(l:QI H q cv):QI H' q cv:=by
 obtain⟨c,oc,vs,t,e1,e2,r⟩:=l
 exact⟨c,oc,vs,t,e1,fz _ _ _ e2,r⟩
theorem Jih:∀(l:List Zg),TriplesOk l->Zdr pos (l++[Zet a,Zet b,c])=Za cv->Zdr pos l=Za cv∨cv=c
 | [],_,e=>by
  simp only[Zaz,Zet,Zdr] at e
  split at e
  ·cases e;exact .inr rfl
  ·cases e
 | .int x t::.int y u::z::rest,h,e=>by
  simp only[ZS,Zdr] at e ⊢
  split at e
  ·rename_i hh
   rw[if_pos hh]
   exact .inl e
  ·rename_i hh
   rw[if_neg hh]
   exact Jih rest h e
 | [.int _ _],h,_=>(show False from h).elim
 | [.int _ _,.int _ _],h,_=>(show False from h).elim
section
variable {ce:CeT}{X:Cx}
theorem Now.pinO {pj:PnT}{ι:List Zo}{σi:ISt}{h:IH}{σ:L2.St}{H:Hp}{s:Zn}{f:Zo}{fo:Obj}(N:Now ce X pj ι σi h σ H s)(e:s.heap.get? f=Za fo)(F:FpOk X pj H f)(d:∀v,fo.data≠.cell v):Now ce X (pj++[(f,fo)]) ι σi h σ H s:=by
 have I:=N.inv.pinned (fp:=[f]) (λ b hb=>by rw[Zv.mp hb];exact F) (λ b hb=>by rw[Zv.mp hb];exact⟨fo,e,d⟩)
 have ep:QZ [f] s.heap=[(f,fo)]:=by simp[QZ,e]
 rw[ep] at I
 exact⟨I,N.rel,N.st⟩
theorem Jjn {q:Str}{j:Nat}{params:ZbP}{body:Expr}{scope:Zbj}{pos:Pos}{cl:List (Str×Zo)}{pj:PnT}{s:Zn}{σ:L2.St}{H:Hp}{ι:List Zo}{σi:ISt}{h:IH}{Q:QvT}{E:QvT}
  (N:Now ce X pj ι σi h σ H s)(hj:h[j]?=Za (.tab q))(hcd:W.codeIn X.K X.env.code q=Zi)(hq:X.env.qual=q++".<locals>.")(hdef:defaultsOf params X.env=([],[]))(hcl:ZcF scope X.env=pure cl)(B:Q5 X.mg X.base)
  (K:∀f c pm ctv s' H',Now ce X (pj++[(f,lamO q params body scope cl pm ctv c)]) ι σi h σ H' s'->Nxt ι H ι H'->QI H' q (.ref c)->Q (.ref f) s') :
  Zy (Z8 X.prog X.w) X.A (ZaU (.Lambda params body scope pos) X.env) Q E s:=by
 obtain⟨a,ha,hc,ps,hP,ht,hcodes⟩:=N.rel.at_ j _ hj
 obtain⟨c,ec,hhd⟩:=hc _ hcd
 have I:=N.inv
 have C:=W.codeHd_of_K I.kIn hhd
 have gP:s.heap.get? a=Za (W.tabObj ps):=I.hok a _ hP
 have hg:s.heap.Ns Z3 X.mg:=I.ok.mod.glob.keeps I.bk
 obtain⟨bm,ob,b1,b2,b3,b4,b5,b6,b7⟩:=B
 have gb:=I.bs bm ob b4
 have nba:bm≠a:=λ z=>by rw[z,hP] at gb;cases gb.2
 have hb:s.heap.BuiltinsAt X.mg a:=⟨bm,ob,b1,b2,b3,nba,gb.1,b5,b6,b7⟩
 have nga:Z3≠a:=λ z=>by
  obtain⟨o,es,ep,e,d,_⟩:=hg
  rw[z,gP] at e
  cases e
  cases d
 refine W.kla_eval hdef ?_
 rw[hq]
 cases ea:Zdr pos ps.toList with
 | some cv =>
  have LC:=hcodes pos cv ea
  obtain⟨c',oc,vs,t,ecv,_⟩:=id LC
  subst ecv
  refine W.kla_makeFunctionHit hcl I.ok.glob hg ec C gP ht ea hb λ ctv h' tk hk hsz=>?_
  have I1:=I.kept (h':=h'.push (lamO q params body scope cl ((X.mg "__name__").getD .none) ctv c')) (t':=tk) λ b o e=>Zh _ (hk b o e)
  have N1:Now ce X pj ι σi h σ H _:=⟨I1,N.rel,N.st⟩
  exact K h'.objs.size c' _ ctv _ H (N1.pinO (Z1 _ rfl) (I.fpOk hsz (I.hok.fresh hsz)) λ v z=>by
   have z':Data.func _=Zeu v:=z
   cases z') .refl LC
 | none =>
  refine W.kla_makeFunction hcl I.ok.glob hg ec C gP ht ea nga hb λ c' ctv h' tk hx hge hlt hrec htb=>?_
  obtain⟨c2,oc,vs,t,e2,hoc,hd,hv⟩:=hrec
  cases e2
  generalize hps:ps++#[Zet pos.line,Zet pos.col,.ref c']=ps' at htb
  generalize hob:lamO q params body scope cl ((X.mg "__name__").getD .none) ctv c'=fo
  have fc:H c'=Zc:=I.hok.fresh hge
  have nca:c'≠a:=λ z=>by rw[z,hP] at fc;cases fc
  have lts:s.heap.objs.size<=h'.objs.size:=Zak hge (Zcb hlt)
  obtain⟨H',hH⟩:∃H',H'=upd (upd H a (.tbl ps')) c' (.frz oc (.own 0)):=⟨_,rfl⟩
  have Ha:H' a=Za (.tbl ps'):=by rw[hH,Jx (ZR nca),JE]
  have Hc:H' c'=Za (.frz oc (.own 0)):=by rw[hH,JE]
  have Ho:∀b,b≠a->b≠c'->H' b=H b:=λ b h1 h2=>by rw[hH,Jx h2,Jx h1]
  have kp:∀b o,b≠a->s.heap.get? b=Za o->(h'.push fo).get? b=Za o:=λ b o hb e=>Zh _ (hx b o hb e)
  have ga:(h'.push fo).get? a=Za (W.tabObj ps'):=Zh _ htb
  have frz:∀b o u,H b=Za (.frz o u)->H' b=Za (.frz o u):=λ b o u e=>by rw[Ho b (λ z=>by rw[z,hP] at e;cases e) (λ z=>by rw[z,fc] at e;cases e)];exact e
  have tup:∀b xs,H b=Za (.tup xs)->H' b=Za (.tup xs):=λ b xs e=>by rw[Ho b (λ z=>by rw[z,hP] at e;cases e) (λ z=>by rw[z,fc] at e;cases e)];exact e
  have own:∀b x,H b=Za (.own x)->H' b=Za (.own x):=λ b x e=>by rw[Ho b (λ z=>by rw[z,hP] at e;cases e) (λ z=>by rw[z,fc] at e;cases e)];exact e
  have I1:Inv X pj σ H' { s with heap:=h'.push fo,toks:=tk }:=by
   refine I.step (g':=s.gens) (d':=s.drawn) (ch:=[]) (λ b hb=>absurd hb 03) (λ b o _ _ _ e n=>kp b o (λ z=>by rw[z,hP] at n;cases n) e) (λ b o _ _ _ e n=>⟨o.slots,kp b o (λ z=>by rw[z,hP] at n;cases n) e⟩) (λ b o _ e n=>?_) (λ b o _ e=>?_) tup frz (λ b qs e=>?_) (λ m hm=>?_) (λ b u e=>?_) I.bare
   ·rw[Ho b (λ z=>by rw[z,hP] at n;cases n) (Z7 (ZJ (Z4 e) hge))];exact n
   ·by_cases hb:b=a
    ·subst hb;exact⟨_,ga⟩
    ·exact⟨o,kp b o hb e⟩
   ·by_cases hb:b=a
    ·subst hb
     rw[hP] at e
     cases e
     exact⟨_,by rw[Ha,<-hps]⟩
    ·exact⟨#[],by rw[Ho b hb (λ z=>by rw[z,fc] at e;cases e),e];simp⟩
   ·obtain⟨o,es,ep,ho,r⟩:=hm
    exact⟨o,es,ep,kp _ o (λ z=>by have:=I.free;rw[z,hP] at this;cases this) ho,r⟩
   ·by_cases hb:b=a
    ·subst hb
     rw[Ha] at e
     cases e
     exact ga
    ·by_cases hb2:b=c'
     ·subst hb2
      rw[Hc] at e
      cases e
      exact⟨Zh _ hoc,_,Zh _ hoc⟩
     ·rw[Ho b hb hb2] at e
      refine(I.hok b u e).stay (λ d v hd r=>kp d v (λ z=>?_) r) (λ d z=>own d _ z) tup
      subst z
      rcases hd with z|z
      ·exact hb z.symm
      ·rw[hP] at z;cases z
  have n:Nxt ι H ι H':=⟨⟨[],03⟩,⟨tup,frz⟩⟩
  have LC:QI H' q (.ref c'):=⟨c',oc,vs,t,rfl,Hc,hd,hv⟩
  have R:Rel ce X.K ι h H':=by
   refine⟨N.rel.len,N.rel.nd,λ i o e=>?_⟩
   obtain⟨b,eb,ro⟩:=N.rel.at_ i o e
   refine⟨b,eb,?_⟩
   by_cases hb:b=a
   ·subst hb
    have hij:i=j:=N.rel.inj eb ha
    subst hij
    rw[hj] at e
    cases e
    refine⟨hc,ps',Ha,?_,λ pos' cv ea'=>?_⟩
    ·rw[<- hps,Array.toList_append]
     exact TriplesOk_snoc _ _ _ _ ht
    ·rw[<- hps,Array.toList_append] at ea'
     rcases Jih ps.toList ht ea' with z|z
     ·exact(hcodes pos' cv z).mono frz
     ·rw[z];exact LC
   ·refine ro.mono n λ u hu=>?_
    rw[Ho b hb (λ z=>by rw[z,fc] at hu;cases hu)]
    exact hu
  have N1:Now ce X pj ι σi h σ H' _:=⟨I1,R,N.st.mono n⟩
  subst hob
  exact K h'.objs.size c' _ ctv _ H' (N1.pinO (Z1 _ rfl) (I.fpOk lts (by rw[Ho _ (ZaP (ZJ (Z4 gP) lts)) (ZaP hlt)];exact I.hok.fresh lts)) λ v z=>by
   have z':Data.func _=Zeu v:=z
   cases z') n LC
end
abbrev envL (q:Str)(scope:Zbj)(L f:Zo)(cd:Zg)(cl:List (Str×Zo)):Env:=newEnv scope L Z3 cl (lamQ q++".<locals>.") (Za f) cd Zc Zct
def cxL (X:Cx)(A:ZK)(N':List Str)(q:Str)(scope:Zbj)(f:Zo)(cd:Zg)(s:Zn)(H:Hp):Cx :=
 { X with A:=A.deeper (envL q scope s.heap.objs.size f cd (clOf X.env.cells scope.names [])),N:=N',s₀:=s,H₀:=H,env:=envL q scope s.heap.objs.size f cd (clOf X.env.cells scope.names []),outer:=X.stack,stack:=envL q scope s.heap.objs.size f cd (clOf X.env.cells scope.names [])::X.stack,ex:=[],calm:=Zi,fn:=λ _=>Zk,pn:=[],xe:=λ _ _=>False }
structure LamSc (N0:List Str)(sc₀:List (Str×Zbh))(x:Str)(caps:List Str)(js:List Nat)(scope:Zbj):Prop where
 kind:scope.kind=.function
 co:scope.isCoroutine=Zk
 gen:scope.isGenerator=Zk
 nocell:∀y∈scope.names,y.2≠.cell
 par:scope.names.lookup x=Za .local
 free:∀y∈scope.names,y.2=.free->sc₀.lookup y.1=Za .cell
 fr:∀y,scope.names.lookup y=Za .free->(y,.free)∈scope.names
 cap:∀(k j:Nat)(y:Str),js[k]?=Za j->caps[k]?=Za y->N0[j]?=Za y/\scope.names.lookup y=Za .free
 len:js.length=caps.length
 nd:(x::caps).Nodup
theorem Jtd:Zdp (W.kla_fn nm qu { posonlyargs:=[],args:=[p],vararg:=Zc,kwonlyargs:=[],kw_defaults:=[],kwarg:=Zc,defaults:=[] } body scope cl pm cd ctv) ⟨[u],[]⟩=pure [(p.arg,u)]:=by
 have e:(Zb3 p.arg [(p.arg,u)]).isNone=Zk:=03
 unfold Zdp
 simp[Zb1,e]
 rfl
section
variable {ce:CeT}{X:Cx}
theorem Jmj {k:Nat}{A:ZK}{q x:Str}{caps:List Str}{js:List Nat}{params:ZbP}{body:Expr}{scope:Zbj}{pm ctv:Zg}{c f:Zo}{m:E1}{v:IV}{u:Zg}{pj:PnT}{s:Zn}{σ:L2.St}{H:Hp}{ι:List Zo}{σi:ISt}{h:IH}{Q:QvT}{E:QvT} 
  (hA:A.frames=Za X.stack)(hr:Room (k+1) A)(N:Now ce X pj ι σi h σ H s)(hf:s.heap.get? f=Za (lamO q params body scope (clOf X.env.cells scope.names []) pm ctv c))(LC:QI H q (.ref c))(hx:QQ params=Za x)(S:LamSc X.N X.env.scope.names x caps js scope)
  (hb:∀s' H',PEi ce (cxL X A (x::caps) q scope f (.ref c) s' H') body m)(ru:RU X.K ι H v u)(K:Kont ce X RU pj ι σi σ H ((m (Za v::js.map λ j=>(σi[j]?).join) h).nx) Q E) :
  Zy (Z8 X.prog X.w) A (call (.ref f) [u]) Q E s:=by
 have I:=N.inv
 have e0:=I.env0
 have lim:s.heap.NoLimit:=e0.mod.nolimit.keeps λ b o e=>(e0.bs b o e).1
 refine Zeh (W.kla_callFunE hr.depth hf rfl S.co S.gen rfl (LC.rec I.hok) ?_)
 have hbind:Zdp (W.kla_fn "<lambda>" (lamQ q) params body scope (clOf X.env.cells scope.names []) pm (.ref c) ctv) ⟨[u],[]⟩=pure [(x,u)]:=by
  unfold QQ at hx
  split at hx
  ·cases hx
   exact Jtd
  ·cases hx
 rw[hbind]
 refine Zw (wpAny_newFunctionEnv S.nocell (λ y hy=>by rw[Zv.mp hy];exact S.par) (λ h3 hns hsb=>⟨lim.fresh _ hsb,?_⟩) S.kind)
 obtain⟨w,rw',qw⟩:=ru
 have keep:∀b o,s.heap.get? b=Za o->h3.get? b=Za o:=λ b o z=>(hsb.2 b (Z7 (Z4 z))).trans (Zh _ z)
 have cells':∀y d,(clOf X.env.cells scope.names []).lookup y=Za d->X.env.cells.lookup y=Za d:=Ji8 _ _ (λ y d z=>by simp at z)
 have okX:(cxL X A (x::caps) q scope f (.ref c) s H).Ok:=by
  have noA:∀b:Zo,b∉(cxL X A (x::caps) q scope f (.ref c) s H).ex:=λ b z=>absurd (show b∈([]:List Zo) from z) 03
  refine⟨I.ok.mod,S.kind,rfl,rfl,Zp _,λ y y' d a b=>I.ok.inj y y' d (cells' y d a) (cells' y' d b),λ y hy=>?_,λ y d z=>absurd (show Zk=Zi from z) Zu,λ _=>hr.hd,Around.frames_deeper hA,.inr ⟨rfl,rfl⟩,λ b z=>absurd z (noA b),e0.bs,e0.bsz,λ b _ _=>noA b,λ b z=>absurd z (noA b),e0.funs,e0.frf⟩
  have hy':scope.names.lookup y=Za .cell∨scope.names.lookup y=Za .free:=hy
  rcases hy' with z|z
  ·exact absurd rfl (S.nocell _ (Zai z))
  ·have hm:=Zai z
   obtain⟨d,hd⟩:=I.ok.has y (.inl (S.free (y,.free) hm rfl))
   exact Zbk.mp (XZ _ _ y d hm hd)
 have I3:Inv (cxL X A (x::caps) q scope f (.ref c) s H) [] (Za w::js.map λ j=>(σ[j]?).join) H { s with heap:=h3,toks:=s.toks+[(x,u)].length }:=by
  refine⟨okX,rfl,I.bare,Un.kept keep,⟨_,hns,λ i y z a b cc=>?_⟩,λ y d z=>?_,I.hok.fresh (Zp _),λ y d z=>I.freeC y d (cells' y d z),λ p hp=>absurd (show p∈([]:PnT) from hp) 03,I.hok.kept keep,by show _=(x::caps).length;simp[S.len]⟩
  ·cases i with
   | zero =>
    have a':Za x=Za y:=a
    cases a'
    have b':Za (Za w)=Za (Za z):=b
    cases b'
    exact⟨u,rw',.inl ⟨S.par,03⟩⟩
   | succ i =>
    have a':caps[i]?=Za y:=a
    have b':(js.map λ j=>(σ[j]?).join)[i]?=Za (Za z):=b
    rw[Zt] at b'
    cases ej:js[i]? with
    | none=>rw[ej] at b';cases b'
    | some j =>
     rw[ej] at b'
     have b2:(σ[j]?).join=Za z:=ZQ b'
     have hσ:σ[j]?=Za (Za z):=by
      cases es:σ[j]? with
      | none=>rw[es] at b2;cases b2
      | some o=>rw[es] at b2;rw[show o=Za z from b2]
     obtain⟨hx1,hx2⟩:=S.cap i j y ej a'
     have hm:=Zai hx2
     have hk:=S.free (y,.free) hm rfl
     obtain⟨m0,hn,hl⟩:=I.loc
     obtain⟨u',ru',lk⟩:=hl j y z hx1 hσ (.inr (.inl hk))
     rcases lk with⟨e,_⟩|⟨e,d,hd,hcell⟩
     ·have hk':X.env.scope.names.lookup y=Za .cell:=hk
      have e':X.env.scope.names.lookup y=Za .local:=e
      rw[hk'] at e'
      cases e'
     ·obtain⟨d',hd2⟩:=Zbk.mp (XZ (cells:=X.env.cells) scope.names [] y d hm hd)
      have:=cells' y d' hd2
      rw[hd] at this
      cases this
      obtain⟨oc,hoc,hdd⟩:=hcell
      exact⟨u',ru',.inr ⟨.inr hx2,d,hd2,oc,keep _ _ hoc,hdd⟩⟩
  ·obtain⟨z',o,ho,hd⟩:=I.cell y d (cells' y d z)
   exact⟨z',o,keep _ _ ho,hd⟩
 have N3:Now ce (cxL X A (x::caps) q scope f (.ref c) s H) [] ι (Za v::js.map λ j=>(σi[j]?).join) h (Za w::js.map λ j=>(σ[j]?).join) H { s with heap:=h3,toks:=s.toks+[(x,u)].length }:=by
  refine⟨I3,N.rel,03,λ i z a=>?_⟩
  cases i with
  | zero =>
   have a':Za (Za v)=Za (Za z):=a
   cases a'
   exact⟨w,rfl,qw⟩
  | succ i =>
   have a':(js.map λ j=>(σi[j]?).join)[i]?=Za (Za z):=a
   rw[Zt] at a'
   cases ej:js[i]? with
   | none=>rw[ej] at a';cases a'
   | some j =>
    rw[ej] at a'
    have a2:(σi[j]?).join=Za z:=ZQ a'
    have hσ:σi[j]?=Za (Za z):=by
     cases es:σi[j]? with
     | none=>rw[es] at a2;cases a2
     | some o=>rw[es] at a2;rw[show o=Za z from a2]
    obtain⟨z',ez,qz⟩:=N.st.2 j z hσ
    refine⟨z',?_,qz⟩
    show(js.map λ j=>(σ[j]?).join)[i]?=Za (Za z')
    rw[Zt,ej]
    show Za ((σ[j]?).join)=_
    rw[ez]
    rfl
 refine W.kla_codeExpr (Zaf (hb s H [] _ _ H ι _ h (λ u' s'=>Q u' s') (λ _ _=>False) N3 ?_) (λ _ _ z=>z) λ _ _ z=>z.elim)
 cases er:m (Za v::js.map λ j=>(σi[j]?).join) h with
 | ok v' h' =>
  rw[er] at K
  intro u' s' H' ι' N' n' ⟨z,rz,qz⟩
  have J:=N'.inv
  obtain⟨_,_,I',rz',e1,e2⟩:=I.after (Q:=λ z2 H2=>z2=z/\H2=H') ⟨z,H',J.os,J.bare,J.base,J.hok,rz,rfl,rfl⟩
  subst e1
  subst e2
  exact K u' s' _ ι' ⟨I',N'.rel,N.st.mono n'⟩ n' ⟨_,rz',qz⟩
 | exc n h'=>rw[er] at K;exact Zf K
 | stuck=>rw[er] at K;exact Zf K
end
def gtZ:IV->IV->Option Bool
 | .int a,.int b=>Za (decide (a>b))
 | _,_=>Zc
def Qe (gt:IV->IV->Option Bool)(mk:IV->IH->Res IV)(i n:Nat):Nat->IV->IV->IH->Res IV
 | 0,b,_,h=>(match h[i]? with
  | some (.lst ys)=>if ys.length=n then .ok b h else .stuck
  | _=>.stuck)
 | r+1,b,kb,h=>(match h[i]? with
  | some (.lst ys)=>if ys.length=n then(match ys[n-(r+1)]? with
    | some y=>(mk y h).nx.bind λ k h'=>(match gt k kb with
     | some Zi=>Qe gt mk i n r y k h'
     | some Zk=>Qe gt mk i n r b kb h'
     | none=>.stuck)
    | none=>.stuck) else .stuck
  | _=>.stuck)
def Xy (gt:IV->IV->Option Bool)(mk:IV->IH->Res IV)(i:Nat)(d:IV)(h:IH):Res IV:=match h[i]? with
 | some (.lst ys)=>(match ys[0]? with
  | some y=>(mk y h).nx.bind λ k h'=>Qe gt mk i ys.length (ys.length-1) y k h'
  | none=>.ok d h)
 | _=>.stuck
theorem FpOk.more {X:Cx}{pj:PnT}{H:Hp}{b:Zo}{p:Zo×Obj}(F:FpOk X pj H b)(ne:p.1≠b):FpOk X (pj++[p]) H b:=by
 refine⟨F.1,F.2.1,F.2.2.1,F.2.2.2.1,F.2.2.2.2.1,λ q hq=>?_⟩
 rcases ZV.mp hq with z|z
 ·exact F.2.2.2.2.2 q (Zaq _ z)
 ·rcases ZV.mp z with z|z
  ·exact F.2.2.2.2.2 q (Zj _ z)
  ·rw[Zv.mp z]
   exact ne
theorem FpOk.at {X:Cx}{pj:PnT}{H H':Hp}{b:Zo}(F:FpOk X pj H b)(n:H' b=Zc):FpOk X pj H' b:=⟨n,F.2⟩
theorem YA {xs:List V}{us:List Zg}{i:Nat}{u:Zg}(r:Vals xs us)(e:us[i]?=Za u):∃x,xs[i]?=Za x/\RelV x u:=by
 have hi:=(Zq.mp e).1
 have hl:=r.length
 have hi2:i<xs.length:=00
 have hx:xs[i]?=Za xs[i]:=Zb hi2
 obtain⟨u',e',q⟩:=r.get hx
 rw[e] at e'
 cases e'
 exact⟨_,hx,q⟩
section
variable {ce:CeT}{X:Cx}
theorem Now.turned {pj:PnT}{ι:List Zo}{σi:ISt}{h:IH}{σ:L2.St}{H:Hp}{s:Zn}{it:Zo}{h':Zau}{t':Nat}(N:Now ce X pj ι σi h σ H s)(F:FpOk X pj H it)(k:∀b o,b≠it->s.heap.get? b=Za o->h'.get? b=Za o) :
  Now ce X pj ι σi h σ H { s with heap:=h',toks:=t' }:=⟨N.inv.turned k F.1 F.2.1 F.2.2.2.1 F.2.2.2.2.1 F.2.2.2.2.2,N.rel,N.st⟩
theorem Now.keptH {pj:PnT}{ι:List Zo}{σi:ISt}{h:IH}{σ:L2.St}{H:Hp}{s:Zn}{h':Zau}{t':Nat}(N:Now ce X pj ι σi h σ H s)(k:∀b o,s.heap.get? b=Za o->h'.get? b=Za o) :
  Now ce X pj ι σi h σ H { s with heap:=h',toks:=t' }:=⟨N.inv.kept k,N.rel,N.st⟩
def CmpK (ce:CeT)(X:Cx)(A:ZK)(op:CmpOp)(gt:IV->IV->Option Bool):Prop :=
 ∀(pj:PnT)(ι:List Zo)(σi:ISt)(h:IH)(σ:L2.St)(H:Hp)(s:Zn)(k kb:IV)(u ub:Zg)(b:Bool)(Q:QvT)(E:QvT),Now ce X pj ι σi h σ H s->RU X.K ι H k u->RU X.K ι H kb ub->gt k kb=Za b ->
  (∀h' t',(∀a o,s.heap.get? a=Za o->h'.get? a=Za o)->Q (.bool b) { s with heap:=h',toks:=t' })->Zy (Z8 X.prog X.w) A (ZbW op u ub) Q E s
theorem Jzo {A:ZK}:CmpK ce X A .Gt gtZ:=λ pj ι σi h σ H s k kb u ub b Q E N r rb e q=>by
 cases k with
 | int a =>
  cases kb with
  | int c =>
   obtain⟨x,rx,ex⟩:=r
   obtain⟨y,ry,ey⟩:=rb
   have ex':x=.int a:=ex
   have ey':y=.int c:=ey
   subst ex'
   subst ey'
   obtain⟨t,rfl⟩:=rx
   obtain⟨t',rfl⟩:=ry
   have e':Za (decide (a>c))=Za b:=e
   cases e'
   have cmp:=CmpOf.ints_gt (prog:=X.prog) (w:=X.w) (A:=A) (P:=λ i v=>∃t,v=.int (if i=0 then a else c) t) (λ i=>if i=0 then a else c) (λ _ _ q=>q)
   have:=cmp 0 1 (.int a t) (.int c t') s Q E ⟨t,03⟩ ⟨t',03⟩
   simp only[if_true,show ¬(1:Nat)=0 by decide,if_false] at this
   exact this (q s.heap s.toks λ _ _ e=>e)
  | _=>cases e
 | _=>cases e
def Xn (ce:CeT)(X:Cx)(A:ZK)(σi:ISt)(σ:L2.St)(pj:PnT)(G:Hp->Prop)(fv:Zg)(mk:IV->IH->Res IV):Prop :=
 ∀(pl:PnT)(s:Zn)(H:Hp)(ι:List Zo)(h:IH)(v:IV)(u:Zg)(Q:QvT),Now ce X (pj++pl) ι σi h σ H s->G H->RU X.K ι H v u->Kont ce X RU (pj++pl) ι σi σ H (mk v h).nx Q (λ _ _=>False) ->
  Zy (Z8 X.prog X.w) A (call fv [u]) Q (λ _ _=>False) s
theorem Yu {α γ:Type}{pj:PnT}{ι:List Zo}{σi:ISt}{σ:L2.St}{H:Hp}{R:REL α Zg}{R':REL γ Zg}{r:Res α}{g:α->IH->Res γ}{Q:QvT}{E:QvT}{pl:PnT}{Q1:QvT}
  (K:Kont ce X R' pj ι σi σ H (r.nx.bind g) Q E)
  (step:∀x h1 u s1 H1 ι1,Now ce X (pj++pl) ι1 σi h1 σ H1 s1->Nxt ι H ι1 H1->R X.K ι1 H1 x u->Kont ce X R' pj ι1 σi σ H1 (g x h1) Q E->Q1 u s1):Kont ce X R (pj++pl) ι σi σ H r.nx Q1 (λ _ _=>False):=by
 cases r with
 | ok v h'=>exact λ u s' H' ι' N' n' q=>step v h' u s' H' ι' N' n' q (Kont.mono (r:=g v h') K n')
 | exc n h'=>exact Zf K
 | stuck=>exact Zf K
section
variable {A:ZK}{R:Zd2->Zn->Prop}{Q:QvT}{E:QvT}{pj:PnT}{σi:ISt}{σ:L2.St}{G:Hp->Prop}{fq:Zo}{mk:IV->IH->Res IV}{gt:IV->IV->Option Bool}{i n:Nat}{l I C:Zo}{kw:List (Str×Zg)}
theorem Juk (hh:A.handled=Zc)(cm:CmpK ce X A.in1 .Gt gt)(ko:Xn ce X A.in1 σi σ pj G (.ref fq) mk)(hG:∀H H',Ext H H'->G H->G H')(hR:∀v s',Q v s'->R (.ok (.ret v)) s')(hIC:I≠C) :
  ∀(r j:Nat)(z:Zn)(H:Hp)(ι:List Zo)(h:IH)(b kb:IV)(vb uk:Zg)(c:Nat),n-j=r->0<j->j<=n->Now ce X pj ι σi h σ H z->G H->ι[i]?=Za l->FpOk X pj H I->FpOk X pj H C->z.heap.IsListIter I l j ->
   z.heap.get? C=Za (Zae "list" #[vb,uk] c)->RU X.K ι H b vb->RU X.K ι H kb uk->Kont ce X RU pj ι σi σ H (Qe gt mk i n r b kb h) Q E ->
   Zcp (Z8 X.prog X.w) A (.builtin "max.loop" ⟨[.ref I,.ref fq,.ref C],kw⟩) R z:=by
 intro r
 induction r with
 | zero =>
  intro j z H ι h b kb vb uk c hr h0 hj N g hi fI fC st gC rb rk K
  obtain rfl:j=n:=00
  unfold Qe at K
  cases eh:h[i]? with
  | none=>rw[eh] at K;exact Zf K
  | some ob =>
   rw[eh] at K
   cases ob with
   | lst ys =>
    dsimp only at K
    split at K
    ·rename_i hlen
     obtain⟨ws,e1,r3⟩:=N.at eh hi
     obtain⟨its,rv2,pl,_⟩:=N.inv.list (SqL.of e1)
     have ne:l≠I:=λ q=>by have:=fI.1;rw[<- q,e1] at this;cases this
     have sz:its.toArray.size=j:=by
      rw[Zs,<-rv2.length,r3.length,hlen]
     have W:=ZbL (prog:=X.prog) (w:=X.w) (A:=A.in1) hh I l ne its.toArray
     refine Zaj Zba ?_
     rw[ZM ZN _]
     show Zy _ A.in1 (Zb1 (.ref C)>>=_) _ _ z
     refine Zd (ZaE gC rfl ?_)
     show Zy _ A.in1 (tryCatch (ZbC (.ref I)) _>>=_) _ _ z
     refine Zd (ZU (W.done z _ _ ⟨by rw[sz];exact st,pl.isList⟩ λ h2 tk keep=>?_))
     have gC2:=keep C _ (λ q=>hIC (Zv.mp q).symm) gC
     have N1:=N.turned (h':=h2) (t':=tk) fI λ b o hb e=>keep b o (λ q=>hb (Zv.mp q)) e
     show Zy _ A.in1 (ZcG C (λ _=>#[])>>=_) _ _ _
     refine Zd ?_
     refine Za5 gC2 rfl (Zd (Za8 (Zw ?_)))
     have N2:=N1.turned (h':=h2.update C (Zad λ _=>#[])) (t':=tk) fC λ b o hb e=>(Z2 _ _ (ZR hb)).trans e
     exact hR _ _ (K _ _ _ _ N2 .refl rb)
    ·exact Zf K
   | _=>exact Zf K
 | succ r ih =>
  intro j z H ι h b kb vb uk c hr h0 hj N g hi fI fC st gC rb rk K
  unfold Qe at K
  cases eh:h[i]? with
  | none=>rw[eh] at K;exact Zf K
  | some ob =>
   rw[eh] at K
   cases ob with
   | lst ys =>
    dsimp only at K
    split at K
    ·rename_i hlen
     obtain⟨ws,e1,r3⟩:=N.at eh hi
     obtain⟨its,rv2,pl,_⟩:=N.inv.list (SqL.of e1)
     have ne:l≠I:=λ q=>by have:=fI.1;rw[<- q,e1] at this;cases this
     have sz:its.toArray.size=n:=by
      rw[Zs,<-rv2.length,r3.length,hlen]
     have ej:n-(r+1)=j:=00
     rw[ej] at K
     have W:=ZbL (prog:=X.prog) (w:=X.w) (A:=A.in1) hh I l ne its.toArray
     refine Zaj Zba ?_
     rw[ZM ZN _]
     show Zy _ A.in1 (Zb1 (.ref C)>>=_) _ _ z
     refine Zd (ZaE gC rfl ?_)
     show Zy _ A.in1 (tryCatch (ZbC (.ref I)) _>>=_) _ _ z
     refine Zd (ZU (W.item j z _ _ (by rw[sz];omega) ⟨st,pl.isList⟩ λ y h2 tk hP st2 keep=>?_))
     have ey:its[j]?=Za y:=by simpa using hP
     obtain⟨x,ex,rx⟩:=YA rv2 ey
     obtain⟨yv,eyv,qy⟩:=r3.get' ex
     rw[eyv] at K
     dsimp only at K
     have gC2:=keep C _ (λ q=>hIC (Zv.mp q).symm) gC
     have N1:=N.turned (h':=h2) (t':=tk) fI λ b o hb e=>keep b o (λ q=>hb (Zv.mp q)) e
     obtain⟨oI,hoI,hoc,hod⟩:=id st2.1
     have N2:=(N1.pinO gC2 fC λ v z=>by cases z).pinO hoI (FpOk.more (p:=(C,Zae "list" #[vb,uk] c)) fI (ZR hIC)) λ v z=>by rw[hod] at z;cases z
     rw[ZZ] at N2
     show Zy _ A.in1 (tryCatch (Zbp [y] (call (.ref fq) [y])) _>>=_) _ _ _
     refine Zd (ZU (ZL (nof (ko _ _ _ _ _ yv y _ N2 g ⟨x,rx,qy⟩ (Yu K λ k h3 u s3 H3 ι3 N3 n3 ru K3=>?_)))))
     have pC:=N3.inv.pin (C,Zae "list" #[vb,uk] c) (Zj _ (Zj _ 03))
     have pI:=N3.inv.pin (I,oI) (Zj _ (Zj _ 03))
     have N4:=N3.pins
     have hi3:=n3.at hi
     have g3:=hG _ _ n3.ext g
     have fI3:=FpOk.at (H':=H3) fI pI.2.1
     have fC3:=FpOk.at (H':=H3) fC pC.2.1
     have it3:s3.heap.IsListIter I l (j+1):=⟨oI,pI.1,hoc,hod⟩
     have ry3:RU X.K ι3 H3 yv y:=RU.mono n3 ⟨x,rx,qy⟩
     cases eg:gt k kb with
     | none=>rw[eg] at K3;exact Zf K3
     | some bb =>
      show Zy _ A.in1 (tryCatch (Zbp [y,u] (ZbW .Gt u uk>>=_)) _>>=_) _ _ _
      refine Zd (ZU (ZL (Zd (cm _ _ _ _ _ _ _ k kb u uk bb _ _ N4 ru (rk.mono n3) eg λ h5 t5 k5=>?_))))
      refine Zd (ZL (ZaK ?_))
      refine Zd (Za8 (Zw ?_))
      have N5:=N4.keptH (h':=h5) (t':=t5) k5
      have gC5:=k5 _ _ pC.1
      obtain⟨oI5,hoI5,hoc5,hod5⟩:=id it3
      have it5:h5.IsListIter I l (j+1):=⟨oI5,k5 _ _ hoI5,hoc5,hod5⟩
      rw[eg] at K3
      cases bb with
      | true =>
       simp only[if_true]
       refine Zd ?_
       refine Za5 gC5 rfl (Zd (Za8 ?_))
       rw[VI]
       have N6:=N5.turned (h':=h5.update C (Zad λ _=>#[y,u])) (t':=t5) fC3 λ b o hb e=>(Z2 _ _ (ZR hb)).trans e
       obtain⟨c2,hc2⟩:∃c2,(h5.update C (Zad λ _=>#[y,u])).get? C=Za (Zae "list" #[y,u] c2):=⟨_,Zb2 gC5 λ _=>#[y,u]⟩
       refine Zw ⟨Zas ZN _,ih (j+1) _ H3 ι3 h3 yv k y u c2 00 00 00 N6 g3 hi3 fI3 fC3 ?_ hc2 ry3 ru K3⟩
       exact⟨oI5,(Z2 _ _ (ZR hIC)).trans (k5 _ _ hoI5),hoc5,hod5⟩
      | false =>
       simp only[ZX,if_false]
       refine Zd (Za8 ?_)
       rw[VI]
       exact Zw ⟨Zas ZN _,ih (j+1) _ H3 ι3 h3 b kb vb uk c 00 00 00 N5 g3 hi3 fI3 fC3 it5 gC5 (rb.mono n3) (rk.mono n3) K3⟩
    ·exact Zf K
   | _=>exact Zf K
theorem Jp8 (a v d:Zg):Zd7 "max" ⟨[a],[(Zax "key",v),(Zax "default",d)]⟩:=by unfold Zd7;kernel_rfl
theorem Juj {z:Zn}{H:Hp}{ι:List Zo}{h:IH}{dv:IV}{d:Zg}(hh:A.handled=Zc)(cm:CmpK ce X A.in1 .Gt gt)(ko:Xn ce X A.in1 σi σ pj G (.ref fq) mk)(hG:∀H H',Ext H H'->G H->G H')(N:Now ce X pj ι σi h σ H z)(g:G H)(hi:ι[i]?=Za l)(rd:RU X.K ι H dv d)
  (K:Kont ce X RU pj ι σi σ H (Xy gt mk i dv h) Q E):Zy (Z8 X.prog X.w) A (call (.builtin "max") [.ref l] [(Zax "key",.ref fq),(Zax "default",d)]) Q E z:=by
 unfold Xy at K
 cases eh:h[i]? with
 | none=>rw[eh] at K;exact Zf K
 | some ob =>
  rw[eh] at K
  cases ob with
  | lst ys =>
   dsimp only at K
   obtain⟨ws,e1,r3⟩:=N.at eh hi
   obtain⟨its,rv2,pl,_⟩:=N.inv.list (SqL.of e1)
   have hl:=pl.isList
   obtain⟨ol,hol,_⟩:=id hl
   have lt:l<z.heap.objs.size:=Z4 hol
   have sz:its.toArray.size=ys.length:=by rw[Zs,<-rv2.length,r3.length]
   refine kmk_tree PySem.F.kind_max PySem.F.plain_max PySem.F.entry_max (Jp8 _ _ _) ?_
   show Zy _ A.in1 (Zap "max" ["key","default"] 0 ⟨[],[(Zax "key",.ref fq),(Zax "default",d)]⟩>>=_) _ _ z
   refine Zd (ZdO (show Zap "max" ["key","default"] 0 ⟨[],[(Zax "key",.ref fq),(Zax "default",d)]⟩=pure [Za (.ref fq),Za d] from rfl) ?_)
   refine Zd (Zw ?_)
   refine Zd (ZaM hl ?_)
   refine Zd (ZbQ ?_ (Zac _))
   rw[VI]
   have ne:l≠z.heap.objs.size:=Z7 lt
   have W:=ZbL (prog:=X.prog) (w:=X.w) (A:=A.in1) hh z.heap.objs.size l ne its.toArray
   have hS:(z.heap.push { cls:=.type "list_iterator",data:=.fields #[.ref l,.int 0 0] }).objs.size=z.heap.objs.size+1:=ZcZ ..
   obtain⟨C,hC⟩:∃C,C=(z.heap.push { cls:=.type "list_iterator",data:=.fields #[.ref l,.int 0 0] }).objs.size:=⟨_,rfl⟩
   have hIC:z.heap.objs.size≠C:=by rw[hC,hS];exact Z7 (Za0 _)
   have old:∀b o,z.heap.get? b=Za o->((z.heap.push { cls:=.type "list_iterator",data:=.fields #[.ref l,.int 0 0] }).push (Zae "list" #[] 0)).get? b=Za o:=λ b o e=>Zh _ (Zh _ e)
   have gI:((z.heap.push { cls:=.type "list_iterator",data:=.fields #[.ref l,.int 0 0] }).push (Zae "list" #[] 0)).get? z.heap.objs.size=Za { cls:=.type "list_iterator",data:=.fields #[.ref l,.int 0 0] }:=Zh _ (Z1 _ rfl)
   have gC:((z.heap.push { cls:=.type "list_iterator",data:=.fields #[.ref l,.int 0 0] }).push (Zae "list" #[] 0)).get? C=Za (Zae "list" #[] 0):=by rw[hC];exact Z1 _ rfl
   rw[<- hC]
   have fI:FpOk X pj H z.heap.objs.size:=N.inv.fpOk (Zp _) (N.inv.hok.fresh (Zp _))
   have fC:FpOk X pj H C:=N.inv.fpOk (by rw[hC,hS];exact Zbg _) (N.inv.hok.fresh (by rw[hC,hS];exact Zbg _))
   have N0:=N.keptH (t':=z.toks) old
   refine Zw ⟨Zas ZN _,Zaj Zba ?_⟩
   rw[ZM ZN _]
   show Zy _ A.in1 (Zb1 (.ref _)>>=_) _ _ _
   refine Zd (ZaE gC rfl ?_)
   show Zy _ A.in1 (tryCatch (ZbC (.ref z.heap.objs.size)) _>>=_) _ _ _
   cases e0:ys[0]? with
   | none =>
    have h0:ys.length=0:=by
     have:=List.getElem?_eq_none_iff.mp e0
     omega
    rw[e0] at K
    refine Zd (ZU (W.done _ _ _ (by rw[sz,h0];exact⟨⟨_,gI,rfl,rfl⟩,(hl.push _).push _⟩) λ h2 tk keep=>?_))
    have N1:=N0.turned (h':=h2) (t':=tk) fI λ b o hb e=>keep b o (λ q=>hb (Zv.mp q)) e
    show Zy _ A.in1 (rule _>>=_) _ _ _
    refine Zd (Zd8 (Zw ?_))
    exact K _ _ _ _ N1 .refl rd
   | some yv =>
    have h0:0<ys.length:=(Zq.mp e0).1
    rw[e0] at K
    dsimp only at K
    refine Zd (ZU (W.item 0 _ _ _ (by rw[sz];exact h0) ⟨⟨_,gI,rfl,rfl⟩,(hl.push _).push _⟩ λ y h2 tk hP st2 keep=>?_))
    have ey:its[0]?=Za y:=by simpa using hP
    obtain⟨x,ex,rx⟩:=YA rv2 ey
    obtain⟨yv',eyv,qy⟩:=r3.get' ex
    rw[e0] at eyv
    cases eyv
    have gC2:=keep C _ (λ q=>hIC (Zv.mp q).symm) gC
    have N1:=N0.turned (h':=h2) (t':=tk) fI λ b o hb e=>keep b o (λ q=>hb (Zv.mp q)) e
    obtain⟨oI,hoI,hoc,hod⟩:=id st2.1
    have N2:=(N1.pinO gC2 fC λ v z=>by cases z).pinO hoI (FpOk.more (p:=(C,Zae "list" #[] 0)) fI (ZR hIC)) λ v z=>by rw[hod] at z;cases z
    rw[ZZ] at N2
    show Zy _ A.in1 (tryCatch (Zbp [y] (call (.ref fq) [y])) _>>=_) _ _ _
    refine Zd (ZU (ZL (nof (ko _ _ _ _ _ yv y _ N2 g ⟨x,rx,qy⟩ (Yu K λ k h3 u s3 H3 ι3 N3 n3 ru K3=>?_)))))
    have pC:=N3.inv.pin (C,Zae "list" #[] 0) (Zj _ (Zj _ 03))
    have pI:=N3.inv.pin (z.heap.objs.size,oI) (Zj _ (Zj _ 03))
    have N4:=N3.pins
    have fI3:=FpOk.at (H':=H3) fI pI.2.1
    have fC3:=FpOk.at (H':=H3) fC pC.2.1
    have ry3:RU X.K ι3 H3 yv y:=RU.mono n3 ⟨x,rx,qy⟩
    show Zy _ A.in1 (ZcG C (λ _=>#[y,u])>>=_) _ _ _
    refine Zd ?_
    refine Za5 pC.1 rfl ?_
    rw[VI]
    have N6:=N4.turned (h':=s3.heap.update C (Zad λ _=>#[y,u])) (t':=s3.toks) fC3 λ b o hb e=>(Z2 _ _ (ZR hb)).trans e
    obtain⟨c2,hc2⟩:∃c2,(s3.heap.update C (Zad λ _=>#[y,u])).get? C=Za (Zae "list" #[y,u] c2):=⟨_,Zb2 pC.1 λ _=>#[y,u]⟩
    refine Zw ⟨Zas ZN _,Juk hh cm ko hG (λ v s' q=>q) hIC (ys.length-1) 1 _ H3 ι3 h3 yv k y u c2 rfl 00 00 N6 (hG _ _ n3.ext g) (n3.at hi) fI3 fC3 ?_ hc2 ry3 ru K3⟩
    exact⟨oI,(Z2 _ _ (ZR hIC)).trans pI.1,hoc,hod⟩
  | _=>exact Zf K
end
theorem Kont.more {α β:Type}{R:REL α β}{pj pl:PnT}{ι:List Zo}{σi:ISt}{σ:L2.St}{H:Hp}{r:Res α}{Q:β->Zn->Prop}{E:QvT}(K:Kont ce X R pj ι σi σ H r Q E):Kont ce X R (pj++pl) ι σi σ H r Q E:=by
 cases r with
 | ok v h'=>exact λ u s' H' ι' N n q=>K u s' H' ι' N.pins n q
 | exc m h'=>exact λ pl' a s' H' ι' N n q=>K (pl++pl') a s' H' ι' (by rw[<- ZZ];exact N) n q
 | stuck=>exact K
def Yf (gt:IV->IV->Option Bool)(q:Str)(j:Nat)(js:List Nat)(aa:A1)(m md:E1):E1:=λ σ h=>(aa σ h).bind λ xs h1=>match h1[j]? with
 | some (.tab q')=>if q'=q then(md σ h1).bind λ d h2=>(match xs with
  | [.ref i]=>Xy gt (λ v h'=>m (Za v::js.map λ j=>(σ[j]?).join) h') i d h2
  | _=>.stuck) else .stuck
 | _=>.stuck
theorem Jjm {params:ZbP}{x:Str}{env:Env}(hx:QQ params=Za x):defaultsOf params env=([],[]):=by
 unfold QQ at hx
 split at hx
 ·rfl
 ·cases hx
theorem J0h {k:Nat}{q x:Str}{caps:List Str}{js:List Nat}{j:Nat}{a body de:Expr}{aa:A1}{m md:E1}{params:ZbP}{scope:Zbj}{p lp pos kp kp2:Pos}(hg:Gl X "max")(hm:X.mg "max"=Zc)(ha:PAi ce X [a] aa)(hd:PEi ce X de md)(hs:ZF [a] X.env=[(Zk,ZaU a X.env)])
  (hr:Room (k+2) X.A)(hcd:W.codeIn X.K X.env.code q=Zi)(hq:X.env.qual=q++".<locals>.")(B:Q5 X.mg X.base)(hx:QQ params=Za x)(S:LamSc X.N X.env.scope.names x caps js scope)
  (hb:∀f cd s' H',PEi ce (cxL X X.A.in1 (x::caps) q scope f cd s' H') body m) :
  PEi ce X (.Call (.Name "max" p) [a] [⟨Za "key",.Lambda params body scope lp,kp⟩,⟨Za "default",de,kp2⟩] pos) (Yf gtZ q j js aa m md):=λ pj s σ H ι σi h Q E N K=>by
 have hcl:ZcF scope X.env=pure (clOf X.env.cells scope.names []):=Jas λ y hm hk=>N.inv.ok.has y.1 (.inl (S.free y hm hk))
 refine Zah (Qz N.inv hg hm rfl ?_)
 refine ZdQ ?_ (by rw[hs];rfl) (by rw[hs];rfl) rfl rfl
 refine(ha pos).run N K λ xs h1 us s1 H1 ι1 N1 n1 r1 K1=>?_
 cases ej:h1[j]? with
 | none=>rw[ej] at K1;exact Zf K1
 | some ob =>
  rw[ej] at K1
  cases ob with
  | tab q' =>
   dsimp only at K1
   split at K1
   ·rename_i eq
    subst eq
    refine ZaI (Zd (Jjn N1 ej hcd hq (Jjm hx) hcl B λ f c pm ctv s2 H2 N2 n2 LC=>Zd (ZaX (Zw ?_))))
    refine ZaI (Zd (PX.run hd N2 (Kont.more (Kont.mono K1 n2)) λ d h3 du s3 H3 ι3 N3 n3 r3 K3=>Zd (ZaX (Zw (Zb9 ?_)))))
    obtain⟨vs,rv,qs⟩:=r1.mono (n2.trans n3)
    match xs,K3 with
    | [.ref i],K3 =>
     obtain⟨w,rfl,ad,rfl,hav⟩:=qs.one_of
     obtain⟨u,rfl,ru⟩:=Vf rv
     cases ru
     refine Juj (G:=λ H=>QI H q' (.ref c)) (mk:=λ v h'=>m (Za v::js.map λ j=>(σi[j]?).join) h') hr.hd Jzo ?_ (λ H H' e g=>g.mono e.frzs) N3 (LC.mono n3.ext.frzs) hav r3 ?_
     ·intro pl s4 H4 ι4 h4 v u Q4 N4 g4 ru4 K4
      have pf:=N4.inv.pin (f,lamO q' params body scope (clOf X.env.cells scope.names []) pm ctv c) (Zj _ (Zaq _ (Zj _ (Zv.mpr rfl))))
      exact Jmj (A:=X.A.in1) N.inv.ok.frames hr.in1 N4 pf.1 g4 hx S (hb f (.ref c)) ru4 K4
     ·exact K3
    | [],K3=>exact Zf K3
    | [.non],K3=>exact Zf K3
    | [.bl _],K3=>exact Zf K3
    | [.int _],K3=>exact Zf K3
    | [.str _],K3=>exact Zf K3
    | [.tup _],K3=>exact Zf K3
    | [.rol _],K3=>exact Zf K3
    | x::_::_,K3=>cases x<;>exact Zf K3
   ·exact Zf K1
  | _=>exact Zf K1
end
section
variable {ce:CeT}{X:Cx}{C:Zo}{x c:Str}{np cpos pos:Pos}{e:Expr}{es:List Expr}{ma:A1}
end
section
variable {ce:CeT}{X:Cx}{a C:Zo}{pj:PnT}{σ:L2.St}{H:Hp}{s:Zn}{ι:List Zo}{σi:ISt}{h:IH}{n:Nat}{c:Str}{fs:List (Str×IV)}{tv:Zg}
end
def Jyh (sl:Option Nat)(x:Option IV)(σ:ISt):ISt:=match sl with
 | some i=>σ.set i x
 | none=>σ
def SRes.drop (sl:Option Nat)(r:SRes):SRes:=match r with
 | .next σ h=>.next (Jyh sl Zc σ) h
 | .brk σ h=>.brk (Jyh sl Zc σ) h
 | .cont σ h=>.cont (Jyh sl Zc σ) h
 | .ret v h=>.ret v h
 | _=>.stuck
section
variable {ce:CeT}{X:Cx}
end
theorem Jp6 (a:Zg):Zd7 "max" ⟨[a],[]⟩:=by unfold Zd7;kernel_rfl
section
variable {ce:CeT}{X:Cx}
def X2:IV->IH->Res IV
 | .ref i,h=>match h[i]? with
  | some (.lst xs)=>(match JP xs with
   | some ns=>if ns=[] then .stuck else .ok (.int (JX (λ i=>ns.getD i 0) ns.length)) h
   | none=>.stuck)
  | _=>.stuck
 | _,_=>.stuck
theorem Jzk (hh:X.A.handled=Zc):QH ce X (.builtin "max") (on1 X2):=VU λ pj s σ H ι σi h x xv u Q E N ru qx K=>by
 cases x with
 | ref i =>
  obtain⟨a,e1,ha⟩:=qx
  subst e1
  cases ru
  dsimp only[X2] at K
  cases hi:h[i]? with
  | none=>rw[hi] at K;exact Zf K
  | some ob =>
   rw[hi] at K
   cases ob with
   | lst xs =>
    dsimp only at K
    cases hb:JP xs with
    | none=>rw[hb] at K;exact Zf K
    | some ns =>
     rw[hb] at K
     dsimp only at K
     split at K
     ·exact Zf K
     ·rename_i hne
      obtain⟨vs,e1,r1⟩:=N.at hi ha
      obtain⟨its,rv,pl,hz⟩:=N.inv.list (SqL.of e1)
      refine Jrz (d:=Zc) rfl (Jp6 _) (λ q=>absurd q hne) hh pl.isList (VF hb r1 rv) λ v h2 tk mi kk=>?_
      rcases mi with⟨e,_⟩|⟨_,t,ev⟩
      ·exact absurd e hne
      ·subst ev
       exact fin0 N K rfl _ _ (N.inv.kept (t':=tk) kk) ⟨t,rfl⟩
   | _=>exact Zf K
 | _=>exact Zf K
structure BasK (K:W.Frag)(C:Zo):Prop where
 sp:W.specialIn K (.ref C) "__getattribute__"=Za (Za (.builtin "type.__getattribute__"))
 rd:W.readsIn K C (.type "type")=Zi
 fc:∃fa,W.findIn K (.ref C) "__init__"=Za (Za (.ref fa))/\W.findCls K (.ref C) (.type "type") "__init__"=Za (.val (.ref fa))/\W.keepIn K (.ref fa)=Zi
variable {k:Nat}{fa C:Zo}{fd:Za2}{ps:List Str}{f:List IV->IH->Res IV}{dvs:List IV}{ds:List Zg}{x:Str}{p pos apos:Pos}{e:Expr}{es:List Expr}{ma:A1}{pl:Sem Bool}
theorem J0a (F:FnOk X.prog X.w X.K X.mg X.base (CXI X.prog X.w) k fa fd ps (spI ce X.K ps f))(hr:Room k X.A)(hg:Gl X x)(hm:X.mg x=Za (.ref C))(B:BasK X.K C)(M:Mk X.K C fa)(hb:Qn X.K fd ps ds)(hd:∃vs,Vals vs ds/\∀ι H,RVs X.K ι H dvs vs) 
  (ha:PAi ce X (e::es) ma)(hlen:∀σ h xs h',ma σ h=.ok xs h'->xs.length+ds.length=ps.length)(hdb:(x==("__debug__":Str))=Zk:=by decide)(he:ZF (e::es) X.env=(Zk,ZaU e X.env)::ZF es X.env:=by rfl)(hpl:(Zbo pos (ZF es X.env)).any (·.1)=Zk:=by rfl)
  (ht:ZaU (.Call (.Attribute (.Name x p) "__init__" apos) (e::es) [] pos) X.env=(do
   let ov<-ZaU (.Name x p) X.env
   ZdX apos.atName
   let (f,first)<-Zbp [ov] (Zdo ov "__init__" pl)
   callWith pos f first (Zbo pos (ZF (e::es) X.env)) (Zdt pos (Zcy [] X.env))):=by rfl) :
  PEi ce X (.Call (.Attribute (.Name x p) "__init__" apos) (e::es) [] pos) (Jm f dvs ma):=by
 intro pj s σ H ι σi h Q E N K
 obtain⟨fa',f1,f2,hk⟩:=B.fc
 have ef:fa'=fa:=by
  have:=f1.symm.trans M.init
  cases this
  rfl
 subst ef
 refine W.methodCall_KW (pl:=pl) (Xa N.inv hg hm ?_ hdb) ht
 refine W.method_cls N.inv.kIn B.sp (W.cls_value N.inv.kIn B.rd f2 rfl ?_)
 have N':Now ce X pj ι σi h σ H { s with toks:=s.toks+1 }:=⟨N.inv.tok _,N.rel,N.st⟩
 refine W.callWith_K (h₀:=X.base) N.inv.ok.mod.kin hk ?_ he hpl
 have K':=K
 unfold Jm at K'
 refine ha pos pj _ σ H ι σi h _ E N' ?_
 cases e0:ma σi h with
 | exc n h'=>rw[e0] at K';exact K'
 | stuck=>rw[e0] at K';exact K'
 | ok xs h' =>
  rw[e0] at K'
  intro us s1 H1 ι1 N1 n1 r1
  have hl:xs.length=us.length:=by
   obtain⟨vs,rv,q⟩:=r1
   rw[<- rv.length,q.length]
  have hl2:=hlen σi h xs h' e0
  exact⟨N1.inv.kIn,Y0 (us:=us) F hr hb hd 00 N1 r1 (Kont.mono (r:=f (xs++dvs) h') K' n1)⟩
end
section
variable {prog:ZB}{w:Zab}{A:ZK}{E:QvT}{s:Zn}{x y:Str}{t u:Tok}{Q:QvT}
open Builtin Builtin.Str in
end
section
variable {ce:CeT}{X:Cx}
end
section
variable {prog:ZB}{w:Zab}{A:ZK}{E:QvT}{s:Zn}
end
section
variable {ce:CeT}{X:Cx}
end
section
variable {ce:CeT}{X:Cx}{pj:PnT}{σ:L2.St}{H:Hp}{s:Zn}{ι:List Zo}{σi:ISt}{h:IH}{n:Nat}{c:Str}{fs:List (Str×IV)}{a:Zo}
end
section
variable {P:ZB}{w:Zab}{K:W.Frag}{mg:Str->Option Zg}{base:Zau}{ce:CeT}
end
section
variable {ce:CeT}{X:Cx}
end
section
variable {prog:ZB}{w:Zab}{A:ZK}{E:QvT}{s:Zn}
end
def neIn (K:W.Frag)(C:Zo):Bool:=match K.lookup C with
 | some ⟨.type "type",_,.cls cd,sl⟩=>(match cd.mro,sl.toList with
  | [.ref C',.type "object"],[_,_,_,_,Za (.builtin _),_]=>C'==C&&!cd.hasDel&&W.nsOkIn K cd.ns&&W.nsIn K cd.ns "__eq__"==Za Zc&&W.nsIn K cd.ns "__ne__"==Za Zc
  | _,_=>Zk)
 | _=>Zk
section
variable {ce:CeT}{X:Cx}{pj:PnT}{s:Zn}{σ:L2.St}{H:Hp}{ι:List Zo}{σi:ISt}{h:IH}
end
section
variable {ce:CeT}{X:Cx}
end
section
variable {X:Cx}
end
section
variable {ce:CeT}{X:Cx}
end
def VB:Ty->Option Bool
 | .lst=>Za Zi|.ins c=>if c=="Work" then Za Zk else Zc|.exc _=>Zc|_=>Za Zk
theorem Jpa {ce:CeT}{K:W.Frag}(h:∀C,ce "Work"=Za C->ClsI K C/\W.kitOne K (.ref C) (.type "list")=Za Zk):IsOk ce K (.type "list") VB:=by
 have O:IsOk ce K (.type "list") QK:=Jk7
 refine⟨O.non,O.bl,O.int,O.str,O.lst,O.tup,O.dct,λ k C b e hk=>?_,(λ k C b e=>by cases e)⟩
 unfold VB at e
 dsimp only at e
 split at e
 ·rename_i q
  cases beq_iff_eq.mp q
  cases e
  exact h C hk
 ·cases e
section
variable {ce:CeT}{X:Cx}{x:Expr}{m:E1}{pos:Pos}
end
section
variable {prog:ZB}{w:Zab}{A:ZK}{E:QvT}{hp:Zau}{ge:Array Zel}{dr:Drawn}{tk:Nat}{ox:OsState}
variable {nm qn:Str}{C Na:Zo}{bs bm bmB:List Zg}{hdct:Bool}{sn:List Str}{sub:List Zg}{ab:Bool}{col:Option Bool}{dd:Option Zo}{k0 k1 k2 k3 k5:Option Zg}{B Bn newId nid initId inN:String}{bmN:List Zg}
end
section
variable {X:Cx}{pj:PnT}{σ:L2.St}{H:Hp}{s:Zn}{k:Nat}{f C:Zo}{fd:Za2}{ps:List Str}{sp:Sp}{dvs:List V}{ds:List Zg}{E:XK}{Q:VK}{us:List Zg}{vs:List V}{W:QvT}
end
section
variable {ce:CeT}{X:Cx}{k:Nat}{fa C:Zo}{fd:Za2}{ps:List Str}{f:List IV->IH->Res IV}{dvs:List IV}{ds:List Zg}{x c:Str}{p pos:Pos}{e:Expr}{es:List Expr}{ma:A1}
end
section
variable {X:Cx}{pj:PnT}{σ:L2.St}{H:Hp}{s:Zn}{f C e:Zo}{tv:Zg}{d:Option Zo}{us:List Zg}
end
section
variable {ce:CeT}{X:Cx}{D:Zo}{x:Str}{p pos apos:Pos}{e:Expr}{es:List Expr}{ma:A1}{pl:Sem Bool}
end
section
variable {prog:ZB}{w:Zab}{A:ZK}{K:W.Frag}{C x:Zo}{s:Zn}{R:Zd2->Zn->Prop}{ox:Obj}{name:Str}{v:Zg}
end
section
variable {prog:ZB}{w:Zab}{A:ZK}{K:W.Frag}{C x:Zo}{s:Zn}{ox:Obj}{name:Str}{v:Zg}
end
section
variable {ce:CeT}{X:Cx}{o value:Expr}{mo mv:E1}{pos pos':Pos}{fl:Str}
end
end L3
namespace L3
open PySem PySem.Spec PySem.Calls PyProof.Rows L2
section
variable {prog:ZB}{w:Zab}{A:ZK}{E:QvT}{s:Zn}{K:W.Frag}{x D:Zo}{ox od:Obj}{f:Str}{v:Zg}
theorem XV.nb (h:XV ι y u):∀id,u≠.builtin id:=by
 cases y with
 | int i=>obtain⟨t,rfl⟩:=h;exact nofun
 | ref j=>obtain⟨b,rfl,_⟩:=h;exact nofun
 | _=>cases h
end
section
variable {ce:CeT}{X:Cx}{o:Expr}{mo:E1}{pos:Pos}{fl:Str}
end
section
variable {ce:CeT}{X:Cx}
end
end L3
namespace L3
open PySem PySem.Spec PyProof.Rows L2
section
variable {ce:CeT}{X:Cx}
end
section
variable {α β γ δ:Type}{ce:CeT}{X:Cx}{R:REL α β}{R':REL γ δ}{a:Zo}{n:Nat}
variable {b c:Expr}{pos:Pos}{rest:List Expr}{ta tb:T1}{mb:E1}
end
def Xz (gt:IV->IV->Option Bool)(mk:IV->IH->Res IV)(i:Nat)(h:IH):Res IV:=match h[i]? with
 | some (.lst ys)=>(match ys[0]? with
  | some y=>(mk y h).nx.bind λ k h'=>Qe gt mk i ys.length (ys.length-1) y k h'
  | none=>.stuck)
 | _=>.stuck
theorem Jf9:(toString "min"++toString ".loop":String)="min.loop":=01
section
variable {ce:CeT}{X:Cx}
section
variable {A:ZK}{R:Zd2->Zn->Prop}{Q:QvT}{E:QvT}{pj:PnT}{σi:ISt}{σ:L2.St}{G:Hp->Prop}{fq:Zo}{mk:IV->IH->Res IV}{gt:IV->IV->Option Bool}{i n:Nat}{l I C:Zo}{kw:List (Str×Zg)}
theorem Jui (hh:A.handled=Zc)(cm:CmpK ce X A.in1 .Lt gt)(ko:Xn ce X A.in1 σi σ pj G (.ref fq) mk)(hG:∀H H',Ext H H'->G H->G H')(hR:∀v s',Q v s'->R (.ok (.ret v)) s')(hIC:I≠C) :
  ∀(r j:Nat)(z:Zn)(H:Hp)(ι:List Zo)(h:IH)(b kb:IV)(vb uk:Zg)(c:Nat),n-j=r->0<j->j<=n->Now ce X pj ι σi h σ H z->G H->ι[i]?=Za l->FpOk X pj H I->FpOk X pj H C->z.heap.IsListIter I l j ->
   z.heap.get? C=Za (Zae "list" #[vb,uk] c)->RU X.K ι H b vb->RU X.K ι H kb uk->Kont ce X RU pj ι σi σ H (Qe gt mk i n r b kb h) Q E ->
   Zcp (Z8 X.prog X.w) A (.builtin "min.loop" ⟨[.ref I,.ref fq,.ref C],kw⟩) R z:=by
 intro r
 induction r with
 | zero =>
  intro j z H ι h b kb vb uk c hr h0 hj N g hi fI fC st gC rb rk K
  obtain rfl:j=n:=00
  unfold Qe at K
  cases eh:h[i]? with
  | none=>rw[eh] at K;exact Zf K
  | some ob =>
   rw[eh] at K
   cases ob with
   | lst ys =>
    dsimp only at K
    split at K
    ·rename_i hlen
     obtain⟨ws,e1,r3⟩:=N.at eh hi
     obtain⟨its,rv2,pl,_⟩:=N.inv.list (SqL.of e1)
     have ne:l≠I:=λ q=>by have:=fI.1;rw[<- q,e1] at this;cases this
     have sz:its.toArray.size=j:=by
      rw[Zs,<-rv2.length,r3.length,hlen]
     have W:=ZbL (prog:=X.prog) (w:=X.w) (A:=A.in1) hh I l ne its.toArray
     refine Zaj Zbb ?_
     rw[ZM ZO _]
     show Zy _ A.in1 (Zb1 (.ref C)>>=_) _ _ z
     refine Zd (ZaE gC rfl ?_)
     show Zy _ A.in1 (tryCatch (ZbC (.ref I)) _>>=_) _ _ z
     refine Zd (ZU (W.done z _ _ ⟨by rw[sz];exact st,pl.isList⟩ λ h2 tk keep=>?_))
     have gC2:=keep C _ (λ q=>hIC (Zv.mp q).symm) gC
     have N1:=N.turned (h':=h2) (t':=tk) fI λ b o hb e=>keep b o (λ q=>hb (Zv.mp q)) e
     show Zy _ A.in1 (ZcG C (λ _=>#[])>>=_) _ _ _
     refine Zd ?_
     refine Za5 gC2 rfl (Zd (Za8 (Zw ?_)))
     have N2:=N1.turned (h':=h2.update C (Zad λ _=>#[])) (t':=tk) fC λ b o hb e=>(Z2 _ _ (ZR hb)).trans e
     exact hR _ _ (K _ _ _ _ N2 .refl rb)
    ·exact Zf K
   | _=>exact Zf K
 | succ r ih =>
  intro j z H ι h b kb vb uk c hr h0 hj N g hi fI fC st gC rb rk K
  unfold Qe at K
  cases eh:h[i]? with
  | none=>rw[eh] at K;exact Zf K
  | some ob =>
   rw[eh] at K
   cases ob with
   | lst ys =>
    dsimp only at K
    split at K
    ·rename_i hlen
     obtain⟨ws,e1,r3⟩:=N.at eh hi
     obtain⟨its,rv2,pl,_⟩:=N.inv.list (SqL.of e1)
     have ne:l≠I:=λ q=>by have:=fI.1;rw[<- q,e1] at this;cases this
     have sz:its.toArray.size=n:=by
      rw[Zs,<-rv2.length,r3.length,hlen]
     have ej:n-(r+1)=j:=00
     rw[ej] at K
     have W:=ZbL (prog:=X.prog) (w:=X.w) (A:=A.in1) hh I l ne its.toArray
     refine Zaj Zbb ?_
     rw[ZM ZO _]
     show Zy _ A.in1 (Zb1 (.ref C)>>=_) _ _ z
     refine Zd (ZaE gC rfl ?_)
     show Zy _ A.in1 (tryCatch (ZbC (.ref I)) _>>=_) _ _ z
     refine Zd (ZU (W.item j z _ _ (by rw[sz];omega) ⟨st,pl.isList⟩ λ y h2 tk hP st2 keep=>?_))
     have ey:its[j]?=Za y:=by simpa using hP
     obtain⟨x,ex,rx⟩:=YA rv2 ey
     obtain⟨yv,eyv,qy⟩:=r3.get' ex
     rw[eyv] at K
     dsimp only at K
     have gC2:=keep C _ (λ q=>hIC (Zv.mp q).symm) gC
     have N1:=N.turned (h':=h2) (t':=tk) fI λ b o hb e=>keep b o (λ q=>hb (Zv.mp q)) e
     obtain⟨oI,hoI,hoc,hod⟩:=id st2.1
     have N2:=(N1.pinO gC2 fC λ v z=>by cases z).pinO hoI (FpOk.more (p:=(C,Zae "list" #[vb,uk] c)) fI (ZR hIC)) λ v z=>by rw[hod] at z;cases z
     rw[ZZ] at N2
     show Zy _ A.in1 (tryCatch (Zbp [y] (call (.ref fq) [y])) _>>=_) _ _ _
     refine Zd (ZU (ZL (nof (ko _ _ _ _ _ yv y _ N2 g ⟨x,rx,qy⟩ (Yu K λ k h3 u s3 H3 ι3 N3 n3 ru K3=>?_)))))
     have pC:=N3.inv.pin (C,Zae "list" #[vb,uk] c) (Zj _ (Zj _ 03))
     have pI:=N3.inv.pin (I,oI) (Zj _ (Zj _ 03))
     have N4:=N3.pins
     have hi3:=n3.at hi
     have g3:=hG _ _ n3.ext g
     have fI3:=FpOk.at (H':=H3) fI pI.2.1
     have fC3:=FpOk.at (H':=H3) fC pC.2.1
     have it3:s3.heap.IsListIter I l (j+1):=⟨oI,pI.1,hoc,hod⟩
     have ry3:RU X.K ι3 H3 yv y:=RU.mono n3 ⟨x,rx,qy⟩
     cases eg:gt k kb with
     | none=>rw[eg] at K3;exact Zf K3
     | some bb =>
      show Zy _ A.in1 (tryCatch (Zbp [y,u] (ZbW .Lt u uk>>=_)) _>>=_) _ _ _
      refine Zd (ZU (ZL (Zd (cm _ _ _ _ _ _ _ k kb u uk bb _ _ N4 ru (rk.mono n3) eg λ h5 t5 k5=>?_))))
      refine Zd (ZL (ZaK ?_))
      refine Zd (Za8 (Zw ?_))
      have N5:=N4.keptH (h':=h5) (t':=t5) k5
      have gC5:=k5 _ _ pC.1
      obtain⟨oI5,hoI5,hoc5,hod5⟩:=id it3
      have it5:h5.IsListIter I l (j+1):=⟨oI5,k5 _ _ hoI5,hoc5,hod5⟩
      rw[eg] at K3
      cases bb with
      | true =>
       simp only[if_true]
       refine Zd ?_
       refine Za5 gC5 rfl (Zd (Za8 ?_))
       rw[Jf9]
       have N6:=N5.turned (h':=h5.update C (Zad λ _=>#[y,u])) (t':=t5) fC3 λ b o hb e=>(Z2 _ _ (ZR hb)).trans e
       obtain⟨c2,hc2⟩:∃c2,(h5.update C (Zad λ _=>#[y,u])).get? C=Za (Zae "list" #[y,u] c2):=⟨_,Zb2 gC5 λ _=>#[y,u]⟩
       refine Zw ⟨Zas ZO _,ih (j+1) _ H3 ι3 h3 yv k y u c2 00 00 00 N6 g3 hi3 fI3 fC3 ?_ hc2 ry3 ru K3⟩
       exact⟨oI5,(Z2 _ _ (ZR hIC)).trans (k5 _ _ hoI5),hoc5,hod5⟩
      | false =>
       simp only[ZX,if_false]
       refine Zd (Za8 ?_)
       rw[Jf9]
       exact Zw ⟨Zas ZO _,ih (j+1) _ H3 ι3 h3 b kb vb uk c 00 00 00 N5 g3 hi3 fI3 fC3 it5 gC5 (rb.mono n3) (rk.mono n3) K3⟩
    ·exact Zf K
   | _=>exact Zf K
theorem Juh (hh:A.handled=Zc)(cm:CmpK ce X A.in1 .Lt gt)(ko:Xn ce X A.in1 σi σ pj G (.ref fq) mk)(hG:∀H H',Ext H H'->G H->G H')(N:Now ce X pj ι σi h σ H z)(g:G H)(hi:ι[i]?=Za l) 
  (K:Kont ce X RU pj ι σi σ H (Xz gt mk i h) Q E):Zy (Z8 X.prog X.w) A (call (.builtin "min") [.ref l] [(Zax "key",.ref fq)]) Q E z:=by
 unfold Xz at K
 cases eh:h[i]? with
 | none=>rw[eh] at K;exact Zf K
 | some ob =>
  rw[eh] at K
  cases ob with
  | lst ys =>
   dsimp only at K
   obtain⟨ws,e1,r3⟩:=N.at eh hi
   obtain⟨its,rv2,pl,_⟩:=N.inv.list (SqL.of e1)
   have hl:=pl.isList
   obtain⟨ol,hol,_⟩:=id hl
   have lt:l<z.heap.objs.size:=Z4 hol
   have sz:its.toArray.size=ys.length:=by rw[Zs,<-rv2.length,r3.length]
   refine kmk_tree PySem.F.kind_min PySem.F.plain_min PySem.F.entry_min (kmk_min_key _ _) ?_
   show Zy _ A.in1 (Zap "min" ["key","default"] 0 ⟨[],[(Zax "key",.ref fq)]⟩>>=_) _ _ z
   refine Zd (ZdO (show Zap "min" ["key","default"] 0 ⟨[],[(Zax "key",.ref fq)]⟩=pure [Za (.ref fq),Zc] from rfl) ?_)
   refine Zd (Zw ?_)
   refine Zd (ZaM hl ?_)
   refine Zd (ZbQ ?_ (Zac _))
   rw[Jf9]
   have ne:l≠z.heap.objs.size:=Z7 lt
   have W:=ZbL (prog:=X.prog) (w:=X.w) (A:=A.in1) hh z.heap.objs.size l ne its.toArray
   have hS:(z.heap.push { cls:=.type "list_iterator",data:=.fields #[.ref l,.int 0 0] }).objs.size=z.heap.objs.size+1:=ZcZ ..
   obtain⟨C,hC⟩:∃C,C=(z.heap.push { cls:=.type "list_iterator",data:=.fields #[.ref l,.int 0 0] }).objs.size:=⟨_,rfl⟩
   have hIC:z.heap.objs.size≠C:=by rw[hC,hS];exact Z7 (Za0 _)
   have old:∀b o,z.heap.get? b=Za o->((z.heap.push { cls:=.type "list_iterator",data:=.fields #[.ref l,.int 0 0] }).push (Zae "list" #[] 0)).get? b=Za o:=λ b o e=>Zh _ (Zh _ e)
   have gI:((z.heap.push { cls:=.type "list_iterator",data:=.fields #[.ref l,.int 0 0] }).push (Zae "list" #[] 0)).get? z.heap.objs.size=Za { cls:=.type "list_iterator",data:=.fields #[.ref l,.int 0 0] }:=Zh _ (Z1 _ rfl)
   have gC:((z.heap.push { cls:=.type "list_iterator",data:=.fields #[.ref l,.int 0 0] }).push (Zae "list" #[] 0)).get? C=Za (Zae "list" #[] 0):=by rw[hC];exact Z1 _ rfl
   rw[<- hC]
   have fI:FpOk X pj H z.heap.objs.size:=N.inv.fpOk (Zp _) (N.inv.hok.fresh (Zp _))
   have fC:FpOk X pj H C:=N.inv.fpOk (by rw[hC,hS];exact Zbg _) (N.inv.hok.fresh (by rw[hC,hS];exact Zbg _))
   have N0:=N.keptH (t':=z.toks) old
   refine Zw ⟨Zas ZO _,Zaj Zbb ?_⟩
   rw[ZM ZO _]
   show Zy _ A.in1 (Zb1 (.ref _)>>=_) _ _ _
   refine Zd (ZaE gC rfl ?_)
   show Zy _ A.in1 (tryCatch (ZbC (.ref z.heap.objs.size)) _>>=_) _ _ _
   cases e0:ys[0]? with
   | none=>rw[e0] at K;exact Zf K
   | some yv =>
    have h0:0<ys.length:=(Zq.mp e0).1
    rw[e0] at K
    dsimp only at K
    refine Zd (ZU (W.item 0 _ _ _ (by rw[sz];exact h0) ⟨⟨_,gI,rfl,rfl⟩,(hl.push _).push _⟩ λ y h2 tk hP st2 keep=>?_))
    have ey:its[0]?=Za y:=by simpa using hP
    obtain⟨x,ex,rx⟩:=YA rv2 ey
    obtain⟨yv',eyv,qy⟩:=r3.get' ex
    rw[e0] at eyv
    cases eyv
    have gC2:=keep C _ (λ q=>hIC (Zv.mp q).symm) gC
    have N1:=N0.turned (h':=h2) (t':=tk) fI λ b o hb e=>keep b o (λ q=>hb (Zv.mp q)) e
    obtain⟨oI,hoI,hoc,hod⟩:=id st2.1
    have N2:=(N1.pinO gC2 fC λ v z=>by cases z).pinO hoI (FpOk.more (p:=(C,Zae "list" #[] 0)) fI (ZR hIC)) λ v z=>by rw[hod] at z;cases z
    rw[ZZ] at N2
    show Zy _ A.in1 (tryCatch (Zbp [y] (call (.ref fq) [y])) _>>=_) _ _ _
    refine Zd (ZU (ZL (nof (ko _ _ _ _ _ yv y _ N2 g ⟨x,rx,qy⟩ (Yu K λ k h3 u s3 H3 ι3 N3 n3 ru K3=>?_)))))
    have pC:=N3.inv.pin (C,Zae "list" #[] 0) (Zj _ (Zj _ 03))
    have pI:=N3.inv.pin (z.heap.objs.size,oI) (Zj _ (Zj _ 03))
    have N4:=N3.pins
    have fI3:=FpOk.at (H':=H3) fI pI.2.1
    have fC3:=FpOk.at (H':=H3) fC pC.2.1
    have ry3:RU X.K ι3 H3 yv y:=RU.mono n3 ⟨x,rx,qy⟩
    show Zy _ A.in1 (ZcG C (λ _=>#[y,u])>>=_) _ _ _
    refine Zd ?_
    refine Za5 pC.1 rfl ?_
    rw[Jf9]
    have N6:=N4.turned (h':=s3.heap.update C (Zad λ _=>#[y,u])) (t':=s3.toks) fC3 λ b o hb e=>(Z2 _ _ (ZR hb)).trans e
    obtain⟨c2,hc2⟩:∃c2,(s3.heap.update C (Zad λ _=>#[y,u])).get? C=Za (Zae "list" #[y,u] c2):=⟨_,Zb2 pC.1 λ _=>#[y,u]⟩
    refine Zw ⟨Zas ZO _,Jui hh cm ko hG (λ v s' q=>q) hIC (ys.length-1) 1 _ H3 ι3 h3 yv k y u c2 rfl 00 00 N6 (hG _ _ n3.ext g) (n3.at hi) fI3 fC3 ?_ hc2 ry3 ru K3⟩
    exact⟨oI,(Z2 _ _ (ZR hIC)).trans pI.1,hoc,hod⟩
  | _=>exact Zf K
end
def Xt (gt:IV->IV->Option Bool)(q:Str)(j:Nat)(js:List Nat)(aa:A1)(m:E1):E1:=λ σ h=>(aa σ h).bind λ xs h1=>match h1[j]? with
 | some (.tab q')=>if q'=q then(match xs with
  | [.ref i]=>Xz gt (λ v h'=>m (Za v::js.map λ j=>(σ[j]?).join) h') i h1
  | _=>.stuck) else .stuck
 | _=>.stuck
theorem J0j {k:Nat}{q x:Str}{caps:List Str}{js:List Nat}{j:Nat}{a body:Expr}{aa:A1}{m:E1}{lt:IV->IV->Option Bool}{params:ZbP}{scope:Zbj}{p lp pos kp:Pos}(hg:Gl X "min")(hm:X.mg "min"=Zc)(ha:PAi ce X [a] aa)(cm:∀A:ZK,A.units+64<cLine->CmpK ce X A .Lt lt)(hs:ZF [a] X.env=[(Zk,ZaU a X.env)])
  (hr:Room (k+2) X.A)(hcd:W.codeIn X.K X.env.code q=Zi)(hq:X.env.qual=q++".<locals>.")(B:Q5 X.mg X.base)(hx:QQ params=Za x)(S:LamSc X.N X.env.scope.names x caps js scope)
  (hb:∀f cd s' H',PEi ce (cxL X X.A.in1 (x::caps) q scope f cd s' H') body m) :
  PEi ce X (.Call (.Name "min" p) [a] [⟨Za "key",.Lambda params body scope lp,kp⟩] pos) (Xt lt q j js aa m):=λ pj s σ H ι σi h Q E N K=>by
 have hcl:ZcF scope X.env=pure (clOf X.env.cells scope.names []):=Jas λ y hm hk=>N.inv.ok.has y.1 (.inl (S.free y hm hk))
 refine Zah (Qz N.inv hg hm rfl ?_)
 refine ZdQ ?_ (by rw[hs];rfl) (by rw[hs];rfl) rfl rfl
 refine(ha pos).run N K λ xs h1 us s1 H1 ι1 N1 n1 r1 K1=>?_
 cases ej:h1[j]? with
 | none=>rw[ej] at K1;exact Zf K1
 | some ob =>
  rw[ej] at K1
  cases ob with
  | tab q' =>
   dsimp only at K1
   split at K1
   ·rename_i eq
    subst eq
    refine ZaI (Zd (Jjn N1 ej hcd hq (Jjm hx) hcl B λ f c pm ctv s2 H2 N2 n2 LC=>Zd (ZaX (Zw ?_))))
    refine Zb9 ?_
    have K3:=Kont.more (pl:=[(f,lamO q' params body scope (clOf X.env.cells scope.names []) pm ctv c)]) (Kont.mono K1 n2)
    obtain⟨vs,rv,qs⟩:=r1.mono n2
    match xs,K3 with
    | [.ref i],K3 =>
     obtain⟨w,rfl,ad,rfl,hav⟩:=qs.one_of
     obtain⟨u,rfl,ru⟩:=Vf rv
     cases ru
     refine Juh (G:=λ H=>QI H q' (.ref c)) (mk:=λ v h'=>m (Za v::js.map λ j=>(σi[j]?).join) h') hr.hd (cm _ hr.in1.units) ?_ (λ H H' e g=>g.mono e.frzs) N2 LC hav ?_
     ·intro pl s4 H4 ι4 h4 v u Q4 N4 g4 ru4 K4
      have pf:=N4.inv.pin (f,lamO q' params body scope (clOf X.env.cells scope.names []) pm ctv c) (Zj _ (Zaq _ (Zj _ (Zv.mpr rfl))))
      exact Jmj (A:=X.A.in1) N.inv.ok.frames hr.in1 N4 pf.1 g4 hx S (hb f (.ref c)) ru4 K4
     ·exact K3
    | [],K3=>exact Zf K3
    | [.non],K3=>exact Zf K3
    | [.bl _],K3=>exact Zf K3
    | [.int _],K3=>exact Zf K3
    | [.str _],K3=>exact Zf K3
    | [.tup _],K3=>exact Zf K3
    | [.rol _],K3=>exact Zf K3
    | x::_::_,K3=>cases x<;>exact Zf K3
   ·exact Zf K1
  | _=>exact Zf K1
end
def ltL:List Int->List Int->Bool
 | a::as,b::bs=>if a=b then ltL as bs else decide (a<b)
 | _,_=>Zk
abbrev ivl (l:List (Int×Tok)):List Zg:=l.map λ p=>.int p.1 p.2
section
open PySem.AutoSeq1 (wpAny_loadPart')
open PySem.MeetsSeq PySem.MeetsSeq2 PySem.MeetsSeq3 PySem.SeqRoads2
theorem Jpw (l b:Zo)(as bs:List (Int×Tok))(hl:as.length=bs.length)(n n2:Nat)(dd dd2:Option Zo)(sl sl2:Array (Option Zg)) :
  Meets (Zeq.«tuple.__lt__» ⟨[.ref l,.ref b],[]⟩)
   (λ A R s=>s.heap.get? l=Za { cls:=.type "tuple",dict:=dd,data:=.seq (ivl as).toArray n,slots:=sl }/\s.heap.get? b=Za { cls:=.type "tuple",dict:=dd2,data:=.seq (ivl bs).toArray n2,slots:=sl2 } /\
    R (.ok (.ret (.bool (ltL (as.map (·.1)) (bs.map (·.1)))))) s) :=
 .of_wp λ prog w A R s h=>by
  obtain⟨hp,g,d,tk,os⟩:=s;obtain⟨ho,hb,h⟩:=h
  have f2:=AutoSeq1.sub_tuple_tuple
  wp_walk using Zcr ho,Zcr hb,wpAny_forIn_list _ (λ rest b s'=>b.1=Zc/\s'=⟨hp,g,d,tk,os⟩/\∃xs ys:List (Int×Tok),xs.length=ys.length/\rest=(ivl xs).zip (ivl ys) /\
   R (.ok (.ret (.bool (ltL (xs.map (·.1)) (ys.map (·.1)))))) ⟨hp,g,d,tk,os⟩) _
  case turn =>
   rintro⟨y,x⟩ rest b s' ⟨hb',rfl,xs,ys,ll,hz,hR⟩
   match xs,ys,ll,hz,hR with
   | p::xs,q::ys,ll,hz,hR =>
    injection hz with hyx hrest
    have hy:ZbO p.1 p.2=y:=(congrArg Prod.fst hyx).symm
    have hx:ZbO q.1 q.2=x:=(congrArg Prod.snd hyx).symm
    subst hy hx
    refine Zd (wpAny_eqBool_int ?_)
    by_cases e:p.1=q.1
    ·rw[beq_iff_eq.mpr e]
     wp_walk
     exact⟨rfl,rfl,xs,ys,by simpa using ll,hrest,by simpa [ltL,e] using hR⟩
    ·rw[beq_eq_false_iff_ne.mpr e]
     have cmp:=CmpOf.ints_lt (prog:=prog) (w:=w) (A:=A.in1) (P:=λ i v=>∃t,v=.int (if i=0 then p.1 else q.1) t) (λ i=>if i=0 then p.1 else q.1) (λ _ _ q=>q)
     have hc:∀(Q:QvT)(E:QvT)(s:Zn),Q (.bool (decide (p.1<q.1))) s->Zy (Z8 prog w) A.in1 (ZbW .Lt (.int p.1 p.2) (.int q.1 q.2)) Q E s:=λ Q E s h=>by
      have:=cmp 0 1 (.int p.1 p.2) (.int q.1 q.2) s Q E ⟨p.2,03⟩ ⟨q.2,03⟩
      simp only[if_true,show ¬(1:Nat)=0 by decide,if_false] at this
      exact this h
     show Zy _ A.in1 (rule _>>=λ _=>ZbW .Lt (.int p.1 p.2) (.int q.1 q.2)>>=λ v=>ret v>>=λ f=>pure (ForInStep.done (Za f,()))) _ _ _
     refine Zd (Zd8 (Zd (hc _ _ _ (Zd (Zw (Zw (Zw ⟨_,rfl,?_⟩)))))))
     simpa [ltL,e] using hR
   | [],ys,ll,hz,hR=>cases hz
   | _::_,[],ll,hz,hR=>cases hz
  case fin =>
   rintro⟨b1,b2⟩ s' ⟨hb',rfl,xs,ys,ll,hz,hR⟩
   simp only at hb'
   subst hb'
   match xs,ys,ll,hz,hR with
   | [],[],_,_,hR =>
    wp_walk
    exact⟨_,rfl,by simpa [Builtin.Tuple.tupleCompareSizes,hl,ltL] using hR⟩
   | _::_,_::_,_,hz,_=>cases hz
  case h =>
   exact⟨rfl,rfl,as,bs,hl,03,h⟩
end
theorem Jhc:∀{us:List Zg}{ns:List Int},ZbA us ns->∃l:List (Int×Tok),us=ivl l/\l.map (·.1)=ns
 | [],[],_=>⟨[],rfl,rfl⟩
 | [],_::_,h=>by cases h
 | _::_,[],h=>by cases h
 | u::us,n::ns,h=>by
  cases h
  rename_i t r
  obtain⟨l,e1,e2⟩:=Jhc r
  exact⟨(n,t)::l,by rw[e1];rfl,by rw[<- e2];rfl⟩
def ltT:IV->IV->Option Bool
 | .tup xs,.tup ys=>(match JP xs,JP ys with
  | some as,Za bs=>if as.length=bs.length then Za (ltL as bs) else Zc
  | _,_=>Zc)
 | _,_=>Zc
section
variable {ce:CeT}{X:Cx}
theorem J0z {A:ZK}(hu:A.units<cLine)(N:Now ce X pj ι σi h σ H s)(r:RU X.K ι H k u)(rb:RU X.K ι H kb ub)(e:ltT k kb=Za b)(q:Q (.bool b) s):Zy (Z8 X.prog X.w) A (ZbW .Lt u ub) Q E s:=by
 cases k with
 | tup xs =>
  cases kb with
  | tup ys =>
   obtain⟨x,rx,a,vs,rfl,sa,ra⟩:=r
   obtain⟨y,ry,c,ws,rfl,sc,rc⟩:=rb
   have ru:u=.ref a:=rx
   have rub:ub=.ref c:=ry
   subst ru rub
   unfold ltT at e
   dsimp only at e
   cases e1:JP xs with
   | none=>rw[e1] at e;cases e
   | some as =>
    cases e2:JP ys with
    | none=>rw[e1,e2] at e;cases e
    | some bs =>
     rw[e1,e2] at e
     dsimp only at e
     split at e
     ·rename_i hl
      cases e
      obtain⟨its,v1,⟨⟨cls,dd,data,sl⟩,ho,hc,n,hd⟩,_⟩:=N.inv.tuple sa
      obtain⟨jts,v2,⟨⟨cls2,dd2,data2,sl2⟩,ho2,hc2,n2,hd2⟩,_⟩:=N.inv.tuple sc
      simp only at hc hd hc2 hd2
      subst hc hd hc2 hd2
      obtain⟨l,rfl,rfl⟩:=Jhc (VF e1 ra v1)
      obtain⟨m,rfl,rfl⟩:=Jhc (VF e2 rc v2)
      exact richCompare_meets_room (op:=.Lt) ⟨_,ho,rfl⟩ ⟨_,ho2,rfl⟩ PySem.F.slot_tuple_lt PySem.F.entry_tuple_lt (PySem.F.args_tuple_lt_2 _ _) (Jpw a c l m (by simpa using hl) n n2 dd dd2 sl sl2)
       ⟨ho,ho2,show ZcB (ltL (l.map (·.1)) (m.map (·.1)))≠Value.notImplemented/\Q (.bool (ltL (l.map (·.1)) (m.map (·.1)))) s from⟨(λ x=>nomatch x),q⟩⟩ hu
     ·cases e
  | _=>cases e
 | _=>cases e
theorem Jw9 {A:ZK}(hu:A.units<cLine):CmpK ce X A .Lt ltT:=λ _ _ _ _ _ _ s _ _ _ _ _ _ _ N r rb e q=>J0z hu N r rb e (q s.heap s.toks λ _ _ e=>e)
end
def Jp1 (h:Zau)(wrs:List Zo)(C:Zo)(k:Nat)(v:Zg)(ns:List Int):Prop:=∃a l,v=.ref a/\a∉wrs/\a≠C/\IsTup h a (ivl l).toArray/\l.map (·.1)=ns/\l.length=k
theorem Jp1.keeps {h h':Zau}(t:Jp1 h wrs C k v ns)(q:∀a o,a∉wrs->a≠C->h.get? a=Za o->h'.get? a=Za o):Jp1 h' wrs C k v ns:=by
 obtain⟨a,l,e,n1,n2,⟨o,ho,r⟩,e2,e3⟩:=t
 exact⟨a,l,e,n1,n2,⟨o,q a o n1 n2 ho,r⟩,e2,e3⟩
section
variable {pr:ZB}{wd:Zab}{B:ZK}{R:Zd2->Zn->Prop}{it:Zo}{fps wrs:List Zo}{n:Nat}{St:Nat->Zau->Prop}
end
section
variable {pr:ZB}{wd:Zab}{B:ZK}{E:QvT}{z:Zn}{l:Zo}{us:List Zg}{k:Nat}{f:Nat->List Int}{Q:QvT}
end
section
variable {ce:CeT}{X:Cx}
end
end L3
namespace L3
open PySem PySem.Spec PyProof.Rows L2 PySem.W
def Jy {α:Type}(lt:Nat->Nat->Bool):KasT α->α
 | .ret a=>a
 | .ask i j k=>Jy lt (k (lt i j))
def Asks {α:Type}(n:Nat)(P:α->Prop):KasT α->Prop
 | .ret a=>P a
 | .ask i j k=>i<n/\j<n/\∀b,Asks n P (k b)
theorem Asks.mono {α:Type}{n:Nat}{P P':α->Prop}(f:∀a,P a->P' a):∀{t:KasT α},Asks n P t->Asks n P' t
 | .ret _,h=>f _ h
 | .ask _ _ _,⟨h1,h2,h3⟩=>⟨h1,h2,λ b=>Asks.mono f (h3 b)⟩
theorem Asks.bind {α β:Type}{n:Nat}{P:α->Prop}{P':β->Prop}{f:α->KasT β}(hf:∀a,P a->Asks n P' (f a)):∀{t:KasT α},Asks n P t->Asks n P' (t.bind f)
 | .ret _,h=>hf _ h
 | .ask _ _ _,⟨h1,h2,h3⟩=>⟨h1,h2,λ b=>Asks.bind hf (h3 b)⟩
theorem Asks.run:∀{t:KasT α},Asks n P t->P (Jy lt t)
 | .ret _,h=>h
 | .ask i j k,⟨_,_,h⟩=>Asks.run (t:=k (lt i j)) (h (lt i j))
theorem Asks.wp {α:Type}{P:α->Prop}{Q:α->Zn->Prop}(hc:∀i j,i<n->j<n->∀C:Bool->Zn->Prop,C (lt i j) s->cmp i j C s) :
  ∀{t:KasT α},Asks n P t->Q (Jy lt t) s->t.kasWp cmp Q s
 | .ret _,_,q=>q
 | .ask i j k,⟨h1,h2,h3⟩,q=>hc i j h1 h2 _ (Asks.wp (t:=k (lt i j)) hc (h3 (lt i j)) q)
def Bd (n:Nat)(p:Array Nat):Prop:=0<n/\p.toList.Perm (ZT n)
theorem Bd.at (h:Bd n p)(i:Nat):p.getD i 0<n:=by
 by_cases hi:i<p.size
 ·rw[ZaW,Zde hi]
  have:p[i]∈p.toList:=03
  exact ZaO.mp (h.2.mem_iff.mp this)
 ·rw[ZaW,Array.getElem?_eq_none 00]
  exact h.1
theorem Jiy {n:Nat}{p:Array Nat}(h:Bd n p):∀f m,Asks n (λ _=>True) (ZbM p f m)
 | 0,_=>trivial
 | f+1,m=>⟨h.at _,h.at _,λ b=>by
   dsimp only
   split
   ·trivial
   ·exact Jiy h f _⟩
theorem Je8 {n:Nat}{p:Array Nat}(h:Bd n p)(k:Nat):∀f l r,Asks n (λ _=>True) (ZcV p k f l r)
 | 0,_,_=>trivial
 | f+1,l,r=>by
  unfold ZcV
  split
  ·trivial
  ·exact⟨h.at _,h.at _,λ b=>by
    dsimp only
    split
    ·exact Je8 h k f _ _
    ·exact Je8 h k f _ _⟩
theorem Bd.perm {p q:Array Nat}(h:Bd n p)(r:q.Perm p):Bd n q:=⟨h.1,(Array.perm_iff_toList_perm.mp r).trans h.2⟩
theorem Bd.rev (h:Bd n p)(i j:Nat):Bd n (ZbB p i j):=h.perm (mirror_perm _ _ _ _)
theorem Jdv:∀f (p:Array Nat) m q,Bd n p->Asks n (λ r=>Bd n r.1) (ZcL f p m q)
 | 0,_,_,_,h=>h
 | f+1,p,m,q,h=>⟨h.at _,h.at _,λ b=>by
   dsimp only
   split
   ·split
    ·exact Jdv f _ _ _ (h.rev _ _)
    ·exact Jdv f _ _ _ h
   ·exact⟨h.at _,h.at _,λ d=>by
     dsimp only
     split
     ·exact h
     ·exact Jdv f _ _ _ h⟩⟩
theorem Jii {n:Nat}{p:Array Nat}(h:Bd n p)(m r:Nat):Asks n (λ r=>Bd n r.2) (ZdY m r p):=by
 unfold ZdY
 refine Asks.bind (P:=λ _=>True) (λ x _=>?_) (Jiy (h.rev _ _) _ _)
 exact h.rev _ _
theorem Jdw {n:Nat}{p:Array Nat}(h:Bd n p)(m r:Nat):Asks n (λ r=>Bd n r.2) (Zc7 m r p) :=
 Asks.bind (λ x hx=>by
  split
  ·exact Jii (hx.rev _ _) _ _
  ·exact Jii hx _ _) (Jdv _ _ _ _ h)
theorem Jor {n:Nat}{p:Array Nat}(h:Bd n p)(r:Nat):Asks n (λ r=>Bd n r.2) (Zdu r p) :=
 Asks.bind (λ m _=>by
  split
  ·exact h
  ·split
   ·exact⟨h.at _,h.at _,λ b=>by
     dsimp only
     split
     ·exact h
     ·exact Jdw (h.rev _ _) _ _⟩
   ·exact Jdw h _ _) (Jiy h _ _)
theorem Jm7 {n:Nat}:∀f (p:Array Nat) k,Bd n p->Asks n (Bd n) (kas_bin f p k)
 | 0,_,_,h=>h
 | f+1,p,k,h=>Asks.bind (λ l _=>Jm7 f _ _ (h.perm (bubble_perm _ _ _))) (Je8 h k _ _ _)
theorem Jgq {n:Nat}(hn:0<n):Asks n (Bd n) (ZbN n) :=
 Asks.bind (λ r hr=>by
  split
  ·exact Jm7 _ _ _ hr
  ·exact hr) (Jor ⟨hn,List.Perm.refl _⟩ n)
section
variable {prog:ZB}{w:Zab}{A:ZK}{E:QvT}{s:Zn}{b:Bool}{Q:Bool->Zn->Prop}
end
theorem Ju6 (vs:List Zg)(h:vs.length<2):(Jy lt (ZbN vs.length)).toList.map (λ i=>vs.getD i ZaD)=vs:=by
 match vs,h with
 | [],_=>simp[ZbN,Zdu,ZbM,KasT.bind,Zc7,ZcL,ZdY,Jy,ZbB,mirror,Array.swapIfInBounds]
 | [v],_ =>
  have:=(Jgq (n:=1) 01).run (lt:=lt)
  have e:(Jy lt (ZbN 1)).toList=[0]:=List.perm_singleton.mp this.2
  show(Jy lt (ZbN 1)).toList.map _=_
  rw[e]
  rfl
 | _::_::_,h=>simp at h;omega
section
variable {prog:ZB}{w:Zab}{A:ZK}{E:QvT}{s:Zn}
end
theorem Jl4 (r:Vals vs us):∀p:List Nat,(∀i∈p,i<vs.length)->Vals (p.map λ i=>vs.getD i .non) (p.map λ i=>us.getD i ZaD)
 | [],_=>.nil
 | i::p,h=>by
  have hi:=h i (Zx ..)
  obtain⟨u,eu,ru⟩:=r.get (Zb hi)
  refine .cons ?_ (Jl4 r p λ j hj=>h j (Zl _ hj))
  show L2.RelV (vs.getD i .non) (us.getD i ZaD)
  rw[Ze,Ze,Zb hi,eu]
  exact ru
theorem Jny {K:W.Frag}{ι:List Zo}{H:Hp}{xs:List IV}{vs:List V}(r:RVs K ι H xs vs):∀p:List Nat,(∀i∈p,i<xs.length)->RVs K ι H (p.map λ i=>xs.getD i .non) (p.map λ i=>vs.getD i .non)
 | [],_=>rfl
 | i::p,h=>by
  have hi:=h i (Zx ..)
  obtain⟨v,ev,rv⟩:=r.get (Zb hi)
  refine⟨_,_,rfl,?_,Jny r p λ j hj=>h j (Zl _ hj)⟩
  show RV K ι H (xs.getD i .non) (vs.getD i .non)
  rw[Ze,Ze,Zb hi,ev]
  exact rv
section
variable {ce:CeT}{X:Cx}
end
theorem Xx {α β:Type}{lt:Nat->Nat->Bool}{f:α->KasT β}:∀(t:KasT α),Jy lt (t.bind f)=Jy lt (f (Jy lt t))
 | .ret _=>rfl
 | .ask i j k=>Xx (k (lt i j))
section
variable {kf:Nat->Int}{p:Array Nat}{n i j:Nat}
abbrev ltF (kf:Nat->Int)(i j:Nat):Bool:=decide (kf i<kf j)
def kAt (kf:Nat->Int)(p:Array Nat)(i:Nat):Int:=kf (p.getD i 0)
def Ris (kf:Nat->Int)(p:Array Nat)(n:Nat):Prop:=∀i j,i<=j->j<n->kAt kf p i<=kAt kf p j
def Fal (kf:Nat->Int)(p:Array Nat)(n:Nat):Prop:=∀i j,i<=j->j<n->kAt kf p j<=kAt kf p i
theorem Yn (h:p[i]?=q[j]?):kAt kf p i=kAt kf q j:=by
 unfold kAt
 rw[ZaW,ZaW,h]
theorem Jmi (hj:j<=p.size)(m:Nat):kAt kf (ZbB p i j) m=if i<=m/\m<j then kAt kf p (i+j-1-m) else kAt kf p m:=by
 have e:=getElem?_mirror_all (i:=i) hj m
 split at e
 ·rename_i c;rw[if_pos c];exact Yn e
 ·rename_i c;rw[if_neg c];exact Yn e
theorem Jrk (hs:k<p.size)(hd:d<=k)(m:Nat):kAt kf (bubble p k d) m=if m=k-d then kAt kf p k else if k-d<m/\m<=k then kAt kf p (m-1) else kAt kf p m:=by
 have e:=getElem?_bubble hs d hd m
 split at e
 ·rename_i c;rw[if_pos c];exact Yn e
 ·rename_i c
  rw[if_neg c]
  split at e
  ·rename_i c;rw[if_pos c];exact Yn e
  ·rename_i c;rw[if_neg c];exact Yn e
theorem Jff (hj:j<=p.size)(h:∀m,i<=m->m<j->kAt kf p m=kAt kf p (j-1))(m:Nat):kAt kf (ZbB p i j) m=kAt kf p m:=by
 rw[Jmi hj]
 split
 ·rw[h _ 00 00,h m 00 00]
 ·rfl
theorem Ris.succ (h:Ris kf p n)(h1:1<=n)(q:kAt kf p (n-1)<=kAt kf p n):Ris kf p (n+1):=λ i j hij hj=>by
 by_cases e:j<n
 ·exact h i j hij e
 ·obtain rfl:j=n:=00
  by_cases e2:i=j
  ·subst e2;exact ZG _
  ·exact Zcd (h i (j-1) 00 00) q
theorem Fal.succ (h:Fal kf p n)(h1:1<=n)(q:kAt kf p n<=kAt kf p (n-1)):Fal kf p (n+1):=λ i j hij hj=>by
 by_cases e:j<n
 ·exact h i j hij e
 ·obtain rfl:j=n:=00
  by_cases e2:i=j
  ·subst e2;exact ZG _
  ·exact Zcd q (h i (j-1) 00 00)
theorem Jmr:∀(f n:Nat),1<=n->Ris kf p n->n<=Jy (ltF kf) (ZbM p f n)/\Jy (ltF kf) (ZbM p f n)<=n+f/\Ris kf p (Jy (ltF kf) (ZbM p f n))/\(Jy (ltF kf) (ZbM p f n)=n+f∨kAt kf p (Jy (ltF kf) (ZbM p f n))<kAt kf p (Jy (ltF kf) (ZbM p f n)-1))
 | 0,n,_,h=>⟨Zp _,Zp _,h,.inl rfl⟩
 | f+1,n,h1,h=>by
  show n<=Jy (ltF kf) (if decide (kAt kf p n<kAt kf p (n-1))=Zi then .ret n else ZbM p f (n+1))/\_
  have e:Jy (ltF kf) (ZbM p (f+1) n)=Jy (ltF kf) (if decide (kAt kf p n<kAt kf p (n-1))=Zi then .ret n else ZbM p f (n+1)):=rfl
  rw[e]
  split
  ·rename_i c
   exact⟨Zp _,by show n<=_;omega,h,.inr (of_decide_eq_true c)⟩
  ·rename_i c
   have c:¬kAt kf p n<kAt kf p (n-1):=by simpa using c
   obtain⟨a,b,d,g⟩:=Jmr f (n+1) 00 (h.succ h1 00)
   exact⟨00,00,d,g.imp (λ z=>00) id⟩
structure Dn (kf:Nat->Int)(p:Array Nat)(n q:Nat):Prop where
 f:Fal kf p n
 q1:q+1<=n
 e:∀m,n-(q+1)<=m->m<n->kAt kf p m=kAt kf p (n-1)
theorem Jgd:∀(f:Nat)(p:Array Nat)(n q:Nat),p.size=z->n+f<=z->Dn kf p n q->∀r,Jy (ltF kf) (ZcL f p n q)=r->r.1.size=z/\n<=r.2.1/\r.2.1<=n+f/\Dn kf r.1 r.2.1 r.2.2
 | 0,p,n,q,hz,hf,d,r,e=>by subst e;exact⟨hz,Zp _,Zp _,d⟩
 | f+1,p,n,q,hz,hf,d,r,e=>by
  have dq:=d.q1
  have e':Jy (ltF kf) (if decide (kAt kf p n<kAt kf p (n-1))=Zi then(if q>0 then ZcL f (ZbB p (n-(q+1)) n) (n+1) 0 else ZcL f p (n+1) 0)
   else .ask (p.getD (n-1) 0) (p.getD n 0) λ d=>if d=Zi then .ret (p,n,q) else ZcL f p (n+1) (q+1))=r:=e
  split at e'
  ·rename_i c
   have c:kAt kf p n<kAt kf p (n-1):=by simpa using c
   split at e'
   ·have same:=λ m=>Jff (kf:=kf) (i:=n-(q+1)) (j:=n) (p:=p) 00 d.e m
    have d2:Dn kf (ZbB p (n-(q+1)) n) (n+1) 0:=by
     refine⟨λ i j hij hj=>?_,00,λ m h1 h2=>by rw[show m=n+1-1 by omega]⟩
     rw[same,same]
     exact d.f.succ 00 00 i j hij hj
    obtain⟨a1,a2,a3,a4⟩:=Jgd f _ (n+1) 0 ((ZcM _ _ _ _).trans hz) 00 d2 r e'
    exact⟨a1,00,00,a4⟩
   ·have d2:Dn kf p (n+1) 0:=⟨d.f.succ 00 00,00,λ m h1 h2=>by rw[show m=n+1-1 by omega]⟩
    obtain⟨a1,a2,a3,a4⟩:=Jgd f _ (n+1) 0 hz 00 d2 r e'
    exact⟨a1,00,00,a4⟩
  ·rename_i c
   have c:¬kAt kf p n<kAt kf p (n-1):=by simpa using c
   have e'':Jy (ltF kf) (if decide (kAt kf p (n-1)<kAt kf p n)=Zi then .ret (p,n,q) else ZcL f p (n+1) (q+1))=r:=e'
   split at e''
   ·subst e''
    exact⟨hz,Zp _,by show n<=_;omega,d⟩
   ·rename_i c2
    have c2:¬kAt kf p (n-1)<kAt kf p n:=by simpa using c2
    have d2:Dn kf p (n+1) (q+1):=by
     refine⟨d.f.succ 00 00,00,λ m h1 h2=>?_⟩
     by_cases em:m=n
     ·subst em;rfl
     ·rw[d.e m 00 00]
      show _=kAt kf p n
      omega
    obtain⟨a1,a2,a3,a4⟩:=Jgd f _ (n+1) (q+1) hz 00 d2 r e''
    exact⟨a1,00,00,a4⟩
theorem Jli {m r:Nat}(h1:1<=m)(hm:m<=r)(hr:r<=p.size)(h:Fal kf p m):∀x,Jy (ltF kf) (ZdY m r p)=x->x.2.size=p.size/\1<=x.1/\x.1<=r/\Ris kf x.2 x.1:=by
 intro x e
 have e:Jy (ltF kf) ((ZbM (ZbB p 0 m) (r-m) m).bind λ k=>.ret (k,ZbB p 0 m))=x:=e
 rw[Xx] at e
 have rs:Ris kf (ZbB p 0 m) m:=λ i j hij hj=>by
  rw[Jmi 00,Jmi 00,if_pos 00,if_pos 00]
  exact h _ _ 00 00
 obtain⟨a,b,c,_⟩:=Jmr (r-m) m h1 rs
 subst e
 exact⟨ZcM _ _ _ _,by show 1<=Jy (ltF kf) (ZbM (ZbB p 0 m) (r-m) m);omega,by show Jy (ltF kf) (ZbM (ZbB p 0 m) (r-m) m)<=r;omega,c⟩
theorem Jft {m r:Nat}(hm:m+1<=r)(hr:r<=p.size)(h:Fal kf p (m+1)):∀x,Jy (ltF kf) (Zc7 m r p)=x->x.2.size=p.size/\1<=x.1/\x.1<=r/\Ris kf x.2 x.1:=by
 intro x e
 unfold Zc7 at e
 rw[Xx] at e
 obtain⟨a1,a2,a3,a4⟩:=Jgd (z:=p.size) (r-(m+1)) p (m+1) 0 rfl 00 ⟨h,00,λ k h1 h2=>by rw[show k=m+1-1 by omega]⟩ _ rfl
 generalize Jy (ltF kf) (ZcL (r-(m+1)) p (m+1) 0)=y at a1 a2 a3 a4 e
 have q1:=a4.q1
 split at e
 ·have same:=λ k=>Jff (kf:=kf) (i:=y.2.1-(y.2.2+1)) (j:=y.2.1) (p:=y.1) 00 a4.e k
  have:=Jli (m:=y.2.1) (r:=r) (p:=ZbB y.1 (y.2.1-(y.2.2+1)) y.2.1) 00 00 (by show r<=(mirror _ _ _ _).size;rw[ZcM];omega) (λ i j hij hj=>by rw[same,same];exact a4.f i j hij hj) x e
  rw[show(ZbB y.1 (y.2.1-(y.2.2+1)) y.2.1).size=y.1.size from ZcM _ _ _ _,a1] at this
  exact this
 ·have:=Jli (m:=y.2.1) (r:=r) (p:=y.1) 00 00 00 a4.f x e
  rw[a1] at this
  exact this
theorem Jsa {r:Nat}(h1:1<=r)(hr:r<=p.size):∀x,Jy (ltF kf) (Zdu r p)=x->x.2.size=p.size/\1<=x.1/\x.1<=r/\Ris kf x.2 x.1:=by
 intro x e
 unfold Zdu at e
 rw[Xx] at e
 obtain⟨a,b,c,d⟩:=Jmr (kf:=kf) (p:=p) (r-1) 1 (Zp _) (λ i j hij hj=>by
  obtain rfl:j=0:=00
  obtain rfl:i=0:=00
  exact ZG _)
 generalize Jy (ltF kf) (ZbM p (r-1) 1)=n at a b c d e
 split at e
 ·subst e;exact⟨rfl,a,by show n<=r;omega,c⟩
 ·rename_i hn
  have hn:n≠r:=by simpa using hn
  have dn:kAt kf p n<kAt kf p (n-1):=d.resolve_left 00
  split at e
  ·have e':Jy (ltF kf) (if decide (kAt kf p 0<kAt kf p (n-1))=Zi then .ret (n,p) else Zc7 n r (ZbB p 0 n))=x:=e
   split at e'
   ·subst e';exact⟨rfl,a,by show n<=r;omega,c⟩
   ·rename_i cc
    have cc:¬kAt kf p 0<kAt kf p (n-1):=by simpa using cc
    have al:∀m,0<=m->m<n->kAt kf p m=kAt kf p (n-1):=λ m _ hm=>by
     have:=c 0 m 00 hm
     have:=c m (n-1) 00 00
     omega
    have same:=λ k=>Jff (kf:=kf) (i:=0) (j:=n) (p:=p) 00 al k
    have:=Jft (m:=n) (r:=r) (p:=ZbB p 0 n) 00 (by show r<=(mirror _ _ _ _).size;rw[ZcM];omega) (λ i j hij hj=>by
     rw[same,same]
     by_cases ej:j<n
     ·rw[al i 00 00,al j 00 ej];exact ZG _
     ·obtain rfl:j=n:=00
      by_cases ei:i=j
      ·subst ei;exact ZG _
      ·rw[al i 00 00];omega) x e'
    rw[show(ZbB p 0 n).size=p.size from ZcM _ _ _ _] at this
    exact this
  ·obtain rfl:n=1:=00
   refine Jft (m:=1) (r:=r) (p:=p) 00 hr (λ i j hij hj=>?_) x e
   have dn:kAt kf p 1<kAt kf p 0:=dn
   match i,j with
   | 0,0=>exact ZG _
   | 0,1=>omega
   | 1,1=>exact ZG _
   | _,j+2=>omega
   | i+2,_=>omega
   | 1,0=>omega
theorem Jhj (h:Ris kf p k):∀(f l r:Nat),r<=k->l<=r->r-l<=f->(∀i,i<l->kAt kf p i<=kAt kf p k)->(∀i,r<=i->i<k->kAt kf p k<kAt kf p i)->∀x,Jy (ltF kf) (ZcV p k f l r)=x->x<=k/\(∀i,i<x->kAt kf p i<=kAt kf p k)/\∀i,x<=i->i<k->kAt kf p k<kAt kf p i
 | 0,l,r,hr,hl,hf,h1,h2,x,e=>by
  obtain rfl:l=r:=00
  subst e
  exact⟨hr,h1,h2⟩
 | f+1,l,r,hr,hl,hf,h1,h2,x,e=>by
  unfold ZcV at e
  split at e
  ·obtain rfl:l=r:=00
   subst e
   exact⟨hr,h1,h2⟩
  ·have e':Jy (ltF kf) (if decide (kAt kf p k<kAt kf p ((l+r)/2))=Zi then ZcV p k f l ((l+r)/2) else ZcV p k f ((l+r)/2+1) r)=x:=e
   split at e'
   ·rename_i c
    have c:kAt kf p k<kAt kf p ((l+r)/2):=by simpa using c
    exact Jhj h f _ _ 00 00 00 h1 (λ i a b=>Int.lt_of_lt_of_le c (h _ _ a b)) x e'
   ·rename_i c
    have c:¬kAt kf p k<kAt kf p ((l+r)/2):=by simpa using c
    exact Jhj h f _ _ hr 00 00 (λ i a=>Zcd (h i _ (show i<=(l+r)/2 by omega) 00) 00) h2 x e'
theorem Jr9:∀(f:Nat)(p:Array Nat)(k:Nat),k+f<=p.size->Ris kf p k->∀x,Jy (ltF kf) (kas_bin f p k)=x->Ris kf x (k+f)
 | 0,p,k,_,h,x,e=>by subst e;exact h
 | f+1,p,k,hk,h,x,e=>by
  unfold kas_bin at e
  rw[Xx] at e
  obtain⟨a,b,c⟩:=Jhj h k 0 k (Zp _) (Zac _) (Zp _) (λ i q=>00) (λ i q r=>00) _ rfl
  generalize Jy (ltF kf) (ZcV p k k 0 k)=l at a b c e
  have:=Jr9 f (bubble p k (k-l)) (k+1) (by rw[bubble_size];omega) (λ i j hij hj=>by
   have ed:k-(k-l)=l:=00
   rw[Jrk 00 00,Jrk 00 00,ed]
   split
   ·rename_i ei
    split
    ·exact ZG _
    ·split
     ·exact Int.le_of_lt (c _ 00 00)
     ·omega
   ·split
    ·rename_i n1 y
     split
     ·omega
     ·split
      ·exact h _ _ 00 00
      ·omega
    ·split
     ·exact b i 00
     ·split
      ·exact h _ _ 00 00
      ·exact h _ _ hij 00) x e
  rwa [show k+(f+1)=k+1+f by omega]
theorem Jur {n:Nat}(hn:0<n):Ris kf (Jy (ltF kf) (ZbN n)) n:=by
 unfold ZbN
 rw[Xx]
 have hz:(ZaS (ZT n)).size=n:=03
 obtain⟨a,b,c,d⟩:=Jsa (kf:=kf) (p:=ZaS (ZT n)) (r:=n) 00 (by rw[hz];exact Zp _) _ rfl
 generalize Jy (ltF kf) (Zdu n (ZaS (ZT n)))=y at a b c d
 rw[hz] at a
 split
 ·have em:max y.1 1=y.1:=00
  rw[em]
  have:=Jr9 (kf:=kf) (n-y.1) y.2 y.1 00 d _ rfl
  rwa [show y.1+(n-y.1)=n by omega] at this
 ·obtain e:y.1=n:=00
  rw[<- e]
  exact d
end
def ordK (ks:List Int)(n:Nat):List Nat:=(Jy (ltF λ i=>ks.getD i 0) (ZbN n)).toList
theorem Jhi (ks:List Int)(hn:0<n):(ordK ks n).Perm (ZT n):=((Jgq hn).run (lt:=ltF λ i=>ks.getD i 0)).2
theorem Jga (ks:List Int):ordK ks 0=[]:=by simp[ordK,ZbN,Zdu,ZbM,KasT.bind,Zc7,ZcL,ZdY,Jy,ZbB,mirror,Array.swapIfInBounds]
theorem Yx (ks:List Int):∀i∈ordK ks n,i<n:=by
 intro i hi
 rcases Zda n with e|e
 ·subst e
  rw[Jga] at hi
  cases hi
 ·exact ZaO.mp ((Jhi ks e).mem_iff.mp hi)
theorem Jnr (ks:List Int)(n:Nat):(ordK ks n).length=n:=by
 rcases Zda n with e|e
 ·subst e
  rw[Jga]
  rfl
 ·rw[(Jhi ks e).length_eq,ZbT]
theorem Jun (ks:List Int)(n:Nat):(ordK ks n).Pairwise λ i j=>ks.getD i 0<=ks.getD j 0:=by
 rcases Zda n with e|e
 ·subst e
  rw[Jga]
  exact .nil
 ·have r:=Jur (kf:=λ i=>ks.getD i 0) e
  have l:=Jnr ks n
  rw[Zcf]
  intro i j hi hj hij
  have:=r i j 00 00
  have g:∀(m:Nat)(hm:m<(ordK ks n).length),(Jy (ltF λ i=>ks.getD i 0) (ZbN n)).getD m 0=(ordK ks n)[m]:=λ m hm=>by
   have hm':m<(Jy (ltF λ i=>ks.getD i 0) (ZbN n)).size:=by rw[<- Zbd];exact hm
   rw[ZaW,Zde hm']
   rfl
  unfold kAt at this
  rw[g i hi,g j hj] at this
  exact this
theorem Jrd {X:Cx}{pj:PnT}{σ:L2.St}{H:Hp}{s:Zn}{h':Zau}{t':Nat}{it:Zo}{o:HO}(I:Inv X pj σ H s)(k:∀b u,b≠it->s.heap.get? b=Za u->h'.get? b=Za u)(F:FpOk X pj H it)(new:JM X.prog X.w (upd H it o) h' it o) :
  Inv X pj σ (upd H it o) { s with heap:=h',toks:=t' }:=by
 obtain⟨hn,hL,_,h1,h2,h3⟩:=F
 have nit:∀b u,H b=Za u->b≠it:=λ b u e z=>by rw[z,hn] at e;cases e
 refine I.step (g':=s.gens) (d':=s.drawn) (ch:=[it]) (λ b hb=>?_) (λ b o _ _ hc e _=>k b o (λ z=>hc (by simp[z])) e) (λ b o _ _ hc e _=>⟨o.slots,k b o (λ z=>hc (by simp[z])) e⟩) (λ b o hc _ n=>by rw[Jx (λ z=>hc (by simp[z]))];exact n)
  (λ b o hc e=>⟨o,k b o (λ z=>hc (by simp[z])) e⟩) (λ b _ e=>by rw[Jx (nit b _ e)];exact e) (λ b _ _ e=>by rw[Jx (nit b _ e)];exact e) (λ b ps e=>⟨#[],by rw[Jx (nit b _ e),e];simp⟩) (λ m hm=>?_) (λ b u e=>?_) I.bare
 ·have e:b=it:=by simpa using hb
  subst e
  exact⟨h1,hL,h2,h3⟩
 ·obtain⟨o,es,ep,ho,r⟩:=hm
  exact⟨o,es,ep,k _ o (ZR hL) ho,r⟩
 ·by_cases hb:b=it
  ·subst hb
   rw[JE] at e
   cases e
   exact new
  ·rw[Jx hb] at e
   refine(I.hok b u e).stay (λ c v hc q=>k c v ?_ q) (λ c q=>by rw[Jx (nit c _ q)];exact q) λ c _ q=>by rw[Jx (nit c _ q)];exact q
   rcases hc with z|z
   ·rw[z];exact hb
   ·exact nit c _ z
def QP (mk:IV->IH->Res IV):List IV->List Int->IH->Res (List Int)
 | [],ks,h=>.ok ks h
 | y::r,ks,h=>(mk y h).nx.bind λ k h'=>match k with
  | .int n=>QP mk r (ks++[n]) h'
  | _=>.stuck
def rvB {α:Type}(b:Bool)(l:List α):List α:=if b then l.reverse else l
theorem Va {α:Type}{b:Bool}{l:List α}:(rvB b l).length=l.length:=by cases b;rfl;exact Zcj
def Y2 (b:Bool)(ys:List IV)(ks:List Int)(h:IH):Res IV:=.ok (.ref h.length) (h++[.lst (rvB b ((ordK ks ys.length).map λ i=>ys.getD i .non))])
def XG (b:Bool)(ys:List IV)(ks:List Int)(h:IH):Res IV:=Y2 b (rvB b ys) (rvB b ks) h
theorem RVs.rvB {K:W.Frag}{ι:List Zo}{H:Hp}{b:Bool}{xs:List IV}{vs:List V}(h:RVs K ι H xs vs):RVs K ι H (L3.rvB b xs) (L3.rvB b vs):=by cases b;exact h;exact h.rev
theorem Joa {b:Bool}{ws:List V}{its:List Zg}(h:Vals ws its):Vals (rvB b ws) (rvB b its):=by
 cases b
 ·exact h
 ·exact h.reverse
section
variable {ce:CeT}{X:Cx}
section
variable {A:ZK}{Q:QvT}{E:QvT}{P:PySem.Fin->Zn->Prop}{pj:PnT}{σi:ISt}{σ:L2.St}{G:Hp->Prop}{fq D kS:Zo}{mk:IV->IH->Res IV}{ys:List IV}{ws:List V}{its:List Zg}{ks:List Int}{e e1:Nat}{H:Hp}{ι:List Zo}{h:IH}{s:Zn}
theorem Jn3 {b:Bool}{kA:Array Zg}{st:SortSt}(N:Now ce X pj ι σi h σ H s)(fD:FpOk X pj H D)(fK:FpOk X pj H kS)(hDK:D≠kS)(gD:s.heap.get? D=Za (Zae "list" #[] e1))(gK:s.heap.get? kS=Za (Zae "list" kA e))(hz:kA.size<64)
  (rv:Vals ws its)(r3:RVs X.K ι H ys ws)(h64:ys.length<64)(hout:(arrOf st).map (·.2)=ZaS ((ordK ks ys.length).map λ i=>its.getD i ZaD))(hf:failedOf st=Zc)(hP:∀s',Q (.ref D) s'->P (.done (.ret .none)) s')(K:Kont ce X RU pj ι σi σ H (Y2 b ys ks h) Q E) :
  Zy (Z8 X.prog X.w) A (ksk_tail D b e1 (.ref kS) st) P E s:=by
 have lo:=Jnr ks ys.length
 have lt:=Yx ks (n:=ys.length)
 have l1:=r3.length
 have l2:=rv.length
 have s1:∀b u,b≠kS->s.heap.get? b=Za u->(s.heap.update kS (Zad λ _=>(#[]:Array Zg))).get? b=Za u:=λ b u nb q=>(Z2 _ _ (ZR nb)).trans q
 have gD1:=s1 D _ hDK gD
 have N1:=N.turned (h':=s.heap.update kS (Zad λ _=>(#[]:Array Zg))) (t':=s.toks) fK s1
 have hsz:(ZaS (rvB b ((ordK ks ys.length).map λ i=>its.getD i ZaD))).size=ys.length:=by rw[Zs,Va,Zm,lo]
 have hrv:(if b=Zi then(ZaS ((ordK ks ys.length).map λ i=>its.getD i ZaD)).reverse else ZaS ((ordK ks ys.length).map λ i=>its.getD i ZaD))=ZaS (rvB b ((ordK ks ys.length).map λ i=>its.getD i ZaD)):=by cases b<;>simp[rvB]
 unfold ksk_tail
 try dsimp only
 rw[hout,hrv]
 refine Zd (Zdk gK rfl ?_ (by rw[Zbn];omega) (Zac _))
 refine Zd (Za8 ?_)
 refine Zd (seqEpoch_at gD1 rfl ?_)
 refine Zd (Zdk gD1 rfl ?_ (Zac _) (by rw[hsz,Zbn];omega))
 rw[hf]
 simp only[bne_self_eq_false,ZX,if_false]
 refine Zw (hP _ ?_)
 obtain⟨c2,hc2⟩:∃c2,((s.heap.update kS (Zad λ _=>(#[]:Array Zg))).update D (Zad λ _=>ZaS (rvB b ((ordK ks ys.length).map λ i=>its.getD i ZaD)))).get? D=Za (Zae "list" (ZaS (rvB b ((ordK ks ys.length).map λ i=>its.getD i ZaD))) c2):=⟨_,Zb2 gD1 λ _=>ZaS (rvB b ((ordK ks ys.length).map λ i=>its.getD i ZaD))⟩
 have hl:(rvB b ((ordK ks ys.length).map λ i=>ws.getD i V.non)).length<=sizeLine:=by rw[Va,Zm,lo,Zbn];omega
 have I':=Jrd N1.inv (o:=.lst (rvB b ((ordK ks ys.length).map λ i=>ws.getD i V.non))) (h':=(s.heap.update kS (Zad λ _=>(#[]:Array Zg))).update D (Zad λ _=>ZaS (rvB b ((ordK ks ys.length).map λ i=>its.getD i ZaD)))) (t':=s.toks) (λ b u nb q=>(Z2 _ _ (ZR nb)).trans q) fD
  ⟨hl,rvB b ((ordK ks ys.length).map λ i=>its.getD i ZaD),c2,Joa (Jl4 rv _ (λ i hi=>by have:=lt i hi;omega)),hc2⟩
 exact finA N1 K D fD.1 ⟨_,JE,RVs.new fD.1 (Jny r3 _ lt).rvB⟩ _ _ I' rfl
theorem Jut {b:Bool}{us:List Zg}{ns:List Int}(h:ZbA us ns):ZbA (rvB b us) (rvB b ns):=by
 cases b
 ·exact h
 ·exact h.reverse
theorem Jzg {b:Bool}{kA:Array Zg}{its:List Zg}(h:kA.size=its.length):(if b=Zi then(kA.zip its.toArray).reverse else kA.zip its.toArray)=(rvB b kA.toList).toArray.zip (rvB b its).toArray:=by
 cases b with
 | false=>simp[rvB]
 | true =>
  apply Array.toList_inj.mp
  simp only[rvB,if_true,Array.toList_reverse,Array.toList_zip]
  exact List.reverse_zipWith (by simpa using h)
theorem Jyz {b:Bool}{kA:Array Zg}(N:Now ce X pj ι σi h σ H s)(fD:FpOk X pj H D)(fK:FpOk X pj H kS)(hDK:D≠kS)(gD:s.heap.get? D=Za (Zae "list" #[] e1))(gK:s.heap.get? kS=Za (Zae "list" kA e))(hk:ZbA kA.toList ks)(lk:ks.length=ys.length)
  (rv:Vals ws its)(r3:RVs X.K ι H ys ws)(h64:ys.length<64)(hP:∀s',Q (.ref D) s'->P (.done (.ret .none)) s')(K:Kont ce X RU pj ι σi σ H (XG b ys ks h) Q E) :
  Zy (Z8 X.prog X.w) A (ksk_end D b its.toArray e1 (.ref kS) kA) P E s:=by
 have l1:=r3.length
 have l2:=rv.length
 have l3:=hk.length
 have hz:kA.size=its.length:=by rw[<- Zbd];omega
 have step:∀t:Sem PySem.Fin,Zy (Z8 X.prog X.w) A t P E s->Zy (Z8 X.prog X.w) A (if b=Zi then(do let _<-rule "list.sort.reverse";t) else t) P E s:=by
  intro t ht
  split
  ·exact Zd (Zd8 ht)
  ·exact ht
 unfold ksk_end
 try dsimp only
 refine step _ ?_
 rw[Jzg hz]
 have rv':=Joa (b:=b) rv
 have r3':=r3.rvB (b:=b)
 have hk':=Jut (b:=b) hk
 have h64':(rvB b ys).length<64:=by rw[Va];exact h64
 have K:Kont ce X RU pj ι σi σ H (Y2 b (rvB b ys) (rvB b ks) h) Q E:=K
 have ly:(rvB b ys).length=(rvB b its).length:=by rw[Va,Va];omega
 have lk':(rvB b ks).length=(rvB b its).length:=by rw[Va,Va];omega
 have l4:(rvB b kA.toList).length=(rvB b its).length:=by rw[Va,Va,Zbd,hz]
 have z2:its.toArray.size=(rvB b its).length:=by rw[Va,Zs]
 by_cases h2:its.toArray.size<2
 ·rw[if_pos h2,if_pos h2]
  refine Zd (Zw ?_)
  rw[StateT.run_pure]
  refine Zd (Zw ?_)
  try dsimp only
  refine Jn3 N fD fK hDK gD gK 00 rv' r3' h64' ?_ rfl hP K
  generalize rvB b its=its at *
  generalize rvB b kA.toList=kl at *
  have e1:(arrOf (SortSt.mk' general' (kl.toArray.zip its.toArray) #[] 7 Zc)).map (·.2)=its.toArray:=by
   apply Array.toList_inj.mp
   show((kl.toArray.zip its.toArray).map (·.2)).toList=_
   rw[Array.toList_map,ksk_zip]
   exact List.map_snd_zip (by rw[List.toList_toArray];omega)
  rw[e1,ly]
  exact congrArg ZaS (Ju6 (lt:=ltF λ i=>(rvB b ks).getD i 0) its 00).symm
 ·rw[if_neg h2,if_neg h2]
  rw[Zs] at h2
  rw[ksk_kind hk 00]
  refine Zd (Zw ?_)
  have zk:kA.size<64:=00
  have n0:¬(rvB b its).length<2:=by rw[Va];exact h2
  generalize rvB b its=its at *
  generalize rvB b kA.toList=kl at *
  generalize rvB b ks=ks at *
  generalize rvB b ys=ys at *
  generalize rvB b ws=ws at *
  have sp:=Jgq (n:=its.length) 00
  refine Zd (Zaf (kat_run (ks:=kl) (vs:=its) (Q:=λ st' s'=>s'=s/\failedOf st'=Zc/\arrOf st'=(Jy (ltF λ i=>ks.getD i 0) (ZbN its.length)).map (kas_item (kl.toArray.zip its.toArray))) (G:=λ p s'=>s'=s/\p=Jy (ltF λ i=>ks.getD i 0) (ZbN its.length)) l4 00 00
   (λ p st' s' a1 a2 a3 a4=>⟨a4.1,a3,a4.2▸a2⟩) (Asks.wp (n:=its.length) (lt:=ltF λ i=>ks.getD i 0) (λ i j hi hj C hC=>?_) sp ⟨rfl,rfl⟩)) ?_ λ _ _ e=>e)
  ·unfold kas_ask
   obtain⟨t1,e1⟩:=hk'.get i _ (Zb (show i<ks.length by omega))
   obtain⟨t2,e2⟩:=hk'.get j _ (Zb (show j<ks.length by omega))
   rw[Ze,Ze,e1,e2]
   refine kat_lt_int ?_
   have hC:C (decide (ks.getD i 0<ks.getD j 0)) s:=hC
   rw[Ze,Ze,Zb (show i<ks.length by omega),Zb (show j<ks.length by omega)] at hC
   exact hC
  ·rintro⟨⟨⟩,st'⟩ s' ⟨rfl,hfl,har⟩
   try dsimp only
   refine Jn3 N fD fK hDK gD gK zk rv' r3' h64' ?_ hfl hP K
   rw[kat_snds (ks:=kl) (vs:=its) l4 har,ly]
   rfl
theorem Ju7 {b:Bool}(ko:Xn ce X A σi σ pj G (.ref fq) mk)(hG:∀H H',Ext H H'->G H->G H')(N:Now ce X pj ι σi h σ H s)(g:G H)(fD:FpOk X pj H D)(fK:FpOk X pj H kS)(hDK:D≠kS)(gD:s.heap.get? D=Za (Zae "list" #[] e1))(gK:s.heap.get? kS=Za (Zae "list" #[] 0))
  (rv:Vals ws its)(r3:RVs X.K ι H ys ws)(h64:ys.length<64)(hP:∀s',Q (.ref D) s'->P (.done (.ret .none)) s')(K:Kont ce X RU pj ι σi σ H ((QP mk ys [] h).bind (XG b ys)) Q E) :
  Zy (Z8 X.prog X.w) A (ksk_rest D (.ref fq) b its.toArray e1 (.ref kS)) P E s:=by
 have l1:=r3.length
 have l2:=rv.length
 unfold ksk_rest
 refine Zd (Zd8 ?_)
 rw[List.forIn_toArray]
 refine Zd (ksk_fold (λ j s'=>∃H' ι' h' ks kA e,Now ce X pj ι' σi h' σ H' s'/\G H'/\Nxt ι H ι' H'/\s'.heap.get? D=Za (Zae "list" #[] e1)/\s'.heap.get? kS=Za (Zae "list" kA e)/\ZbA kA.toList ks/\ks.length=j/\H' D=Zc/\H' kS=Zc/\Kont ce X RU pj ι' σi σ H' ((QP mk (ys.drop j) ks h').bind (XG b ys)) Q E) its 0 s
  ⟨H,ι,h,[],#[],0,N,g,.refl,gD,gK,.nil,rfl,fD.1,fK.1,K⟩ ?step ?done)
 case step =>
  rintro j x s' hx ⟨H',ι',h',ks,kA,e,N',g',n',gD',gK',hk,hlj,hD',hK',K'⟩
  simp only[Zer] at hlj K' ⊢
  have fD':=FpOk.at fD hD'
  have fK':=FpOk.at fK hK'
  obtain⟨xv,ex,rx⟩:=YA rv hx
  obtain⟨yv,eyv,qy⟩:=(r3.mono n').get' ex
  have hj:j<ys.length:=(Zq.mp eyv).1
  have ed:ys.drop j=yv::ys.drop (j+1):=by
   rw[ZaH hj,(Zq.mp eyv).2]
  rw[ed] at K'
  have K':Kont ce X RU pj ι' σi σ H' (((mk yv h').nx.bind λ k h''=>match k with|.int n=>QP mk (ys.drop (j+1)) (ks++[n]) h''|_=>.stuck).bind (XG b ys)) Q E:=K'
  rw[Res.bind_bind] at K'
  have hz:kA.size=j:=by rw[<- Zbd,hk.length,hlj]
  have N2:=(N'.pinO gK' fK' λ v z=>by cases z).pinO gD' (FpOk.more (p:=(kS,Zae "list" kA e)) fD' (ZR hDK)) λ v z=>by cases z
  rw[ZZ] at N2
  refine Zd (wpAny_attempt (nof (ko _ _ _ _ _ yv x _ N2 g' ⟨xv,rx,qy⟩ (Yu K' λ k h3 u s3 H3 ι3 N3 n3 ru K3=>?_))))
  have pK:=N3.inv.pin (kS,Zae "list" kA e) (Zj _ (Zj _ 03))
  have pD:=N3.inv.pin (D,Zae "list" #[] e1) (Zj _ (Zj _ 03))
  have N4:=N3.pins
  cases k with
  | int n =>
   obtain⟨v,rv',ev⟩:=ru
   have ev:v=.int n:=ev
   subst ev
   obtain⟨t,rfl⟩:=rv'
   try dsimp only
   refine Zd (Zdk pK.1 rfl ?_ (by rw[Zbn];omega) (Zak (Zc2 (Array.size_push ..)) (by rw[Zbn];omega)))
   obtain⟨c2,hc2⟩:∃c2,(s3.heap.update kS (Zad (·.push (.int n t)))).get? kS=Za (Zae "list" (kA.push (.int n t)) c2):=⟨_,Zb2 pK.1 (·.push (.int n t))⟩
   have s1:∀b u,b≠kS->s3.heap.get? b=Za u->(s3.heap.update kS (Zad (·.push (.int n t)))).get? b=Za u:=λ b u nb q=>(Z2 _ _ (ZR nb)).trans q
   have N5:=N4.turned (h':=s3.heap.update kS (Zad (·.push (.int n t)))) (t':=s3.toks) (FpOk.at fK pK.2.1) s1
   refine Zw ⟨rfl,H3,ι3,h3,ks++[n],kA.push (.int n t),c2,N5,hG _ _ n3.ext g',n'.trans n3,s1 D _ hDK pD.1,hc2,by rw[Array.toList_push];exact ksk_snoc hk,by simp[hlj],pD.2.1,pK.2.1,K3⟩
  | _=>exact Zf K3
 case done =>
  rintro s' ⟨H',ι',h',ks,kA,e,N',g',n',gD',gK',hk,hlj,hD',hK',K'⟩
  rw[Zer] at hlj K'
  rw[List.drop_of_length_le 00] at K'
  try dsimp only
  refine Zd (listItems_at gK' rfl ?_)
  exact Jyz N' (FpOk.at fD hD') (FpOk.at fK hK') hDK gD' gK' hk 00 rv (r3.mono n') h64 hP K'
theorem Jy0 {b:Bool}{kw:List (Str×Zg)}{B:ZK}{h2:Zau}{tk:Nat}(hkw:∀a,Zeq.«list.sort» ⟨[.ref a],kw⟩=ksk_tree a (.ref fq) b)(hak:∀a,Zd7 "list.sort" ⟨[a],kw⟩)(ko:Xn ce X B.in1 σi σ pj G (.ref fq) mk)(hG:∀H H',Ext H H'->G H->G H')(N:Now ce X pj ι σi h σ H s)(g:G H)
  (keep:∀b o,s.heap.get? b=Za o->h2.get? b=Za o)(le0:s.heap.objs.size<=h2.objs.size)(rv2:Vals ws its)(r3:RVs X.K ι H ys ws)(h64:ys.length<64)(hP:∀D s',Q (.ref D) s'->P (.done (.ret (.ref D))) s')
  (K:Kont ce X RU pj ι σi σ H ((QP mk ys [] h).bind (XG b ys)) Q E):Zy (Z8 X.prog X.w) B (do let l<-newList its;let _<-Zbp [l] (call (.builtin "list.sort") [l] kw);ret l) P E { s with heap:=h2,toks:=tk }:=by
 have l1:=r3.length
 have l2:=rv2.length
 refine Zd (ZbQ ?_ (by rw[Zbn];omega))
 have hoL:(h2.push (Zae "list" its.toArray 0)).get? h2.objs.size=Za (Zae "list" its.toArray 0):=Z1 _ rfl
 have keep3:∀b o,s.heap.get? b=Za o->(h2.push (Zae "list" its.toArray 0)).get? b=Za o:=λ b o q=>Zh _ (keep b o q)
 have sz3:(h2.push (Zae "list" its.toArray 0)).objs.size=h2.objs.size+1:=ZcZ ..
 show Zy _ _ _ _ _ { s with heap:=h2.push (Zae "list" its.toArray 0),toks:=tk }
 generalize h2.push (Zae "list" its.toArray 0)=h3 at hoL keep3 sz3
 refine Zd (ZL (wpAny_call_entry_kw slot_list_sort ⟨_,hoL,rfl⟩ entry_list_sort ?body (hak _)))
 case body =>
  show Zy (Z8 X.prog X.w) B.in1 (Zeq.«list.sort» ⟨[.ref h2.objs.size],kw⟩) _ _ _
  rw[hkw]
  unfold ksk_tree
  refine Zd (listItems_at hoL rfl ?_)
  refine Zd (Zdk hoL rfl ?_ (by rw[Zs,Zbn];omega) (Zac _))
  obtain⟨ep,ho1⟩:∃ep,(h3.update h2.objs.size (Zad λ _=>(#[]:Array Zg))).get? h2.objs.size=Za (Zae "list" #[] ep):=⟨_,Zb2 hoL λ _=>#[]⟩
  refine Zd (seqEpoch_at ho1 rfl ?_)
  refine Zd (wpAny_newTuple ?_ (by show its.length<=_;rw[Zbn];omega))
  refine Zd (ZbQ ?_ (Zac _))
  refine ZL ?_
  have sz5:((h3.update h2.objs.size (Zad λ _=>(#[]:Array Zg))).push (Zae "tuple" its.toArray 0)).objs.size=h2.objs.size+2:=by rw[ZcZ,Heap.size_update,sz3]
  obtain⟨kS,hkS⟩:∃kS,kS=((h3.update h2.objs.size (Zad λ _=>(#[]:Array Zg))).push (Zae "tuple" its.toArray 0)).objs.size:=⟨_,rfl⟩
  have gK:(((h3.update h2.objs.size (Zad λ _=>(#[]:Array Zg))).push (Zae "tuple" its.toArray 0)).push (Zae "list" #[] 0)).get? kS=Za (Zae "list" #[] 0):=by rw[hkS];exact Z1 _ rfl
  have gD:(((h3.update h2.objs.size (Zad λ _=>(#[]:Array Zg))).push (Zae "tuple" its.toArray 0)).push (Zae "list" #[] 0)).get? h2.objs.size=Za (Zae "list" #[] ep):=Zh _ (Zh _ ho1)
  have old:∀b o,s.heap.get? b=Za o->(((h3.update h2.objs.size (Zad λ _=>(#[]:Array Zg))).push (Zae "tuple" its.toArray 0)).push (Zae "list" #[] 0)).get? b=Za o:=λ b o q=>Zh _ (Zh _ ((Z2 _ _ (ZaP (ZJ (Z4 q) le0))).trans (keep3 b o q)))
  rw[<- hkS]
  rw[sz5] at hkS
  have fD:FpOk X pj H h2.objs.size:=N.inv.fpOk le0 (N.inv.hok.fresh le0)
  have le:s.heap.objs.size<=kS:=by rw[hkS];exact Zak le0 (Nat.le_add_right _ _)
  have fK:FpOk X pj H kS:=N.inv.fpOk le (N.inv.hok.fresh le)
  exact Ju7 ko hG (N.keptH (t':=tk) old) g fD fK (by rw[hkS];exact Z7 (Nat.lt_add_of_pos_right 01)) gD gK rv2 r3 h64 (λ s' q=>⟨_,rfl,Zw (hP _ _ q)⟩) K
end
end
def VH (x:IV)(h:IH):Option (Nat×List IV):=match x with
 | .ref i=>(match h[i]? with
  | some (.lst xs)=>Za (i,xs)
  | _=>Zc)
 | _=>Zc
theorem Jis (e:VH x h=Za (i,xs)):x=.ref i/\h[i]?=Za (.lst xs):=by
 unfold VH at e
 split at e
 ·split at e
  ·rename_i q
   cases e
   exact⟨rfl,q⟩
  ·cases e
 ·cases e
def X7 (x:IV)(as:List IV)(h:IH):Res IV:=match VH x h,as with
 | some (i,xs),[]=>(match xs[xs.length-1]? with
  | some y=>.ok y (h.set i (.lst xs.dropLast))
  | none=>.stuck)
 | _,_=>.stuck
def X8 (x:IV)(as:List IV)(h:IH):Res IV:=match VH x h,as with
 | some (i,xs),[.int k]=>(match JP xs with
  | some ns=>(match ns.findIdx? (· ==k) with
   | some j=>.ok .non (h.set i (.lst (xs.eraseIdx j)))
   | none=>.stuck)
  | none=>.stuck)
 | _,_=>.stuck
section
variable {ce:CeT}{X:Cx}
theorem J00:MtI ce X "list" "list.pop" X7:=by
 intro pj s σ H ι σi h x xs v us Q E N rx rs K
 unfold X7 at K
 split at K
 ·rename_i i zs e
  obtain⟨rfl,hi⟩:=Jis e
  split at K
  ·rename_i y hy
   obtain⟨xv,rx,a,rfl,ha⟩:=rx
   obtain⟨vs,rv,qs⟩:=rs
   cases (show vs=[] from qs)
   obtain⟨ws,e1,r1⟩:=N.at hi ha
   obtain⟨z,hz,qz⟩:=r1.get hy
   exact Jst (J04 (X:=X.wish E)) N.inv rx rv ⟨a,ws,z,rfl,rfl,e1,by rw[r1.length];exact hz,finW (ys:=zs.dropLast) N K ha e1 (by rw[ZdI,ZdI,r1.length];exact r1.take _) qz⟩
  ·exact Zf K
 ·exact Zf K
theorem Juc:MtI ce X "list" "list.remove" X8:=by
 intro pj s σ H ι σi h x xs v us Q E N rx rs K
 unfold X8 at K
 split at K
 ·rename_i i zs k e
  obtain⟨rfl,hi⟩:=Jis e
  split at K
  ·rename_i ns hb
   split at K
   ·rename_i j hj
    obtain⟨xv,rx,a,rfl,ha⟩:=rx
    obtain⟨vs,rv,qs⟩:=rs
    obtain⟨w,rfl,qw⟩:=qs.one_of
    cases (show w=.int k from qw)
    obtain⟨u,rfl,t,rfl⟩:=Vf rv
    cases rx
    obtain⟨ws,e1,r1⟩:=N.at hi ha
    obtain⟨z,its,n,r,hl,eo⟩:=N.inv.lstM e1
    have are:=VF hb r1 r
    have ln:=Jcd are
    obtain⟨hlt,hp,hno⟩:=List.findIdx?_eq_some_iff_getElem.mp hj
    have at_:∀m (hm:m<its.toArray.size),∃t,its.toArray[m]=.int (ns.getD m 0) t:=λ m hm=>ZdP are m _ (by simp at hm;simp[hm])
    refine ZcX F.slot_list_remove ⟨_,eo,rfl⟩ F.entry_list_remove (F.args_list_remove_2 _ _)
     (MeetsSeq.list_remove a its.toArray n (.int k t) (isK k) (λ y hy=>?_) j (by simp;omega) ?_ (λ m hm hmj=>?_) (by rw[Zs];omega)) ⟨eo,?_⟩
    ·obtain⟨m,hm,rfl⟩:=Array.mem_iff_getElem.mp hy
     obtain⟨t',e⟩:=at_ m hm
     rw[e]
     exact MeetsSeq.EqGives.int _ _ _ _
    ·obtain⟨t',e⟩:=at_ j (by simp;omega)
     rw[e]
     simpa [isK,Ze,hlt] using hp
    ·obtain⟨t',e⟩:=at_ m hm
     rw[e]
     have:=hno m hmj
     have hm2:m<ns.length:=00
     simpa [isK,Ze,hm2] using this
    ·exact finW (ys:=zs.eraseIdx j) (ws:=ws.eraseIdx j) N K ha e1 (r1.erase _) rfl _ _ (N.inv.lset (its':=its.eraseIdx j) e1 eo (by rw[Zc9]) (r.eraseIdx j) (by have:=Jk9 ws j;omega)) rfl
   ·exact Zf K
  ·exact Zf K
 ·exact Zf K
end
section
variable {pr:ZB}{wd:Zab}{A:ZK}{E:QvT}{s:Zn}
theorem Jja {Q:List Zg->Zn->Prop}{n:Nat}(hh:A.handled=Zc)(hr:IsRange s.heap r a b c t u v)(hsmall:Builtin.Range.small a b c=Zi) 
  (hn:Zdn a b c=n)(hlen:n<=2^24)(hQ:∀h' tk acc,(∀b o,s.heap.get? b=Za o->h'.get? b=Za o)->s.heap.objs.size<=h'.objs.size->ItemsOf (λ i v=>∃t,v=.int (a+i*c) t) acc n->Q acc.toList { s with heap:=h',toks:=tk }) :
  Zy (Z8 pr wd) A (collect (.ref r)) Q E s:=by
 unfold collect
 refine Zd (wpAny_runValue (Zaj PySem.F.entry_proto_collect ?_))
 rw[ZM PySem.F.plain_proto_collect _]
 show Zy _ A.in1 (newList []>>=λ l=>again (.builtin "list.__iadd__" ⟨[l,.ref r],[]⟩)) _ _ s
 refine Zd (ZbQ ?_ (Zac _))
 refine Zw ⟨Zas Zdv _,Zaj PySem.F.entry_list_iadd ?_⟩
 rw[ZM Zdv _]
 show Zy _ A.in1 (Builtin.List.listExtendWith (.ref s.heap.objs.size) (.ref r) (.ref s.heap.objs.size)) _ _ _
 refine wpAny_extend_range (R:=λ r s'=>match r with|.ok (.ret v)=>Zy (Z8 pr wd) A (match v with|.ref a=>(do match (<- load a).data with|.seq xs _=>pure xs.toList|_=>unsupported "internal:collect")|_=>unsupported "internal:collect") Q E s'|.ok _=>False|.error e=>E e s') (s:={ s with heap:=s.heap.push { cls:=.type "list",data:=.seq #[] } }) hh (Zh _ hr) hsmall hn hlen s.heap.objs.size _ 0 (Z1 _ rfl) λ h' tk acc c' keep g its=>?_
 show Zy _ A (load s.heap.objs.size>>=_) _ _ _
 refine Zd (wpAny_load g ?_)
 exact Zw (hQ h' tk acc (λ b o e=>keep b o (Z7 (Z4 e)) (Zh _ e)) (Zcb (Z4 g)) its)
end
section
variable {ce:CeT}{X:Cx}
def Yg (q:Str)(j:Nat)(js:List Nat)(aa:A1)(m:E1):E1:=λ σ h=>(aa σ h).bind λ xs h1=>match xs,h1[j]? with
 | [.int n],Za (.tab q')=>if q'=q/\0<=n/\n<64 then(QP (λ v h'=>m (Za v::js.map λ j=>(σ[j]?).join) h') (rngI 0 n) [] h1).bind (XG Zi (rngI 0 n)) else .stuck
 | _,_=>.stuck
theorem Jtw {k:Nat}{q x:Str}{caps:List Str}{js:List Nat}{j:Nat}{a body:Expr}{aa:A1}{m:E1}{params:ZbP}{scope:Zbj}{p p2 lp pos pos2 kp kp2 cp:Pos}{ck:Nat}(hh:X.A.handled=Zc)(hg:Gl X "sorted")(hm:X.mg "sorted"=Zc)(g2:Gl X "range")(m2:X.mg "range"=Zc)(ha:PAi ce X [a] aa)(hs:ZF [a] X.env=[(Zk,ZaU a X.env)])
  (hr:Room (k+3) X.A)(hcd:W.codeIn X.K X.env.code q=Zi)(hq:X.env.qual=q++".<locals>.")(B:Q5 X.mg X.base)(hx:QQ params=Za x)(S:LamSc X.N X.env.scope.names x caps js scope)
  (hb:∀f cd s' H',PEi ce (cxL X X.A.in1.in1 (x::caps) q scope f cd s' H') body m) :
  PEi ce X (.Call (.Name "sorted" p) [.Call (.Name "range" p2) [a] [] pos2] [⟨Za "key",.Lambda params body scope lp,kp⟩,⟨Za "reverse",.Constant (.bool Zi) ck cp,kp2⟩] pos) (Yg q j js aa m):=λ pj s σ H ι σi h Q E N K=>by
 have hcl:ZcF scope X.env=pure (clOf X.env.cells scope.names []):=Jas λ y hm hk=>N.inv.ok.has y.1 (.inl (S.free y hm hk))
 refine Zah (Qz N.inv hg hm rfl ?_)
 refine ZdQ ?_ rfl rfl rfl rfl
 refine Zdc ?_
 refine Zah (Qz N.inv g2 m2 boot_range ?_)
 refine ZaA ?_ hs rfl
 refine(ha pos2).run N K λ xs h1 us s1 H1 ι1 N1 n1 r1 K1=>?_
 obtain⟨vs,rv,qs⟩:=r1
 split at K1
 ·rename_i n q' ej
  split at K1
  ·rename_i hc
   obtain⟨rfl,n0,n64⟩:=hc
   obtain⟨w,rfl,qw⟩:=qs.one_of
   cases (show w=.int n from qw)
   obtain⟨u,rfl,t,rfl⟩:=Vf rv
   refine call_range_1 (Zdd ?_)
   have gr:(s1.heap.push { cls:=.type "range",data:=.fields #[.int 0 s1.toks,.int n t,.int 1 (s1.toks+1)] }).get? s1.heap.objs.size=Za { cls:=.type "range",data:=.fields #[.int 0 s1.toks,.int n t,.int 1 (s1.toks+1)] }:=Z1 _ rfl
   have N1':=(N1.keptH (h':=s1.heap.push { cls:=.type "range",data:=.fields #[.int 0 s1.toks,.int n t,.int 1 (s1.toks+1)] }) (t':=s1.toks+1+1) λ b o e=>Zh _ e)
   have F1:FpOk X pj H1 s1.heap.objs.size:=N1.inv.fpOk (Zp _) (N1.inv.hok.fresh (Zp _))
   have N2:=N1'.pinO gr F1 λ v z=>by cases z
   have K2:=Kont.more (pl:=[(s1.heap.objs.size,({ cls:=.type "range",data:=.fields #[.int 0 s1.toks,.int n t,.int 1 (s1.toks+1)] }:Obj))]) K1
   refine ZaI (Zd (Jjn N2 ej hcd hq (Jjm hx) hcl B λ f c pm ctv s3 H3 N3 n3 LC=>Zd (ZaX (Zw ?_))))
   refine ZaI (Zd (Zw (Zd (ZaX (Zw (Zb9 ?_))))))
   have K3:=Kont.more (pl:=[(f,lamO q' params body scope (clOf X.env.cells scope.names []) pm ctv c)]) (Kont.mono K2 n3)
   have pr:=N3.inv.pin (s1.heap.objs.size,{ cls:=.type "range",data:=.fields #[.int 0 s1.toks,.int n t,.int 1 (s1.toks+1)] }) (Zj _ (Zaq _ (Zj _ (Zv.mpr rfl))))
   refine call_function_entry_kw kind_sorted plain_sorted entry_sorted (ksk_s2 _ _ _) ?_
   unfold Zeq.«sorted»
   refine Zd (m:=checkCount "sorted" 1 1 _) (Zw ?_)
   refine Zd (Jja (n:=n.toNat) hh pr.1 (small_one 01 01 00 00) ?_ 00 λ h4 tk acc keep le its=>?_)
   ·rw[rangeSize_one]
    split<;>omega
   have are:ZbA acc.toList ((ZT n.toNat).map λ k=>((k:Nat):Int)):=by
    refine Jrc _ _ (by simp[its.1]) λ i v hv=>?_
    obtain⟨t,rfl⟩:=its.2 i v (by simpa using hv)
    have hi:i<n.toNat:=by
     have:=(Zq.mp hv).1
     simp only[Zbd,its.1] at this
     exact this
    exact⟨t,by simp[Ze,hi]⟩
   refine Jy0 (G:=λ H=>QI H q' (.ref c)) (mk:=λ v h'=>m (Za v::js.map λ j=>(σi[j]?).join) h') (ys:=rngI 0 n) (λ a=>ksk_t2 f a Zi) (λ a=>ksk_l2 a _ _) ?_ (λ H H' e g=>g.mono e.frzs) N3 LC keep le (YB are) (by rw[X9];exact Jnx _) (by rw[X9];simp;omega) (λ D s' q=>⟨_,rfl,q⟩) K3
   intro pl s4 H4 ι4 h4 v u Q4 N4 g4 ru4 K4
   have pf:=N4.inv.pin (f,lamO q' params body scope (clOf X.env.cells scope.names []) pm ctv c) (Zj _ (Zaq _ (Zj _ (Zv.mpr rfl))))
   exact Jmj (A:=X.A.in1.in1) N.inv.ok.frames hr.in1.in1 N4 pf.1 g4 hx S (hb f (.ref c)) ru4 K4
  ·exact Zf K1
 ·exact Zf K1
end
end L3
namespace L3
open PySem PySem.Spec PyProof.Rows L2
section
variable {ce:CeT}{X:Cx}
def Xp (x c:IV)(h:IH):Res IV:=match c with
 | .ref i=>(match h[i]? with
  | some (.dct kvs)=>(match keyI x with
   | some k=>.ok (.bl (!(valI kvs k).isSome)) h
   | none=>.stuck)
  | _=>.stuck)
 | _=>.stuck
theorem Jul:OpI ce X (Zav .NotIn) Xp:=by
 intro pj s σ H ι σi h x y v u Q E N rx ry K
 obtain⟨xv,rx,qx⟩:=rx
 obtain⟨yv,ry,qy⟩:=ry
 cases y with
 | ref i =>
  obtain⟨a,e1,ha⟩:=qy
  subst e1
  dsimp only[Xp] at K
  cases hi:h[i]? with
  | none=>rw[hi] at K;exact Zf K
  | some ob =>
   rw[hi] at K
   cases ob with
   | dct kvs =>
    dsimp only at K
    cases ek:keyI x with
    | none=>rw[ek] at K;exact Zf K
    | some k =>
     rw[ek] at K
     dsimp only at K
     obtain⟨ws,e1,r1⟩:=N.at hi ha
     cases Yp ek qx
     cases (show u=.ref a from ry)
     obtain⟨z,hd,ps,rel,dd⟩:=Yc N.inv.hok e1
     refine wpAny_notIn_of (Yo rx) hd dd.mapOf ?_
     rw[<- (rel.val k).isSome_eq]
     have es:(valV ws k).isSome=(valI kvs k).isSome:=by
      rcases r1.get k with⟨p,q⟩|⟨v1,w1,p,q,r⟩<;>rw[p,q]<;>rfl
     rw[es]
     exact fin0 N K rfl _ _ (N.inv.tok _) rfl
   | _=>exact Zf K
 | _=>exact Zf K
end
end L3
namespace L4
open PySem PySem.Spec PyProof.Rows L2 L3
noncomputable def stE:E1:=λ _ _=>.stuck
noncomputable def stT:T1:=λ _ _=>.stuck
noncomputable def stO:O1:=λ _ _=>.stuck
noncomputable def stI:I1:=λ _ _=>.stuck
noncomputable def stG:G1:=λ _ _ _=>.stuck
noncomputable def stS:S1:=λ _ _=>.stuck
structure Fn where
 np:Nat
 dvs:List IV
 run:List IV->IH->Res IV
structure Pg where
 fn:Str->Option Fn
 cls:Str->Option Fn
 meth:Str->Str->Option Fn
 con:Str->Option IV
 isa:Str->Option (Str->Bool)
 fld:Str->Bool
 free:Str->Bool
 tabs:Str->Option Nat
 rz:Str->Bool
 bas:Str->Bool
 xi:Str->Option (Str->Option Bool)
 wr:Str->Option (List IV->IH->Res IV)
 ne:Str->Bool
 xo:Str->Option Fn
 xf:Str->Str->Bool
 xb:Str->Bool
structure Sc where
 N:List Str
 names:List (Str×Zbh)
 own:Bool
 q:Str
noncomputable def ixOf (x:Str):List Str->Option Nat
 | []=>Zc
 | y::r=>if y==x then Za 0 else(ixOf x r).map (· + 1)
noncomputable def Sc.vis (S:Sc)(x:Str):Option Nat :=
 match S.names.lookup x with
 | some .local=>if x=="__debug__"||x=="__classdict__" then Zc else ixOf x S.N
 | some .cell=>if x=="__debug__"||x=="__classdict__" then Zc else ixOf x S.N
 | some .free=>if x=="__debug__"||x=="__classdict__" then Zc else ixOf x S.N
 | _=>Zc
noncomputable def Sc.gl (S:Sc)(x:Str):Bool:=S.names.lookup x==Za .globalImplicit&&!(x=="__debug__")&&!(x=="__name__")
noncomputable def Sc.sto (S:Sc)(x:Str):Option Nat :=
 match S.names.lookup x with
 | some .local=>ixOf x S.N
 | some .cell=>if S.own then ixOf x S.N else Zc
 | _=>Zc
def evC:Const->E1
 | .int i=>eC (.int i)
 | .bool b=>eC (.bl b)
 | .none=>eC .non
 | .str x=>eC (.str x)
 | _=>stE
def binI:Zc8->IV->IV->IH->Res IV
 | .Add=>Jj
 | .Sub=>JJ
 | .Mult=>JQ
 | .FloorDiv=>J7
 | .Mod=>Jq
 | .Pow=>JL
 | _=>λ _ _ _=>.stuck
def cmpI:CmpOp->IV->IV->IH->Res IV
 | .Lt=>cLt
 | .LtE=>cLe
 | .Gt=>cGt
 | .GtE=>cGe
 | .Eq=>cEq
 | .NotEq=>cNe
 | .Is=>cIs
 | .IsNot=>Jnb
 | _=>λ _ _ _=>.stuck
def unI:UnaryOp->IV->IH->Res IV
 | .Not=>VJ tru
 | .USub=>Yw
 | _=>λ _ _=>.stuck
def Jxd:List E1->E1
 | []=>stE
 | [a]=>a
 | a::b::r=>eAnd a (Jxd (b::r)) tru
def eOrs:List E1->E1
 | []=>stE
 | [a]=>a
 | a::b::r=>eOr a (eOrs (b::r)) tru
def Jy2:List T1->T1
 | []=>stT
 | [a]=>a
 | a::b::r=>Qm a (Jy2 (b::r))
def tOrs:List T1->T1
 | []=>stT
 | [a]=>a
 | a::b::r=>tOrI a (tOrs (b::r))
def aAll:List E1->A1
 | []=>Jd
 | a::r=>Jc a (aAll r)
def J0:Expr->Bool
 | .Starred .. =>Zk
 | _=>Zi
def X3:Expr->Bool
 | .Set .. =>Zk
 | _=>Zi
def Xd:Expr->Bool
 | .Slice .. =>Zk
 | _=>Zi
def V4:Expr->Bool
 | .ListComp .. =>Zk
 | .SetComp .. =>Zk
 | .DictComp .. =>Zk
 | _=>Zi
def V3:Expr->Bool
 | .Call (.Name ..) [] [] _=>Zk
 | _=>Zi
def isM1:Expr->Bool
 | .UnaryOp .USub (.Constant (.int 1) _ _) _=>Zi
 | _=>Zk
def Fn.fill (f:Fn)(n:Nat):Option (List IV):=if n<=f.np/\f.np<=n+f.dvs.length then Za (f.dvs.drop (f.dvs.length-(f.np-n))) else Zc
def VV (f:Fn)(n:Nat)(a:A1):E1:=match f.fill n with
 | some d=>Jm f.run d a
 | none=>stE
def Jnl (c:Str)(f:Fn)(n:Nat)(a:A1):E1:=match f.fill (n+1) with
 | some d=>QN c f.run d a
 | none=>stE
def bltF (x:Str):List IV->IH->Res IV :=
 if x=="len" then on1 lenI else if x=="all" then on1 allI else if x=="sum" then on1 sumI else if x=="min" then on1 Xc else if x=="max" then on1 X2 else λ _ _=>.stuck
def bltT (x:Str):List IV->IH->Res IV :=
 if x=="list" then on1 Q9 else if x=="tuple" then on1 Xg else λ _ _=>.stuck
def Jrf (x:Str):Bool:=x=="len"||x=="all"||x=="sum"||x=="min"||x=="max"
def Jrg (x:Str):Bool:=x=="list"||x=="tuple"
def Js9 (P:Pg)(x:Str):Option (Ty->Option Bool) :=
 match P.isa x with
 | some g=>Za λ t=>match t with|.ins c=>Za (g c)|.exc _=>Zc|_=>Za Zk
 | none=>if P.free x then(if x=="int" then Za VA else if x=="bool" then Za V9 else if x=="str" then Za VC else if x=="list" then Za (if P.ne "Work" then VB else QK) else if x=="tuple" then Za Vy else Zc) else Zc
def Jxf (o:Option (Ty->Option Bool))(e:E1):E1:=match o with
 | some ans=>eIsi ans e
 | none=>stE
def bmOf (T:String)(m:Str)(n:Nat):Option (IV->List IV->IH->Res IV) :=
 if T=="list"&&m=="append"&&n==1 then Za VS else if T=="list"&&m=="extend"&&n==1 then Za Xu else if T=="list"&&m=="pop"&&n==0 then Za X7 else if T=="list"&&m=="remove"&&n==1 then Za X8 else if T=="dict"&&m=="setdefault"&&n==2 then Za VL else Zc
def Qd (P:Pg)(m:Str)(n:Nat):Str->Option ((List IV->IH->Res IV)×List IV):=λ c=>match P.meth c m with
 | some f=>(match f.fill (n+1) with
  | some d=>Za (f.run,d)
  | none=>Zc)
 | none=>Zc
def VZ (v:IV)(h:IH):Bool:=match v with
 | .ref i=>(match h[i]? with
  | some (.ins ..)=>Zi
  | _=>Zk)
 | _=>Zk
def tyS (v:IV)(h:IH):String:=match v with
 | .str _=>"str"
 | .rol _=>"list"
 | .ref i=>(match h[i]? with
  | some (.lst _)=>"list"
  | some (.dct _)=>"dict"
  | _=>"")
 | _=>""
def Jn (P:Pg)(m:Str)(n:Nat)(o:E1)(a:A1):E1:=λ σ h=>match o σ h with
 | .ok v h1=>if VZ v h1 then Jtj m (Qd P m n) o a σ h else(match bmOf (tyS v h1) m n with
  | some g=>eBm (tyS v h1) g o a σ h
  | none=>.stuck)
 | _=>.stuck
def Jz9 (n:Nat)(a:A1):I1:=match n with
 | 1=>iRg JV a
 | 2=>iRg VG a
 | _=>stI
def gAll:List G1->List IV->ISt->IH->SRes
 | []=>gN
 | g::r=>gC g (gAll r)
def V2 (sc:Zbj):List Str:=sc.names.filterMap λ x=>if x.2==.local&&!(x.1==(".0":Str)) then Za x.1 else Zc
def Q7 (sc:Zbj):List Str:=sc.names.filterMap λ x=>if x.2==.free then Za x.1 else Zc
def jsOf (S:Sc)(sc:Zbj):List Nat:=(Q7 sc).map λ x=>(ixOf x S.N).getD 0
def Sc.comp (S:Sc)(sc:Zbj):Sc where
 N:=V2 sc++Q7 sc
 names:=sc.names.map λ x=>if x.2==.free&&S.names.lookup x.1==Za .cell then(x.1,.cell) else x
 own:=Zk
 q:=""
def Sc.lam (S:Sc)(x:Str)(sc:Zbj):Sc where
 N:=x::Q7 sc
 names:=sc.names
 own:=Zk
 q:=""
def Qx (S:Sc)(x:Str)(sc:Zbj):Bool :=
 sc.kind==.function&&!sc.isCoroutine&&!sc.isGenerator&&sc.names.all (λ y=>!(y.2==.cell))&&sc.names.lookup x==Za .local&&sc.names.all (λ y=>!(y.2==.free)||S.names.lookup y.1==Za .cell)
  && (Q7 sc).all (λ y=>decide (S.N[(ixOf y S.N).getD 0]?=Za y)&&sc.names.lookup y==Za .free)&&decide (x::Q7 sc).Nodup
def Sc.fake (S:Sc):Zbj:={ kind:=.function,names:=S.names,isGenerator:=Zk,isCoroutine:=Zk }
def Jnk:Expr->Bool
 | .Name x p=>x=="last_come"||x=="tops"||x=="last"||x=="_law_last"||x=="_law_lows_here"||(x=="_law_nexts"&&Nat.ble 375 p.line)
 | _=>Zk
def ixD (a:Expr):IV->IV->IH->Res IV:=if Jnk a then QR else Jg
def cmpD (ne:Str->Bool)(o:CmpOp)(b:Expr):IV->IV->IH->Res IV:=match o with
 | .In=>if Jnk b then cInD else λ _ _ _=>.stuck
 | .NotIn=>if Jnk b then Xp else λ _ _ _=>.stuck
 | o=>cmpI o
def gSbF (a:Expr)(o i:E1):G1:=if Jnk a then gSbD o i else gSb o i
def Jwh:Expr->Option Expr
 | .Call (.Name y _) [e] [] _=>if y=="set"&&J0 e then Za e else Zc
 | _=>Zc
def Jnv:Expr->Option Expr
 | .Call (.Name y _) [e] [] _=>if y=="range"&&J0 e then Za e else Zc
 | _=>Zc
def Ji7 (P:Pg)(S:Sc)(x:Str)(f:Expr->E1):List Expr->E1
 | [a,b]=>if x=="max" then eCB (on2 maxI) (Jc (f a) (Jc (f b) Jd)) else if x=="min" then eCB (on2 minI) (Jc (f a) (Jc (f b) Jd)) else(match b with
  | .Name y _=>if x=="isinstance"&&S.gl y then Jxf (Js9 P y) (f a) else stE
  | _=>stE)
 | [a]=>(match (if x=="len"&&S.gl "set"&&P.free "set" then Jwh a else Zc) with
  | some e=>Yd (Jc (f e) Jd)
  | none=>match (if x=="list"&&S.gl "range"&&P.free "range" then Jnv a else Zc) with
  | some _=>stE
  | none=>if Jrf x then eCB (bltF x) (Jc (f a) Jd) else if Jrg x then eCB (bltT x) (Jc (f a) Jd) else stE)
 | _=>stE
def J0l:Expr->Bool
 | .Constant (.bool Zi) _ _=>Zi
 | _=>Zk
def Jsk (P:Pg)(S:Sc)(f:Sc->Expr->E1)(x:Str)(a:Expr)(k:Str)(ps:ZbP)(body:Expr)(sc:Zbj)(k2:Str)(d:Expr):E1:=match Jnv a,QQ ps,P.tabs S.q with
 | some e,Za y,Za j=>if x=="sorted"&&k=="key"&&k2=="reverse"&&J0l d&&S.gl x&&P.free x&&S.gl "range"&&P.free "range"&&S.own&&Qx S y sc then Yg S.q j (jsOf S sc) (Jc (f S e) Jd) (f (S.lam y sc) body) else stE
 | _,_,_=>stE
def minK (P:Pg)(S:Sc)(f:Sc->Expr->E1)(x:Str)(a:Expr)(k:Str):Expr->E1
 | .Lambda ps body sc _=>(match QQ ps,P.tabs S.q with
  | some y,Za j=>if x=="min"&&k=="key"&&S.gl x&&P.free x&&J0 a&&S.own&&Qx S y sc then Xt ltT S.q j (jsOf S sc) (Jc (f S a) Jd) (f (S.lam y sc) body) else stE
  | _,_=>stE)
 | _=>stE
def Jro (P:Pg)(S:Sc)(f:Sc->Expr->E1)(x:Str)(args:List Expr)(kws:List ZdV):E1:=match args,kws with
 | [a],[⟨Za k,d,_⟩]=>if x=="max"&&k=="default"&&S.gl x&&P.free x&&J0 a then Ye (Jc (f S a) Jd) (f S d) else minK P S f x a k d
 | [a],[⟨Za k,.Lambda ps body sc _,_⟩,⟨Za k2,d,_⟩]=>if x=="sorted" then Jsk P S f x a k ps body sc k2 d else(match QQ ps,P.tabs S.q with
  | some y,Za j=>if x=="max"&&k=="key"&&k2=="default"&&S.gl x&&P.free x&&J0 a&&S.own&&Qx S y sc then Yf gtZ S.q j (jsOf S sc) (Jc (f S a) Jd) (f (S.lam y sc) body) (f S d) else stE
  | _,_=>stE)
 | _,_=>stE
def Jm9 (P:Pg)(S:Sc)(m:Str):Expr->Option Fn
 | .Name x _=>if m=="__init__"&&S.gl x&&P.bas x then P.cls x else Zc
 | _=>Zc
def Jxe (P:Pg)(m:Str)(n:Nat)(b:Option Fn)(o:E1)(a:A1):E1:=match b with
 | some f=>if n=0 then stE else VV f n a
 | none=>Jn P m n o a
def Jqq (ifs:List Expr)(f:Expr->T1)(m:T1->E1):E1:=match ifs with
 | []=>m JB
 | [c]=>m (f c)
 | _=>stE
section
mutual
def ev (P:Pg):Nat->Sc->Expr->E1
 | 0,_,_=>stE
 | n+1,S,e=>match e with
  | .Constant c _ _=>evC c
  | .Name x _=>(match S.vis x with
   | some i=>Ja i
   | none=>if S.gl x then(match P.con x with
    | some v=>eC v
    | none=>stE) else stE)
  | .BinOp a op b _=>Jb (binI op) (ev P n S a) (ev P n S b)
  | .UnaryOp op a _=>eUn (unI op) (ev P n S a)
  | .BoolOp .And vs _=>Jxd (vs.map (ev P n S))
  | .BoolOp .Or vs _=>eOrs (vs.map (ev P n S))
  | .IfExp t a b _=>eIf (evT P n S t) (ev P n S a) (ev P n S b)
  | .Compare a [o] [b] _=>if Zcm o b then stE else Jb (cmpD P.ne o b) (ev P n S a) (ev P n S b)
  | .Compare a [o,o'] [b,c] _=>if Zds [o,o'] [b,c] then stE else Qa (cmpI o) (cmpI o') (ev P n S a) (ev P n S b) (ev P n S c)
  | .Tuple es _ _=>if es.all J0 then eTup (aAll (es.map (ev P n S))) else stE
  | .Dict [] [] _=>VW
  | .List es _=>if es.all J0 then JD (aAll (es.map (ev P n S))) else stE
  | .Subscript a (.Slice lo hi Zc _) _=>eSl slI (ev P n S a) (evO P n S lo) (evO P n S hi)
  | .Subscript a i _=>if Xd i then Jb (ixD a) (ev P n S a) (ev P n S i) else stE
  | .Attribute o f _=>if V3 o&&P.fld f then Jo f (ev P n S o) else stE
  | .Call (.Name x _) args [] _=>if S.gl x&&args.all J0 then Jq1 P n S x args else stE
  | .Call (.Name x _) args (kw::kws) _=>Jro P S (λ S e=>ev P n S e) x args (kw::kws)
  | .Call (.Attribute o m ap) args [] p=>if args.all J0&&V3 o&&(ap.endLine==p.line)&&decide (args.length<30) then Jxe P m args.length (Jm9 P S m o) (ev P n S o) (aAll (args.map (ev P n S))) else stE
  | .ListComp elt [⟨tg,iter,ifs,as⟩] sc _ =>
   if as=0/\X3 iter=Zi/\QM S.N (V2 sc) (Q7 sc) (jsOf S sc) S.fake sc=Zi then
    Jqq ifs (evT P n (S.comp sc)) λ mt=>Js (evI P n S tg iter) (V2 sc).length (jsOf S sc) (tgt P n (S.comp sc) tg) mt (ev P n (S.comp sc) elt)
   else stE
  | _=>stE
def evT (P:Pg):Nat->Sc->Expr->T1
 | 0,_,_=>stT
 | n+1,S,e=>match e with
  | .UnaryOp .Not a _=>JF (evT P n S a)
  | .BoolOp .And vs _=>Jy2 (vs.map (evT P n S))
  | .BoolOp .Or vs _=>tOrs (vs.map (evT P n S))
  | .IfExp .. =>stT
  | .Compare a [o] [b] _=>if Zcm o b then stT else Jh asB (Jb (cmpD P.ne o b) (ev P n S a) (ev P n S b))
  | .Compare a [o,o'] [b,c] _=>if Zds [o,o'] [b,c] then stT else Jh asB (Qa (cmpI o) (cmpI o') (ev P n S a) (ev P n S b) (ev P n S c))
  | .Compare .. =>stT
  | e=>Jh tru (ev P n S e)
def evO (P:Pg):Nat->Sc->Option Expr->O1
 | 0,_,_=>stO
 | _+1,_,Zc=>X4
 | n+1,S,Za e=>Qs (ev P n S e)
def Jq1 (P:Pg):Nat->Sc->Str->List Expr->E1
 | 0,_,_,_=>stE
 | n+1,S,x,args=>match P.fn x with
  | some f=>VV f args.length (aAll (args.map (ev P n S)))
  | none=>match P.cls x with
   | some f=>Jnl x f args.length (aAll (args.map (ev P n S)))
   | none=>if P.free x then Ji7 P S x (ev P n S) args else stE
def evI (P:Pg):Nat->Sc->Expr->Expr->I1
 | 0,_,_,_=>stI
 | n+1,S,tg,e=>match e with
  | .Call (.Name x _) args [] _ =>
   if S.gl x&&P.free x&&args.all J0&&(x=="range") then Jz9 args.length (aAll (args.map (ev P n S)))
   else if S.gl x&&P.free x&&args.all J0&&(x=="enumerate") then(match tg,args with
    | .Tuple ..,[a]=>iRg Qw (Jc (ev P n S a) Jd)
    | _,_=>stI)
   else J6 (ev P n S e)
  | e=>J6 (ev P n S e)
def tgt (P:Pg):Nat->Sc->Expr->G1
 | 0,_,_=>stG
 | n+1,S,e=>match e with
  | .Name x _=>(match S.sto x with
   | some i=>gNm i
   | none=>stG)
  | .Tuple es _ _=>if es.all J0 then gTp es.length (gAll (es.map (tgt P n S))) else stG
  | .Subscript o i _=>if Xd i then gSbF o (ev P n S o) (ev P n S i) else stG
  | _=>stG
end
end
def Vr (t:T1)(b:S1):Nat->S1
 | 0,_,_=>.stuck
 | n+1,σ,h=>match t σ h with
  | .ok c h1=>if c then(match b σ h1 with
   | .next σ2 h2=>Vr t b n σ2 h2
   | .cont σ2 h2=>Vr t b n σ2 h2
   | .brk σ2 h2=>.next σ2 h2
   | .ret v h2=>.ret v h2
   | _=>.stuck) else .next σ h1
  | _=>.stuck
@[irreducible] def VN:Nat:=1000000
def Jmu (o:Bool)(t:T1)(b:S1):S1:=match o with
 | true=>Vr t b VN
 | false=>stS
def XD (t:T1)(b:S1):S1:=Jmu Zi t b
theorem Jlj (t:T1)(b:S1):XD t b=Vr t b VN:=rfl
def ipI:Zc8->IV->IV->IH->Res IV
 | .Add,.int i,.int j,h=>.ok (.int (i+j)) h
 | _,_,_,_=>.stuck
def sAug (op:Zc8)(i:Nat)(e:E1):S1:=λ σ h=>rS σ (Ja i σ h) λ x h1=>rS σ (e σ h1) λ y h2=>rS σ (ipI op x y h2) λ z h3=>.next (σ.set i (Za z)) h3
def XB (op:Zc8)(f:Str)(o e:E1):S1:=λ σ h=>rS σ (o σ h) λ ov h1=>match ov with
 | .ref i=>(match h1[i]? with
  | some (.ins _ fs)=>(match fs.lookup f with
   | some x=>rS σ (e σ h1) λ y h2=>rS σ (ipI op x y h2) λ z h3=>(match h3[i]? with
    | some (.ins c gs)=>if gs.length<1000 then .next σ (h3.set i (.ins c (putI f z gs))) else .stuck
    | _=>.stuck)
   | none=>.stuck)
  | _=>.stuck)
 | _=>.stuck
def ixL:IV->IV->IH->Res IV
 | .ref i,.int k,h=>match h[i]? with
  | some (.lst xs)=>(match atI xs k with
   | some v=>if 0<=k then .ok v h else .stuck
   | none=>.stuck)
  | _=>.stuck
 | _,_,_=>.stuck
def XC (op:Zc8)(o k e:E1):S1:=λ σ h=>rS σ (o σ h) λ ov h1=>rS σ (k σ h1) λ kv h2=>rS σ (ixL ov kv h2) λ x h3=>rS σ (e σ h3) λ y h4=>rS σ (ipI op x y h4) λ z h5=>setI ov kv z σ h5
def sAll:List S1->S1
 | []=>Jr
 | [a]=>a
 | a::b::r=>Jf a (sAll (b::r))
def Jx9:Expr->Bool
 | .Tuple .. =>Zk
 | _=>Zi
def Jt2:Expr->Bool
 | .Tuple .. =>Zi
 | _=>Zk
def isLC:Expr->Bool
 | .ListComp .. =>Zi
 | _=>Zk
def Jt1:Expr->Bool
 | .Subscript .. =>Zi
 | _=>Zk
abbrev Xi:=Str->Option (Str->Option Bool)
section
end
section
end
def Jym (P:Pg)(f:Str)(o e:E1):S1:=if P.fld f then JR f o e else stS
section
def ex (P:Pg):Nat->Sc->ZcC->S1
 | 0,_,_=>stS
 | n+1,S,st=>match st with
  | .Pass _=>Jyn
  | .Break _=>Jwd
  | .Continue _=>J1r
  | .Expr e _=>if V4 e then JG (ev P n S e) else stS
  | .Return Zc _=>Jyp
  | .Return (Za e) _=>Jk (ev P n S e)
  | .If c a b _=>sIf (evT P n S c) (sAll (a.map (ex P n S))) (sAll (b.map (ex P n S)))
  | .While c a [] _=>Jmu S.own (evT P n S c) (sAll (a.map (ex P n S)))
  | .For tg it a [] _=>if X3 it&&S.own then sFor (evI P n S tg it) (tgt P n S tg) (sAll (a.map (ex P n S))) else stS
  | .Assign [.Name x _] e _=>if V4 e||isLC e then(match S.sto x with
   | some i=>Ji i (ev P n S e)
   | none=>stS) else stS
  | .Assign [.Attribute o f _] e _=>if V4 e||isLC e then Jym P f (ev P n S o) (ev P n S e) else stS
  | .Assign [tg] e _=>if V4 e&&((Jt2 tg&&Jx9 e)||Jt1 tg) then sAsg (ev P n S e) (tgt P n S tg) else stS
  | .AugAssign (.Name x _) op e _=>(match S.sto x with
   | some i=>sAug op i (ev P n S e)
   | none=>stS)
  | .AugAssign (.Attribute o f _) op e _=>if P.fld f then XB op f (ev P n S o) (ev P n S e) else stS
  | .AugAssign (.Subscript o k _) op e _=>if Xd k then XC op (ev P n S o) (ev P n S k) (ev P n S e) else stS
  | _=>stS
end
structure FnD (ce:CeT)(prog:ZB)(w:Zab)(K:W.Frag)(mg:Str->Option Zg)(base:Zau)(k:Nat)(f:Fn)(fa:Zo)(fd:Za2)(ps:List Str):Prop where
 len:ps.length=f.np
 ok:FnOk prog w K mg base (CXI prog w) k fa fd ps (spI ce K ps f.run)
 dv:∀j,j<=f.dvs.length->∃ds,Qn K fd ps ds/\ds.length=f.dvs.length-j/\∃vs,Vals vs ds/\∀ι H,RVs K ι H (f.dvs.drop j) vs
structure PgOk (ce:CeT)(k:Nat)(P:Pg)(prog:ZB)(w:Zab)(K:W.Frag)(mg:Str->Option Zg)(base:Zau):Prop where
 fn:∀x f,P.fn x=Za f->∃fa fd ps,mg x=Za (.ref fa)/\W.keepIn K (.ref fa)=Zi/\FnD ce prog w K mg base k f fa fd ps
 cls:∀x f,P.cls x=Za f->∃C fa fd ps,mg x=Za (.ref C)/\ce x=Za C/\Mk K C fa/\FnD ce prog w K mg base k f fa fd ps
 meth:∀c m f,P.meth c m=Za f->∃C fa fd ps,ce c=Za C/\Cls K C/\Meth K C m fa/\FnD ce prog w K mg base k f fa fd ps
 con:∀x v,P.con x=Za v->∃u y,mg x=Za u/\RelV y u/\∀ι H,RV K ι H v y
 isa:∀D g,P.isa D=Za g->∃c,mg D=Za c/\IsOk ce K c λ t=>match t with|.ins c=>Za (g c)|.exc _=>Zc|_=>Za Zk
 fld:∀f,P.fld f=Zi->XS ce K f
 free:∀x,P.free x=Zi->mg x=Zc
 blt:∀q j,P.tabs q=Za j->Q5 mg base
 bas:∀x,P.bas x=Zi->∃C,mg x=Za (.ref C)/\BasK K C
 ne:∀c,P.ne c=Zi->∃C,ce c=Za C/\neIn K C=Zi/\ClsI K C/\W.kitOne K (.ref C) (.type "list")=Za Zk
structure Good (ce:CeT)(k:Nat)(P:Pg)(S:Sc)(X:Cx):Prop where
 n:X.N=S.N
 sc:X.env.scope.names=S.names
 nd:S.N.Nodup
 fk:X.env.scope.kind=.function
 calm:X.calm=Zi
 room:Room (k+1) X.A
 st:S.own=Zi->∀x,X.fn x=Zi
 pg:PgOk ce k P X.prog X.w X.K X.mg X.base
 code:S.own=Zi->W.codeIn X.K X.env.code S.q=Zi/\X.env.qual=S.q++".<locals>."
 room3:S.own=Zi->Room (k+3) X.A
 top:S.own=Zi->X.stack=X.env::X.outer/\X.env.frame=Za X.env.locals
section
variable {ce:CeT}{k:Nat}{P:Pg}{S:Sc}{X:Cx}{α β:Type}{R:REL α β}
theorem Jl {t:Sem β}:PX ce X R t (λ _ _=>.stuck):=λ _ _ _ _ _ _ _ _ _ _ K=>(show False from K).elim
theorem J3u (hh:∀σi h,∃m',m σi h=m' σi h/\PX ce X R t m'):PX ce X R t m:=by
 intro pj s σ H ι σi h Q E N K
 obtain⟨m',e,p⟩:=hh σi h
 rw[e] at K
 exact p pj s σ H ι σi h Q E N K
theorem Jgb:PIi ce X tg e stI:=λ _ _ _ _ _ _ _ _ _ _ K=>(show False from K).elim
theorem Yy:PGi ce X e stG:=λ _ _ _ _ _ _ _ _ _ _ _ _ _ K=>(show False from K).elim
theorem JW:PSi ce X t stS:=λ _ _ _ _ _ _ _ _ _ _ K=>(show False from K).elim
theorem Jf8:∀{l:List Str}{i:Nat},ixOf x l=Za i->l[i]?=Za x
 | [],_,h=>by cases h
 | y::r,i,h=>by
  unfold ixOf at h
  split at h
  ·rename_i e
   cases h
   simp[beq_iff_eq.mp e]
  ·obtain⟨j,hj,rfl⟩:=ZH.mp h
   simpa using Jf8 hj
theorem Good.kind (G:Good ce k P S X)(x:Str):X.env.kindOf x=S.names.lookup x:=by
 show X.env.scope.names.lookup x=_
 rw[G.sc]
theorem Good.vis (G:Good ce k P S X)(h:S.vis x=Za i):X.N[i]?=Za x/\Vis X.env.scope x/\(x==("__debug__":Str))=Zk/\(x==("__classdict__":Str))=Zk:=by
 unfold Sc.vis at h
 have fin:∀{o:Zbh},(o=.local∨o=.cell∨o=.free)->S.names.lookup x=Za o->(if (x==("__debug__":Str)||x==("__classdict__":Str))=Zi then Zc else ixOf x S.N)=Za i ->
   X.N[i]?=Za x/\Vis X.env.scope x/\(x==("__debug__":Str))=Zk/\(x==("__classdict__":Str))=Zk:=λ ho e h=>by
  split at h
  ·cases h
  ·rename_i hd
   have hd':=ZbU.mpr hd
   rw[ZcK] at hd'
   refine⟨by rw[G.n];exact Jf8 h,?_,hd'.1,hd'.2⟩
   unfold Vis
   rw[G.sc,e]
   rcases ho with rfl|rfl|rfl
   ·exact .inl rfl
   ·exact .inr (.inl rfl)
   ·exact .inr (.inr rfl)
 cases e:S.names.lookup x with
 | none=>rw[e] at h;cases h
 | some o =>
  rw[e] at h
  cases o with
  | «local» =>exact fin (.inl rfl) e h
  | cell=>exact fin (.inr (.inl rfl)) e h
  | free=>exact fin (.inr (.inr rfl)) e h
  | _=>cases h
theorem Good.gl (G:Good ce k P S X)(h:S.gl x=Zi):Gl X x/\(x==("__debug__":Str))=Zk/\x≠"__name__":=by
 unfold Sc.gl at h
 simp only[Zr,beq_iff_eq,ZaZ] at h
 refine⟨?_,h.1.2,λ e=>?_⟩
 ·show X.env.kindOf x=_
  rw[G.kind]
  exact h.1.1
 ·have:=h.2
  rw[e] at this
  exact absurd this 01
theorem Good.sto (G:Good ce k P S X)(h:S.sto x=Za i):X.N[i]?=Za x/\Loc X.env.scope x/\(X.fn x=Zi∨X.env.scope.names.lookup x=Za .local):=by
 unfold Sc.sto at h
 unfold L2.Loc
 rw[G.sc]
 cases e:S.names.lookup x with
 | none=>rw[e] at h;cases h
 | some o =>
  rw[e] at h
  cases o with
  | «local» =>exact⟨by rw[G.n];exact Jf8 h,.inl rfl,.inr rfl⟩
  | cell =>
   dsimp only at h
   split at h
   ·rename_i ho
    exact⟨by rw[G.n];exact Jf8 h,.inr rfl,.inl (G.st ho x)⟩
   ·cases h
  | _=>cases h
theorem Good.nodup (G:Good ce k P S X):X.N.Nodup:=by rw[G.n];exact G.nd
theorem J2 (h:J0 a=Zi):ZF (a::es) env=(Zk,ZaU a env)::ZF es env:=by
 cases a<;>first|rfl|cases h
theorem Xf {pos:Pos}{env:Env}:∀{es:List Expr},es.all J0=Zi->(Zbo pos (ZF es env)).any (·.1)=Zk
 | [],_=>rfl
 | a::es,h=>by
  simp only[Zar,Zr] at h
  rw[J2 h.1]
  show(Zk||(Zbo pos (ZF es env)).any (·.1))=Zk
  rw[Xf h.2]<;>rfl
theorem Jhn:∀{es:List Expr},es.all J0=Zi->(Zbo pos (ZF es env)).all (λ x=>!x.1)=Zi
 | [],_=>rfl
 | a::es,h=>by
  simp only[Zar,Zr] at h
  rw[J2 h.1]
  show(Zi&&(Zbo pos (ZF es env)).all (λ x=>!x.1))=Zi
  rw[Jhn h.2]<;>rfl
theorem Jxn {es:List Expr}(ha:es.all J0=Zi)(hn:es.length<30):((Zbo pos (ZF es env)).all (λ x=>!x.1)&&(Zdt pos (Zcy [] env)).all (λ x=>x.1.isSome)
   && decide (es.length+([]:List ZdV).length+(if ([]:List ZdV).isEmpty then 0 else 1)<30))=Zi:=by
 show((Zbo pos (ZF es env)).all (λ x=>!x.1)&&Zi&&decide (es.length+0+0<30))=Zi
 rw[Jhn ha]
 simpa using hn
theorem XT:∀(l:List E1),ALen l.length (aAll l)
 | []=>Js8
 | _::r=>Jp3 (XT r)
theorem Vx:∀{es:List Expr},es.all J0=Zi->(∀e,PEi ce X e (f e))->PAi ce X es (aAll (es.map f))
 | [],_,_=>Vk
 | a::es,h,hf=>by
  simp only[Zar,Zr] at h
  exact QU (hf a) (Vx h.2 hf) (J2 h.1)
theorem Jv0 (hf:∀e,PEi ce X e (f e)):∀(vs:List Expr),PEi ce X (.BoolOp .And vs pos) (Jxd (vs.map f))
 | []=>Jl
 | [a]=>J0k (hf a)
 | a::b::r=>J2x Y3 (hf a) (Jv0 hf (b::r))
theorem Jzw (hf:∀e,PEi ce X e (f e)):∀(vs:List Expr),PEi ce X (.BoolOp .Or vs pos) (eOrs (vs.map f))
 | []=>Jl
 | [a]=>J0k (hf a)
 | a::b::r=>i_or Y3 (hf a) (Jzw hf (b::r))
theorem Jwj (hf:∀e,PTi ce X e (f e)):∀(vs:List Expr),PWi ce X (.BoolOp .And vs pos) (Jy2 (vs.map f))
 | []=>λ _=>Jl
 | [a]=>Jy4 (hf a)
 | a::b::r=>J17 (hf a) (Jwj hf (b::r))
theorem J14 (hf:∀e,PTi ce X e (f e)):∀(vs:List Expr),PWi ce X (.BoolOp .Or vs pos) (tOrs (vs.map f))
 | []=>λ _=>Jl
 | [a]=>J18 (hf a)
 | a::b::r=>J39 (hf a) (J14 hf (b::r))
theorem Jv1:∀{es:List Expr},es.all J0=Zi->(∀e,PGi ce X e (f e))->PGsi ce X es (gAll (es.map f))
 | [],_,_=>Jz7
 | a::es,h,hf=>by
  simp only[Zar,Zr] at h
  refine Jxm (hf a) (Jv1 h.2 hf) ?_
  cases a<;>first|rfl|exact absurd h.1 Zu
theorem Jvt:∀{es:List Expr},es.all J0=Zi->(ZaJ es env).length=es.length
 | [],_=>rfl
 | a::es,h=>by
  simp only[Zar,Zr] at h
  have:ZaJ (a::es) env=(Zk,Zdi a env)::ZaJ es env:=by cases a<;>first|rfl|exact absurd h.1 Zu
  rw[this,ZD,ZD,Jvt h.2]
theorem Jqa {env:Env}:∀{es:List Expr},es.all J0=Zi->(ZaJ es env).findIdx? (·.1)=Zc
 | [],_=>rfl
 | a::es,h=>by
  simp only[Zar,Zr] at h
  have:ZaJ (a::es) env=(Zk,Zdi a env)::ZaJ es env:=by cases a<;>first|rfl|exact absurd h.1 Zu
  rw[this,Zdb,Jqa h.2]
  rfl
theorem J3g (op:Zc8):OpI ce X (ZaV op) (binI op):=by
 cases op with
 | Add=>exact J3f
 | Sub=>exact J3l
 | Mult=>exact J07
 | FloorDiv=>exact J06
 | Mod=>exact J3i
 | Pow=>exact J3k
 | _=>exact λ _ _ _ _ _ _ _ _ _ _ _ _ _ _ _ _ K=>(show False from K).elim
theorem Yv (hu:X.A.units+64<cLine)(op:CmpOp):OpI ce X (Zav op) (cmpI op):=by
 cases op with
 | Lt=>exact o_lt
 | LtE=>exact o_le
 | Gt=>exact o_gt
 | GtE=>exact o_ge
 | Eq=>exact o_eq hu
 | NotEq=>exact o_ne hu
 | Is=>exact o_is
 | IsNot=>exact Jya
 | _=>exact λ _ _ _ _ _ _ _ _ _ _ _ _ _ _ _ _ K=>(show False from K).elim
theorem Jv9 (hu:X.A.units+64<cLine)(hn:∀c,ne c=Zi->∃C,ce c=Za C/\neIn X.K C=Zi)(op:CmpOp)(b:Expr):OpI ce X (Zav op) (cmpD ne op b):=by
 unfold cmpD
 split
 ·split
  ·exact J3h
  ·exact λ _ _ _ _ _ _ _ _ _ _ _ _ _ _ _ _ K=>(show False from K).elim
 ·split
  ·exact Jul
  ·exact λ _ _ _ _ _ _ _ _ _ _ _ _ _ _ _ _ K=>(show False from K).elim
 ·exact Yv hu op
theorem J4f (a:Expr):IxI ce X (ixD a):=by
 unfold ixD
 split
 ·exact J4e
 ·exact x_ix
theorem o_un (op:UnaryOp):UnI ce X (unaryOp op) (unI op):=by
 cases op with
 | Not=>exact Jy5 Y3
 | USub=>exact J4a
 | _=>exact λ _ _ _ _ _ _ _ _ _ _ _ _ _ K=>(show False from K).elim
theorem Jc2 (h:V3 o=Zi):ZcH o m env w=w:=by
 cases o with
 | Call f as ks p =>
  cases f with
  | Name x q =>
   cases as with
   | nil =>
    cases ks with
    | nil=>cases h
    | cons _ _=>rfl
   | cons _ _=>rfl
  | _=>rfl
 | _=>rfl
theorem Yl (h:X3 e=Zi)(x:Zg):ZbS e env x=pure x:=by
 cases e<;>first|rfl|cases h
theorem Jc6 (h:V4 e=Zi):ZcU e t l env=pure Zk:=by
 cases e<;>first|rfl|cases h
theorem Jt5 (h:Xd i=Zi):Jp0 i:=λ _ _=>by
 cases i<;>first|rfl|cases h
theorem Jhh {o:Expr}{m:Str}{ap pos:Pos}{es:List Expr}{env:Env}(hb:V3 o=Zi)(hs:es.all J0=Zi)(hl:(ap.endLine==pos.line)=Zi)(hn:es.length<30) :
  ZaU (.Call (.Attribute o m ap) es [] pos) env=(do
   let ov<-ZaU o env
   ZdX ap.atName
   let (f,first)<-Zbp [ov] (Zdo ov m (do return(<- importBound o env).getD Zi))
   callWith pos f first (Zbo pos (ZF es env)) (Zdt pos (Zcy [] env))):=by
 have hform:methodCallForm (es.length+([]:List ZdV).length) (Zbo pos (ZF es env)) (Zdt pos (Zcy [] env))=Zi:=by
  show((Zbo pos (ZF es env)).all (λ x=>!x.1)&&Zi&&decide (es.length+0+0<30))=Zi
  rw[Jhn hs]
  simpa using hn
 have hpos:methodCallPos Zi o env ap pos=pure pos:=by unfold methodCallPos;simp[hl]
 rw[arm_eval_Call,Jc2 hb]
 unfold methodCall
 rw[hform,hpos]
 rfl
end
section
variable {ce:CeT}{k:Nat}{P:Pg}{S:Sc}{X:Cx}
theorem Jko (G:Good ce k P S X)(N0 l c:List Str)(js:List Nat)(sc:Zbj):QM N0 l c js X.env.scope sc=QM N0 l c js S.fake sc:=by
 unfold QM
 rw[G.fk,G.sc]
 rfl
theorem Good.comp (G:Good ce k P S X){sc:Zbj}(h:QM S.N (V2 sc) (Q7 sc) (jsOf S sc) S.fake sc=Zi)(C:Zo)(s:Zn)(H:Hp)(fp:List Zo):Good ce k P (S.comp sc) (cxC X (V2 sc++Q7 sc) sc C s H fp):=by
 simp only[QM,Zr,decide_eq_true_eq] at h
 obtain⟨⟨⟨⟨⟨⟨⟨⟨⟨kF,kF0⟩,kNC⟩,kL⟩,kFr⟩,kFx⟩,kJ⟩,kLen⟩,kNd⟩,kLo⟩:=h
 refine⟨rfl,?_,kNd,kF,G.calm,G.room,λ z=>absurd z Zu,G.pg,λ z=>absurd z Zu,λ z=>absurd z Zu,λ z=>absurd z Zu⟩
 show(relabel sc X.env).names=_
 unfold relabel Sc.comp
 dsimp only
 refine List.map_congr_left λ x _=>?_
 obtain⟨n,kd⟩:=x
 dsimp only
 rw[G.fk,G.kind]
 simp
end
structure Snd (ce:CeT)(k:Nat)(P:Pg)(n:Nat):Prop where
 e:∀S X e,Good ce k P S X->PEi ce X e (ev P n S e)
 t:∀S X e,Good ce k P S X->PTi ce X e (evT P n S e)
 o:∀S X e,Good ce k P S X->PPi ce X e (evO P n S e)
 c:∀S X x args p pos,Good ce k P S X->S.gl x=Zi->args.all J0=Zi->PEi ce X (.Call (.Name x p) args [] pos) (Jq1 P n S x args)
 i:∀S X tg e,Good ce k P S X->PIi ce X tg e (evI P n S tg e)
 g:∀S X e,Good ce k P S X->PGi ce X e (tgt P n S e)
section
variable {ce:CeT}{k:Nat}{P:Pg}{n:Nat}{S:Sc}{X:Cx}
theorem Ju5:Snd ce k P 0:=⟨λ _ _ _ _=>Jl,λ _ _ _ _=>Jl,λ _ _ _ _=>Jl,λ _ _ _ _ _ _ _ _ _=>Jl,λ _ _ _ _ _=>Jgb,λ _ _ _ _=>Yy⟩
theorem Jjd {prog:ZB}{w:Zab}{K:W.Frag}{mg:Str->Option Zg}{base:Zau}{f:Fn}{fa:Zo}{fd:Za2}{ps:List Str}{m:Nat}{d:List IV}(D:FnD ce prog w K mg base k f fa fd ps)(h:f.fill m=Za d) :
  ∃ds,Qn K fd ps ds/\m+ds.length=ps.length/\∃vs,Vals vs ds/\∀ι H,RVs K ι H d vs:=by
 unfold Fn.fill at h
 split at h
 ·rename_i hz
  cases h
  obtain⟨ds,hb,hl,q⟩:=D.dv (f.dvs.length-(f.np-m)) 00
  exact⟨ds,hb,by rw[hl,D.len];omega,q⟩
 ·cases h
theorem Ju0 (G:Good ce k P S X)(hx:P.fn x=Za f)(hg:S.gl x=Zi){args:List Expr}(ha:args.all J0=Zi)(hf:∀e,PEi ce X e (g e)){p pos:Pos} :
  PEi ce X (.Call (.Name x p) args [] pos) (VV f args.length (aAll (args.map g))):=by
 obtain⟨fa,fd,ps,hm,hk,D⟩:=G.pg.fn x f hx
 obtain⟨gl,hdb,_⟩:=G.gl hg
 unfold VV
 cases hd:f.fill args.length with
 | none=>exact Jl
 | some d =>
  obtain⟨ds,hb,hl,q⟩:=Jjd D hd
  have hr:Room k X.A:=G.room.mono (Zbg k)
  cases args with
  | nil=>exact Jxo D.ok hr gl hm hk hb q (by simpa using hl) hdb
  | cons a es =>
   have ha':=ha
   simp only[Zar,Zr] at ha'
   refine J0b D.ok hr gl hm hk hb q (Vx ha hf) (λ σ h xs h' e=>?_) hdb (J2 ha'.1) (Xf ha'.2)
   have:=XT _ σ h xs h' e
   rw[Zm] at this
   rw[this]
   exact hl
theorem Ju1 (G:Good ce k P S X)(hx:P.cls x=Za f)(hg:S.gl x=Zi){args:List Expr}(ha:args.all J0=Zi)(hf:∀e,PEi ce X e (g e)){p pos:Pos} :
  PEi ce X (.Call (.Name x p) args [] pos) (Jnl x f args.length (aAll (args.map g))):=by
 obtain⟨C,fa,fd,ps,hm,hC,M,D⟩:=G.pg.cls x f hx
 obtain⟨gl,hdb,_⟩:=G.gl hg
 unfold Jnl
 cases hd:f.fill (args.length+1) with
 | none=>exact Jl
 | some d =>
  obtain⟨ds,hb,hl,q⟩:=Jjd D hd
  cases args with
  | nil=>exact Jxr M D.ok hC G.room gl hm hb q (by simp at hl;omega) hdb
  | cons a es =>
   have ha':=ha
   simp only[Zar,Zr] at ha'
   refine J0f M D.ok hC G.room gl hm hb q (Vx ha hf) (λ σ h xs h' e=>?_) hdb (J2 ha'.1) (Xf ha'.2)
   have:=XT _ σ h xs h' e
   rw[Zm] at this
   omega
theorem Jqv (G:Good ce k P S X)(m:Str)(n:Nat):Jpz ce X m n (Qd P m n):=by
 intro c f dvs h
 unfold Qd at h
 cases hm:P.meth c m with
 | none=>rw[hm] at h;cases h
 | some fn =>
  rw[hm] at h
  dsimp only at h
  cases hd:fn.fill (n+1) with
  | none=>rw[hd] at h;cases h
  | some d =>
   rw[hd] at h
   cases h
   obtain⟨C,fa,fd,ps,hC,hcl,hM,D⟩:=G.pg.meth c m fn hm
   obtain⟨ds,hb,hl,q⟩:=Jjd D hd
   exact⟨C,fa,fd,k,ps,ds,hC,hcl,hM,D.ok,G.room.mono (Zbg k),hb,q,00⟩
theorem J2k (h:bmOf T m n=Za g):∃id,PlainAttrs T/\Slot T m id/\typeOf (.builtin id)=pure (.type "method_descriptor")/\MtI ce X T id g:=by
 unfold bmOf at h
 split at h
 ·rename_i hm
  simp only[Zr,beq_iff_eq] at hm
  obtain⟨⟨rfl,rfl⟩,_⟩:=hm
  cases h
  exact⟨_,ZbF,PySem.F.slot_list_append,PySem.F.type_list_append,Jua⟩
 ·split at h
  ·rename_i hm
   simp only[Zr,beq_iff_eq] at hm
   obtain⟨⟨rfl,rfl⟩,_⟩:=hm
   cases h
   exact⟨_,ZbF,PySem.F.slot_list_extend,PySem.F.type_list_extend,Jub⟩
  ·split at h
   ·rename_i hm
    simp only[Zr,beq_iff_eq] at hm
    obtain⟨⟨rfl,rfl⟩,_⟩:=hm
    cases h
    exact⟨_,ZbF,PySem.F.slot_list_pop,PySem.F.type_list_pop,J00⟩
   ·split at h
    ·rename_i hm
     simp only[Zr,beq_iff_eq] at hm
     obtain⟨⟨rfl,rfl⟩,_⟩:=hm
     cases h
     exact⟨_,ZbF,PySem.F.slot_list_remove,PySem.F.type_list_remove,Juc⟩
    ·split at h
     ·rename_i hm
      simp only[Zr,beq_iff_eq] at hm
      obtain⟨⟨rfl,rfl⟩,_⟩:=hm
      cases h
      exact⟨_,PySem.F.plainAttrs_dict,ZcR,PySem.F.type_dict_setdefault,Jud⟩
     ·cases h
theorem J12 {o:Expr}{m:Str}{mo:E1}{args:List Expr}{f:Expr->E1}{ap pos:Pos}{T:String}{g:IV->List IV->IH->Res IV}{n:Nat}(hg:bmOf T m n=Za g)(ho:PEi ce X o mo)(hf:∀e,PEi ce X e (f e))(ha:args.all J0=Zi)(hb:V3 o=Zi)(hl:(ap.endLine==pos.line)=Zi)(hn:args.length<30) :
  PEi ce X (.Call (.Attribute o m ap) args [] pos) (eBm T g mo (aAll (args.map f))):=by
 obtain⟨id,pa,sl,ty,mt⟩:=J2k (ce:=ce) (X:=X) hg
 cases args with
 | nil=>exact J2z pa sl ty mt ho (Jc2 hb) hl
 | cons a es =>
  have ha':=ha
  simp only[Zar,Zr] at ha'
  exact i_bm pa sl ty mt ho (Vx ha hf) (Jc2 hb) (Jxn ha hn) hl (J2 ha'.1) (Xf ha'.2)
theorem Jyx (G:Good ce k P S X){o:Expr}{m:Str}{mo:E1}{args:List Expr}{f:Expr->E1}{ap pos:Pos}(ho:PEi ce X o mo)(hf:∀e,PEi ce X e (f e))(ha:args.all J0=Zi)(hb:V3 o=Zi)(hl:(ap.endLine==pos.line)=Zi)(hn:args.length<30) :
  PEi ce X (.Call (.Attribute o m ap) args [] pos) (Jn P m args.length mo (aAll (args.map f))):=by
 refine J3u λ σi h=>?_
 unfold Jn
 cases e:mo σi h with
 | exc n h1=>exact⟨λ _ _=>.stuck,rfl,Jl⟩
 | stuck=>exact⟨λ _ _=>.stuck,rfl,Jl⟩
 | ok v h1 =>
  dsimp only
  split
  ·refine⟨_,rfl,?_⟩
   cases args with
   | nil=>exact Jxs ho (Jqv G m 0) (Jhh hb ha hl hn)
   | cons a es =>
    have ha':=ha
    simp only[Zar,Zr] at ha'
    refine J0i ho (Jqv G m (a::es).length) (Vx ha hf) (λ σ h xs h' e=>?_) (J2 ha'.1) (Xf ha'.2) (Jhh hb ha hl hn)
    have:=XT _ σ h xs h' e
    rwa [Zm] at this
  ·cases hg:bmOf (tyS v h1) m args.length with
   | none=>exact⟨λ _ _=>.stuck,rfl,Jl⟩
   | some g=>exact⟨_,rfl,J12 hg ho hf ha hb hl hn⟩
theorem Jux (G:Good ce k P S X){o:Expr}{m:Str}{mo:E1}{args:List Expr}{f:Expr->E1}{ap pos:Pos}(ho:PEi ce X o mo)(hf:∀e,PEi ce X e (f e))(ha:args.all J0=Zi)(hb:V3 o=Zi)(hl:(ap.endLine==pos.line)=Zi)(hn:args.length<30) :
  PEi ce X (.Call (.Attribute o m ap) args [] pos) (Jxe P m args.length (Jm9 P S m o) mo (aAll (args.map f))):=by
 cases eb:Jm9 P S m o with
 | none=>exact Jyx G ho hf ha hb hl hn
 | some g =>
  cases o with
  | Name x q =>
   have eb2:(if m=="__init__"&&S.gl x&&P.bas x then P.cls x else Zc)=Za g:=eb
   clear eb
   split at eb2
   ·rename_i hq
    simp only[Zr,beq_iff_eq] at hq
    obtain⟨⟨rfl,hg⟩,hx⟩:=hq
    obtain⟨C,fa,fd,ps,hm,hC,M,D⟩:=G.pg.cls x g eb2
    obtain⟨C',hm',B⟩:=G.pg.bas x hx
    rw[hm] at hm'
    cases hm'
    obtain⟨gl,hdb,_⟩:=G.gl hg
    show PEi ce X _ (if args.length=0 then stE else VV g args.length (aAll (args.map f)))
    split
    ·exact Jl
    rename_i hz
    unfold VV
    cases hd:g.fill args.length with
    | none=>exact Jl
    | some d =>
     obtain⟨ds,hb',hl',q⟩:=Jjd D hd
     have hr:Room k X.A:=G.room.mono (Zbg k)
     cases args with
     | nil=>exact absurd rfl hz
     | cons a es =>
      have ha':=ha
      simp only[Zar,Zr] at ha'
      refine J0a D.ok hr gl hm B M hb' q (Vx ha hf) (λ σ h xs h' e=>?_) hdb (J2 ha'.1) (Xf ha'.2) (Jhh hb ha hl hn)
      have:=XT _ σ h xs h' e
      rw[Zm] at this
      rw[this]
      exact hl'
   ·cases eb2
  | _=>cases eb
theorem Jyy (G:Good ce k P S X){a:Expr}{ma:E1}{y:Str}{p p2 pos:Pos}(ha:PEi ce X a ma)(hs:J0 a=Zi)(hg:S.gl "isinstance"=Zi)(hfr:P.free "isinstance"=Zi)(hy:S.gl y=Zi) :
  PEi ce X (.Call (.Name "isinstance" p) [a,.Name y p2] [] pos) (Jxf (Js9 P y) ma):=by
 unfold Jxf
 cases e:Js9 P y with
 | none=>exact Jl
 | some ans =>
  obtain⟨gy,ydb,yn⟩:=G.gl hy
  have fin:∀{c:Zg},ClsE X (.Name y p2) c->IsOk ce X.K c ans->PEi ce X (.Call (.Name "isinstance" p) [a,.Name y p2] [] pos) (eIsi ans ma):=λ hc O =>
   J23 hc O ha (G.gl hg).1 (G.pg.free _ hfr) rfl (J2 hs) rfl rfl
  unfold Js9 at e
  cases hi:P.isa y with
  | some g =>
   rw[hi] at e
   cases e
   obtain⟨c,hm,O⟩:=G.pg.isa y g hi
   exact fin (Jw8 gy hm ydb) O
  | none =>
   rw[hi] at e
   dsimp only at e
   split at e
   ·rename_i hf
    have hm:=G.pg.free y hf
    split at e
    ·rename_i q;cases (beq_iff_eq.mp q);cases e;exact fin (Ya gy hm rfl yn ydb) Jty
    ·split at e
     ·rename_i q;cases (beq_iff_eq.mp q);cases e;exact fin (Ya gy hm rfl yn ydb) Jrh
     ·split at e
      ·rename_i q;cases (beq_iff_eq.mp q);cases e;exact fin (Ya gy hm rfl yn ydb) Jtz
      ·split at e
       ·rename_i q
        cases (beq_iff_eq.mp q)
        cases e
        refine fin (Ya gy hm rfl yn ydb) ?_
        split
        ·rename_i q
         refine Jpa λ C hC=>?_
         obtain⟨C',h1,_,h2⟩:=G.pg.ne _ q
         cases hC.symm.trans h1
         exact h2
        ·exact Jk7
       ·split at e
        ·rename_i q;cases (beq_iff_eq.mp q);cases e;exact fin (Ya gy hm rfl yn ydb) Jt0
        ·cases e
   ·cases e
theorem Juy (G:Good ce k P S X){a:Expr}{ma:E1}{x:Str}{p pos:Pos}(ha:PEi ce X a ma)(hs:J0 a=Zi)(hg:S.gl x=Zi)(hfr:P.free x=Zi)(hx:Jrf x=Zi) :
  PEi ce X (.Call (.Name x p) [a] [] pos) (eCB (bltF x) (Jc ma Jd)):=by
 obtain⟨gx,xdb,xn⟩:=G.gl hg
 have hm:=G.pg.free x hfr
 have hh:=G.room.hd
 have pa:PAi ce X [a] (Jc ma Jd):=QU ha Vk (J2 hs)
 unfold Jrf at hx
 simp only[ZaF,beq_iff_eq] at hx
 rcases hx with(((rfl|rfl)|rfl)|rfl)|rfl
 ·exact VY J2m gx hm rfl pa xn xdb (J2 hs) rfl
 ·exact VY (J2l hh) gx hm rfl pa xn xdb (J2 hs) rfl
 ·exact VY (J2p hh) gx hm rfl pa xn xdb (J2 hs) rfl
 ·exact VY (Jzl hh) gx hm rfl pa xn xdb (J2 hs) rfl
 ·exact VY (Jzk hh) gx hm rfl pa xn xdb (J2 hs) rfl
theorem Juz (G:Good ce k P S X){a:Expr}{ma:E1}{x:Str}{p pos:Pos}(ha:PEi ce X a ma)(hs:J0 a=Zi)(hg:S.gl x=Zi)(hfr:P.free x=Zi)(hx:Jrg x=Zi) :
  PEi ce X (.Call (.Name x p) [a] [] pos) (eCB (bltT x) (Jc ma Jd)):=by
 obtain⟨gx,xdb,xn⟩:=G.gl hg
 have hm:=G.pg.free x hfr
 have pa:PAi ce X [a] (Jc ma Jd):=QU ha Vk (J2 hs)
 unfold Jrg at hx
 simp only[ZaF,beq_iff_eq] at hx
 rcases hx with rfl|rfl
 ·exact Jra Jzj gx hm rfl pa xn xdb (J2 hs) rfl
 ·exact Jra Jw7 gx hm rfl pa xn xdb (J2 hs) rfl
theorem Jsj (G:Good ce k P S X)(hf:∀e,PEi ce X e (f e)){args:List Expr}{p pos:Pos}(hg:S.gl x=Zi)(ha:args.all J0=Zi)(hfr:P.free x=Zi) :
  PEi ce X (.Call (.Name x p) args [] pos) (Ji7 P S x f args):=by
 unfold Ji7
 split
 ·rename_i a b
  simp only[Zar,Zr] at ha
  obtain⟨gx,xdb,xn⟩:=G.gl hg
  have hm:=G.pg.free x hfr
  have pa:PAi ce X [a,b] (Jc (f a) (Jc (f b) Jd)):=QU (hf a) (QU (hf b) Vk (J2 ha.2.1)) (J2 ha.1)
  have h1:∀pos,(Zbo pos (ZF [b] X.env)).any (·.1)=Zk:=λ pos=>Xf (by simp[ha.2.1])
  split
  ·rename_i hs
   cases (beq_iff_eq.mp hs)
   exact VY (J2n G.calm) gx hm rfl pa xn xdb (J2 ha.1) (h1 _)
  ·split
   ·rename_i hs
    cases (beq_iff_eq.mp hs)
    exact VY (J2o G.calm) gx hm rfl pa xn xdb (J2 ha.1) (h1 _)
   ·split
    ·rename_i y p2 _
     split
     ·rename_i hs
      simp only[Zr,beq_iff_eq] at hs
      obtain⟨rfl,hy⟩:=hs
      exact Jyy G (hf a) ha.1 hg hfr hy
     ·exact Jl
    ·exact Jl
 ·rename_i a
  simp only[Zar,Zr] at ha
  split
  ·rename_i e he
   split at he
   ·rename_i hc
    simp only[Zr,beq_iff_eq] at hc
    obtain⟨⟨rfl,g2⟩,f2⟩:=hc
    unfold Jwh at he
    split at he
    ·split at he
     ·rename_i hq
      simp only[Zr,beq_iff_eq] at hq
      obtain⟨rfl,ns⟩:=hq
      cases he
      exact Jtt G.room.hd (G.gl hg).1 (G.pg.free _ hfr) (G.gl g2).1 (G.pg.free _ f2) (QU (hf e) Vk (J2 ns)) (J2 ns)
     ·cases he
    ·cases he
   ·cases he
  ·split
   ·rename_i e he
    split at he
    ·rename_i hc
     simp only[Zr,beq_iff_eq] at hc
     obtain⟨⟨rfl,g2⟩,f2⟩:=hc
     unfold Jnv at he
     split at he
     ·split at he
      ·rename_i hq
       simp only[Zr,beq_iff_eq] at hq
       obtain⟨rfl,ns⟩:=hq
       cases he
       exact Jl
      ·cases he
     ·cases he
    ·cases he
   ·split
    ·rename_i hb
     exact Juy G (hf a) ha.1 hg hfr hb
    ·split
     ·rename_i hb
      exact Juz G (hf a) ha.1 hg hfr hb
     ·exact Jl
 ·exact Jl
theorem Qx.of (G:Good ce k P S X)(h:Qx S y sc=Zi):LamSc X.N X.env.scope.names y (Q7 sc) (jsOf S sc) sc:=by
 rw[G.n,G.sc]
 simp only[Qx,Zr,beq_iff_eq,ZaZ,decide_eq_true_eq,ZaG,ZaF,beq_eq_false_iff_ne] at h
 obtain⟨⟨⟨⟨⟨⟨⟨h1,h2⟩,h3⟩,h4⟩,h5⟩,h6⟩,h7⟩,h8⟩:=h
 refine⟨h1,h2,h3,h4,h5,λ z hz e=>(h6 z hz).resolve_left λ q=>q e,λ z e=>Zai e,λ i j z ej ez=>?_,by simp[jsOf],h8⟩
 unfold jsOf at ej
 rw[Zt,ez] at ej
 cases ej
 exact h7 z (Zb4 ez)
theorem Good.lam (G:Good ce k P S X)(ho:S.own=Zi){y:Str}{sc:Zbj}(h:Qx S y sc=Zi)(f:Zo)(cd:Zg)(s:Zn)(H:Hp):Good ce k P (S.lam y sc) (cxL X X.A.in1 (y::Q7 sc) S.q sc f cd s H):=by
 have L:=Qx.of G h
 exact⟨rfl,rfl,L.nd,L.kind,rfl,(G.room3 ho).in1.deeper _,λ z=>absurd z Zu,G.pg,λ z=>absurd z Zu,λ z=>absurd z Zu,λ z=>absurd z Zu⟩
theorem Good.lam2 (G:Good ce k P S X)(ho:S.own=Zi){y:Str}{sc:Zbj}(h:Qx S y sc=Zi)(f:Zo)(cd:Zg)(s:Zn)(H:Hp):Good ce k P (S.lam y sc) (cxL X X.A.in1.in1 (y::Q7 sc) S.q sc f cd s H):=by
 have L:=Qx.of G h
 have R:=G.room3 ho
 refine⟨rfl,rfl,L.nd,L.kind,rfl,⟨R.hd,?_,?_⟩,λ z=>absurd z Zu,G.pg,λ z=>absurd z Zu,λ z=>absurd z Zu,λ z=>absurd z Zu⟩
 ·have:=R.dp
  show X.A.depth+1+3*(k+1)+5<_
  omega
 ·have:=R.un
  show X.A.units+1+1+3+16*(k+1)+200<_
  omega
theorem Jpv (G:Good ce k P S X)(hf:∀S X e,Good ce k P S X->PEi ce X e (f S e)):PEi ce X (.Call (.Name x p) [a] [⟨Za y,.Lambda ps body sc lp,kp⟩,⟨Za y2,d,kp2⟩] pos) (Jsk P S f x a y ps body sc y2 d):=by
 unfold Jsk
 split
 ·rename_i e z j he hy hj
  split
  ·rename_i hq
   simp only[Zr,beq_iff_eq] at hq
   obtain⟨⟨⟨⟨⟨⟨⟨⟨⟨rfl,rfl⟩,rfl⟩,ht⟩,g1⟩,f1⟩,g2⟩,f2⟩,ho⟩,ok⟩:=hq
   unfold Jnv at he
   unfold J0l at ht
   split at he
   ·split at he
    ·rename_i hc
     simp only[Zr,beq_iff_eq] at hc
     obtain⟨rfl,ns⟩:=hc
     cases he
     split at ht
     ·exact Jtw (k:=k) G.room.hd (G.gl g1).1 (G.pg.free _ f1) (G.gl g2).1 (G.pg.free _ f2) (QU (hf _ _ _ G) Vk (J2 ns)) (J2 ns) (G.room3 ho) (G.code ho).1 (G.code ho).2 (G.pg.blt _ _ hj) hy (Qx.of G ok) λ f cd s' H'=>hf _ _ _ (G.lam2 ho ok f cd s' H')
     ·cases ht
    ·cases he
   ·cases he
  ·exact Jl
 ·exact Jl
theorem Ju2 (G:Good ce k P S X)(hf:∀S X e,Good ce k P S X->PEi ce X e (f S e)):PEi ce X (.Call (.Name x p) [a] [⟨Za y,d,kp⟩] pos) (minK P S f x a y d):=by
 cases d with
 | Lambda ps body sc lp =>
  show PEi ce X _ (match QQ ps,P.tabs S.q with|some z,Za j=>if x=="min"&&y=="key"&&S.gl x&&P.free x&&J0 a&&S.own&&Qx S z sc then Xt ltT S.q j (jsOf S sc) (Jc (f S a) Jd) (f (S.lam z sc) body) else stE|_,_=>stE)
  cases hy:QQ ps with
  | none=>exact Jl
  | some z =>
   cases hj:P.tabs S.q with
   | none=>exact Jl
   | some j =>
    dsimp only
    split
    ·rename_i hq
     simp only[Zr,beq_iff_eq] at hq
     obtain⟨⟨⟨⟨⟨⟨rfl,rfl⟩,g1⟩,f1⟩,ns⟩,ho⟩,ok⟩:=hq
     exact J0j (k:=k+1) (G.gl g1).1 (G.pg.free _ f1) (QU (hf _ _ _ G) Vk (J2 ns)) (λ A h=>Jw9 00) (J2 ns) (G.room3 ho) (G.code ho).1 (G.code ho).2 (G.pg.blt _ _ hj) hy (Qx.of G ok) λ f cd s' H'=>hf _ _ _ (G.lam ho ok f cd s' H')
    ·exact Jl
 | _=>exact Jl
theorem J13 (G:Good ce k P S X)(hf:∀S X e,Good ce k P S X->PEi ce X e (f S e)):PEi ce X (.Call (.Name x p) args kws pos) (Jro P S f x args kws):=by
 unfold Jro
 split
 ·split
  ·rename_i hq
   simp only[Zr,beq_iff_eq] at hq
   obtain⟨⟨⟨⟨rfl,rfl⟩,g1⟩,f1⟩,ns⟩:=hq
   exact J0g G.room.hd (G.gl g1).1 (G.pg.free _ f1) (QU (hf _ _ _ G) Vk (J2 ns)) (hf _ _ _ G) (J2 ns)
  ·exact Ju2 G hf
 ·split
  ·exact Jpv G hf
  split
  ·rename_i y j hy hj
   split
   ·rename_i hq
    simp only[Zr,beq_iff_eq] at hq
    obtain⟨⟨⟨⟨⟨⟨⟨rfl,rfl⟩,rfl⟩,g1⟩,f1⟩,ns⟩,ho⟩,ok⟩:=hq
    exact J0h (k:=k+1) (G.gl g1).1 (G.pg.free _ f1) (QU (hf _ _ _ G) Vk (J2 ns)) (hf _ _ _ G) (J2 ns) (G.room3 ho) (G.code ho).1 (G.code ho).2 (G.pg.blt _ _ hj) hy (Qx.of G ok) λ f cd s' H'=>hf _ _ _ (G.lam ho ok f cd s' H')
   ·exact Jl
  ·exact Jl
 ·exact Jl
theorem Ju4 (ih:Snd ce k P n):Snd ce k P (n+1):=by
 refine⟨λ S X e G=>?_,λ S X e G=>?_,λ S X e G=>?_,λ S X x args p pos G hg ha=>?_,λ S X tg e G=>?_,λ S X e G=>?_⟩
 ·have ihe:=λ e=>ih.e S X e G
  have hu:=G.room.units
  cases e with
  | Constant c j p =>
   cases c with
   | int i=>exact J22
   | bool b=>exact i_bl
   | none=>exact J25
   | str x=>exact J26
   | _=>exact Jl
  | Name x p =>
   show PEi ce X (.Name x p) (match S.vis x with|some i=>Ja i|none=>if S.gl x then(match P.con x with|some v=>eC v|none=>stE) else stE)
   cases hv:S.vis x with
   | some i =>
    obtain⟨h1,h2,h3,h4⟩:=G.vis hv
    exact J28 i h1 h2 h3 h4
   | none =>
    dsimp only
    split
    ·rename_i hg
     obtain⟨gx,xdb,_⟩:=G.gl hg
     cases hc:P.con x with
     | none=>exact Jl
     | some v =>
      obtain⟨u,y,hm,r,q⟩:=G.pg.con x v hc
      exact J0e gx hm r q xdb
    ·exact Jl
  | BinOp a op b p=>exact J2y (J3g op) (ihe a) (ihe b)
  | UnaryOp op a p=>exact i_un (o_un op) (ihe a)
  | BoolOp op vs p =>
   cases op with
   | And=>exact Jv0 ihe vs
   | Or=>exact Jzw ihe vs
  | IfExp t a b p=>exact Jxq (ih.t S X t G) (ihe a) (ihe b)
  | Compare a ops cs p =>
   match ops,cs with
   | [o],[b] =>
    show PEi ce X _ (if Zcm o b then stE else Jb (cmpD P.ne o b) (ev P n S a) (ev P n S b))
    split
    ·exact Jl
    ·rename_i hb
     exact J20 (Jv9 hu (λ c z=>let ⟨C,p,q,_⟩:=G.pg.ne c z;⟨C,p,q⟩) o b) (ihe a) (ihe b) (ZbU.mpr hb)
   | [o,o'],[b,c] =>
    show PEi ce X _ (if Zds [o,o'] [b,c] then stE else Qa (cmpI o) (cmpI o') (ev P n S a) (ev P n S b) (ev P n S c))
    split
    ·exact Jl
    ·rename_i hb
     exact Jxp (Yv hu o) (Yv hu o') (ihe a) (ihe b) (ihe c) (ZbU.mpr hb)
   | [],_=>exact Jl
   | [_],[]=>exact Jl
   | [_],_::_::_=>exact Jl
   | [_,_],[]=>exact Jl
   | [_,_],[_]=>exact Jl
   | [_,_],_::_::_::_=>exact Jl
   | _::_::_::_,_=>exact Jl
  | Tuple es j p =>
   show PEi ce X _ (if es.all J0 then eTup (aAll (es.map (ev P n S))) else stE)
   split
   ·rename_i hs
    exact J27 (Vx hs ihe)
   ·exact Jl
  | List es p =>
   show PEi ce X _ (if es.all J0 then JD (aAll (es.map (ev P n S))) else stE)
   split
   ·rename_i hs
    exact J24 (Vx hs ihe)
   ·exact Jl
  | Dict ks vs p =>
   match ks,vs with
   | [Za k],[v]=>exact Jl
   | [],[]=>exact J0c
   | [],_::_=>exact Jl
   | [Zc],_=>exact Jl
   | [Za _],[]=>exact Jl
   | [Za _],_::_::_=>exact Jl
   | some _::_::_,_=>exact Jl
   | none::_::_,_=>exact Jl
  | Subscript a i p =>
   cases i with
   | Slice lo hi st q =>
    cases st with
    | none=>exact Jxt x_sl (ihe a) (ih.o S X lo G) (ih.o S X hi G)
    | some st=>exact Jl
   | _=>exact i_ix (J4f a) (ihe a) (ihe _) (Jt5 rfl)
  | Attribute o f p =>
   show PEi ce X _ (if V3 o&&P.fld f then Jo f (ev P n S o) else stE)
   split
   ·rename_i hs
    simp only[Zr] at hs
    exact J21 (ihe o) (G.pg.fld f hs.2) (Jc2 hs.1)
   ·exact Jl
  | Call f args kws p =>
   cases kws with
   | cons kw kws =>
    cases f with
    | Name x q=>exact J13 G λ S X e G=>ih.e S X e G
    | _=>exact Jl
   | nil =>
    cases f with
    | Name x q =>
     show PEi ce X _ (if S.gl x&&args.all J0 then Jq1 P n S x args else stE)
     split
     ·rename_i hs
      simp only[Zr] at hs
      exact ih.c S X x args q p G hs.1 hs.2
     ·exact Jl
    | Attribute o m ap =>
     show PEi ce X _ (if args.all J0&&V3 o&&(ap.endLine==p.line)&&decide (args.length<30) then Jxe P m args.length (Jm9 P S m o) (ev P n S o) (aAll (args.map (ev P n S))) else stE)
     split
     ·rename_i hs
      simp only[Zr,decide_eq_true_eq] at hs
      exact Jux G (ihe o) ihe hs.1.1.1 hs.1.1.2 hs.1.2 hs.2
     ·exact Jl
    | _=>exact Jl
  | ListComp elt gens sc p =>
   match gens with
   | [⟨tg,iter,ifs,as⟩] =>
    show PEi ce X _ (if as=0/\X3 iter=Zi/\QM S.N (V2 sc) (Q7 sc) (jsOf S sc) S.fake sc=Zi then
     Jqq ifs (evT P n (S.comp sc)) (λ mt=>Js (evI P n S tg iter) (V2 sc).length (jsOf S sc) (tgt P n (S.comp sc) tg) mt (ev P n (S.comp sc) elt)) else stE)
    split
    ·rename_i hs
     obtain⟨rfl,hi,ok⟩:=hs
     have Gc:=G.comp ok
     have ok':=ok
     rw[<- Jko G] at ok'
     match ifs with
     | []=>exact Jv2 G.calm (ih.i S X tg iter G) (λ C s H fp=>ih.g _ _ tg (Gc C s H fp)) (λ C s H fp=>Jwn) (λ C s H fp=>ih.e _ _ elt (Gc C s H fp)) ok' G.n rfl (Yl hi)
     | [c]=>exact Jv2 G.calm (ih.i S X tg iter G) (λ C s H fp=>ih.g _ _ tg (Gc C s H fp)) (λ C s H fp=>Jwo (ih.t _ _ c (Gc C s H fp))) (λ C s H fp=>ih.e _ _ elt (Gc C s H fp)) ok' G.n rfl (Yl hi)
     | _::_::_=>exact Jl
    ·exact Jl
   | []=>exact Jl
   | ⟨_,_,_,_⟩::_::_=>exact Jl
  | _=>exact Jl
 ·have ihe:=λ e=>ih.e S X e G
  have hu:=G.room.units
  cases e with
  | UnaryOp op a p =>
   cases op with
   | Not=>exact J36 (ih.t S X a G)
   | _=>exact J15 Y3 (ihe _)
  | BoolOp op vs p =>
   cases op with
   | And=>exact(Jwj (λ e=>ih.t S X e G) vs).t
   | Or=>exact(J14 (λ e=>ih.t S X e G) vs).t
  | IfExp t a b p=>exact Jl
  | Compare a ops cs p =>
   match ops,cs with
   | [o],[b] =>
    show PTi ce X _ (if Zcm o b then stT else Jh asB (Jb (cmpD P.ne o b) (ev P n S a) (ev P n S b)))
    split
    ·exact Jl
    ·rename_i hb
     exact J35 (Jv9 hu (λ c z=>let ⟨C,p,q,_⟩:=G.pg.ne c z;⟨C,p,q⟩) o b) (ihe a) (ihe b) (ZbU.mpr hb)
   | [o,o'],[b,c] =>
    show PTi ce X _ (if Zds [o,o'] [b,c] then stT else Jh asB (Qa (cmpI o) (cmpI o') (ev P n S a) (ev P n S b) (ev P n S c)))
    split
    ·exact Jl
    ·rename_i hb
     exact Jy3 (Yv hu o) (Yv hu o') (ihe a) (ihe b) (ihe c) (ZbU.mpr hb)
   | [],_=>exact Jl
   | [_],[]=>exact Jl
   | [_],_::_::_=>exact Jl
   | [_,_],[]=>exact Jl
   | [_,_],[_]=>exact Jl
   | [_,_],_::_::_::_=>exact Jl
   | _::_::_::_,_=>exact Jl
  | _=>exact J15 Y3 (ihe _)
 ·cases e with
  | none=>exact J1e
  | some e=>exact J1f (ih.e S X e G)
 ·have ihe:=λ e=>ih.e S X e G
  show PEi ce X _ (match P.fn x with
  | some f=>VV f args.length (aAll (args.map (ev P n S)))
  | none=>match P.cls x with
   | some f=>Jnl x f args.length (aAll (args.map (ev P n S)))
   | none=>if P.free x then Ji7 P S x (ev P n S) args else stE)
  cases hx:P.fn x with
  | some f=>exact Ju0 G hx hg ha ihe
  | none =>
   dsimp only
   cases hc:P.cls x with
   | some f=>exact Ju1 G hc hg ha ihe
   | none =>
    dsimp only
    split
    ·rename_i hfr
     exact Jsj G ihe hg ha hfr
    ·exact Jl
 ·have ihe:=λ e=>ih.e S X e G
  cases e with
  | Call f args kws p =>
   cases kws with
   | cons _ _=>cases f<;>exact Jts (ihe _)
   | nil =>
    cases f with
    | Name x q =>
     show PIi ce X tg _ (if S.gl x&&P.free x&&args.all J0&&(x=="range") then Jz9 args.length (aAll (args.map (ev P n S)))
      else if S.gl x&&P.free x&&args.all J0&&(x=="enumerate") then(match tg,args with
       | .Tuple ..,[a]=>iRg Qw (Jc (ev P n S a) Jd)
       | _,_=>stI)
      else J6 (ev P n S (.Call (.Name x q) args [] p)))
     split
     ·rename_i hs
      simp only[Zr,beq_iff_eq] at hs
      obtain⟨⟨⟨hg,hf⟩,ha⟩,rfl⟩:=hs
      obtain⟨gx,_,_⟩:=G.gl hg
      have hm:=G.pg.free _ hf
      have pa:=Vx ha ihe
      match args,ha,pa with
      | [],_,_=>exact Jgb
      | [a],ha,pa =>
       simp only[Zar,Zr] at ha
       exact Jtu gx hm pa (J2 ha.1)
      | [a,b],ha,pa =>
       simp only[Zar,Zr] at ha
       exact Jtv gx hm pa (by rw[J2 ha.1,J2 ha.2.1];rfl) (J2 ha.2.1)
      | _::_::_::_,_,_=>exact Jgb
     ·split
      ·rename_i hs
       simp only[Zr,beq_iff_eq] at hs
       obtain⟨⟨⟨hg,hf⟩,ha⟩,rfl⟩:=hs
       obtain⟨gx,_,_⟩:=G.gl hg
       have hm:=G.pg.free _ hf
       split
       ·simp only[Zar,Zr] at ha
        exact J0d gx hm (QU (ihe _) Vk (J2 ha.1)) (J2 ha.1)
       ·exact Jgb
      ·exact Jts (ihe _)
    | _=>exact Jts (ihe _)
  | _=>exact Jts (ihe _)
 ·cases e with
  | Name x p =>
   show PGi ce X _ (match S.sto x with|some i=>gNm i|none=>stG)
   cases hv:S.sto x with
   | none=>exact Yy
   | some i =>
    obtain⟨h1,h2,h3⟩:=G.sto hv
    exact g_nm G.nodup h1 h2 h3
  | Tuple es j p =>
   show PGi ce X _ (if es.all J0 then gTp es.length (gAll (es.map (tgt P n S))) else stG)
   split
   ·rename_i hs
    exact J2v G.calm (Jv1 hs λ e=>ih.g S X e G) (Jvt hs) (Jqa hs)
   ·exact Yy
  | Subscript o i p =>
   show PGi ce X _ (if Xd i then gSbF o (ev P n S o) (ev P n S i) else stG)
   split
   ·rename_i hs
    unfold gSbF
    split
    ·refine Jz3 (ih.e S X o G) (ih.e S X i G) λ v=>?_
     cases i<;>first|rfl|cases hs
    ·refine J2u (ih.e S X o G) (ih.e S X i G) λ v=>?_
     cases i<;>first|rfl|cases hs
   ·exact Yy
  | _=>exact Yy
theorem Jjy (ce:CeT)(k:Nat)(P:Pg):∀n,Snd ce k P n
 | 0=>Ju5
 | n+1=>Ju4 (Jjy ce k P n)
end
section
variable {ce:CeT}{X:Cx}{pos:Pos}
theorem Jyr {c:Expr}{body:List ZcC}{mt:T1}{mb:S1}(hst:X.stack=X.env::X.outer)(hf:X.env.frame=Za X.env.locals)(hc:PTi ce X c mt)(hb:PS2 ce X body mb):PS1 ce X (.While c body [] pos) (XD mt mb):=by
 intro pj s σ H ι σi h Q E N K
 rw[Jlj] at K
 generalize VN=m0 at K
 refine wpAny_While (codeAny_whileLoop (λ n s'=>∃ιk σk hk σ' H',Now ce X pj ιk σk hk σ' H' s'/\Nxt ι H ιk H'/\JK ce X pj ιk H' (Vr mt mb n σk hk) Q E) ?_ m0 ⟨ι,σi,h,σ,H,N,.refl,K⟩)
 rintro n s1 ⟨ι1,σ1i,h1,σ1,H1,N1,n1,K1⟩
 cases n with
 | zero=>exact Zf K1
 | succ n =>
  unfold Vr at K1
  refine nof (hc pj s1 σ1 H1 ι1 σ1i h1 _ (λ _ _=>False) N1 ?_)
  cases et:mt σ1i h1 with
  | exc m h2=>rw[et] at K1;exact Zf K1
  | stuck=>rw[et] at K1;exact Zf K1
  | ok b h2 =>
   rw[et] at K1
   intro b' s2 H2 ι2 N2 n2 r2
   have r':b'=b:=r2
   subst r'
   dsimp only at K1
   cases b' with
   | false=>exact ZcQ (K1 s2 σ1 H2 ι2 N2 n2)
   | true =>
    rw[if_pos rfl]
    rw[if_pos rfl] at K1
    refine hb pj s2 σ1 H2 ι2 σ1i h2 _ _ N2 ?_
    cases eb:mb σ1i h2 with
    | next σ3 h3 =>
     rw[eb] at K1
     exact λ s3 σ3' H3 ι3 N3 n3=>⟨n,Za0 n,ι3,σ3,h3,σ3',H3,N3,(n1.trans n2).trans n3,JK.mono (r:=Vr mt mb n σ3 h3) K1 (n2.trans n3)⟩
    | cont σ3 h3 =>
     rw[eb] at K1
     exact λ s3 σ3' H3 ι3 N3 n3=>⟨n,Za0 n,ι3,σ3,h3,σ3',H3,N3,(n1.trans n2).trans n3,JK.mono (r:=Vr mt mb n σ3 h3) K1 (n2.trans n3)⟩
    | brk σ3 h3 =>
     rw[eb] at K1
     exact λ s3 σ3' H3 ι3 N3 n3=>K1 s3 σ3' H3 ι3 N3 (n2.trans n3)
    | ret v h3 =>
     rw[eb] at K1
     exact λ u s3 σ3i σ3' H3 ι3 N3 n3 r=>K1 u s3 σ3i σ3' H3 ι3 N3 (n2.trans n3) r
    | _=>rw[eb] at K1;exact Zf K1
theorem Jtx (no:¬ ∃i j,op=.Add/\x=.int i/\y=.int j):ipI op x y h=.stuck:=by
 unfold ipI
 split
 ·exact absurd ⟨_,_,rfl,rfl,rfl⟩ no
 ·rfl
theorem o_ip (op:Zc8):OpI ce X (inplaceOp op) (ipI op):=by
 intro pj s σ H ι σi h x y v u Q E N rx ry K
 by_cases c:∃i j,op=.Add/\x=.int i/\y=.int j
 ·obtain⟨i,j,rfl,rfl,rfl⟩:=c
  obtain⟨xv,rx,qx⟩:=rx
  obtain⟨yv,ry,qy⟩:=ry
  cases (show xv=.int i from qx)
  cases (show yv=.int j from qy)
  obtain⟨t,rfl⟩:=rx
  obtain⟨t',rfl⟩:=ry
  exact iadd_int (K _ _ H ι ⟨N.inv.tok _,N.rel,N.st⟩ .refl ⟨.int (i+j),⟨_,rfl⟩,rfl⟩)
 ·rw[Jtx c] at K
  exact Zf K
theorem J31 {i:Nat}{x:Str}{e:Expr}{me:E1}{op:Zc8}{pos':Pos}(hN:X.N.Nodup)(he:PEi ce X e me)(hi:X.N[i]?=Za x)(hx:Loc X.env.scope x)(hf:X.fn x=Zi∨X.env.scope.names.lookup x=Za .local) :
  PS1 ce X (.AugAssign (.Name x pos') op e pos) (sAug op i me):=by
 intro pj s σ H ι σi h Q E N K
 refine wpAny_AugAssign_Name ?_
 unfold sAug at K
 cases ev:Ja i σi h with
 | exc n h1=>exfalso;unfold Ja at ev;split at ev<;>cases ev
 | stuck=>rw[ev] at K;exact Zf K
 | ok v h1 =>
  rw[ev] at K
  obtain⟨e1,rfl⟩:σi[i]?=Za (Za v)/\h1=h:=by
   unfold Ja at ev
   split at ev
   ·rename_i q;cases ev;exact⟨q,rfl⟩
   ·cases ev
  obtain⟨w,hw,qw⟩:=N.st.at_ i v e1
  obtain⟨m,hn,hl⟩:=N.inv.loc
  have vis:Vis X.env.scope x:=by rcases hx with k|k;exact .inl k;exact .inr (.inl k)
  obtain⟨u,r,l⟩:=hl i x w hi hw vis
  have go:Zy (Z8 X.prog X.w) X.A (ZaU e X.env) (λ w s₂=>Zy (Z8 X.prog X.w) X.A (inplaceOp op u w) (λ r s₃=>Zy (Z8 X.prog X.w) X.A (storeName X.env x r) (λ _=>Q .next) E s₃) E s₂) E s:=by
   refine krun he N K λ y h2 uy s2 H2 ι2 N2 n2 r2 K2=>?_
   refine o_ip op pj s2 σ H2 ι2 σi h2 v y u uy _ E N2 ⟨w,r,RV.mono n2 _ _ qw⟩ r2 ?_
   cases ez:ipI op v y h2 with
   | exc n h3 =>
    rw[ez] at K2
    exact λ pl a s' H' ι' N' n' q=>K2 pl a s' σ H' ι' N' n' q s' (.inl rfl)
   | stuck=>rw[ez] at K2;exact K2
   | ok z h3 =>
    rw[ez] at K2
    intro uz s3 H3 ι3 N3 n3 r3
    obtain⟨zv,rz,qz⟩:=r3
    exact Jge N3.inv hN hi hx rz (λ s4 I4=>K2 s4 _ H3 ι3 ⟨I4,N3.rel,N3.st.set i qz⟩ n3) hf
  rcases l with⟨hk,hm⟩|⟨hk,c,hc,hcell⟩
  ·exact wpAny_loadName_local N.inv.ok.kind hk hn hm go
  ·rcases hk with hk|hk
   ·exact wpAny_loadName_cell N.inv.ok.kind hk hc hcell go
   ·rcases hx with k|k
    ·have:X.env.scope.names.lookup x=Za .free:=hk
     rw[k] at this;cases this
    ·have:X.env.scope.names.lookup x=Za .free:=hk
     rw[k] at this;cases this
theorem J1s {fl:Str}{o e:Expr}{mo me:E1}{op:Zc8}{tpos:Pos}(ho:PEi ce X o mo)(he:PEi ce X e me)(hf:XS ce X.K fl):PS1 ce X (.AugAssign (.Attribute o fl tpos) op e pos) (XB op fl mo me):=by
 intro pj s σ H ι σi h Q E N K
 refine wpAny_AugAssign_AttributeAny (krun ho N K λ ov h1 w s1 H1 ι1 N1 n1 r1 K1=>?_)
 cases ov with
 | ref i =>
  obtain⟨w,rw',a,e1,hi⟩:=r1
  subst e1
  cases rw'
  dsimp only at K1
  cases hh:h1[i]? with
  | none=>rw[hh] at K1;exact Zf K1
  | some ob =>
   cases ob with
   | ins c fs =>
    rw[hh] at K1
    dsimp only at K1
    cases hl:fs.lookup fl with
    | none=>rw[hl] at K1;exact Zf K1
    | some x =>
     rw[hl] at K1
     obtain⟨C,dx,vs,hC,hH,rp⟩:=N1.at hh hi
     obtain⟨cl,na⟩:=hf c C hC
     obtain⟨y,hy,q⟩:=(RPs.lookup rp).1 x hl
     refine Jin N1.inv hH cl na hy λ u' s2 I2 ru=>?_
     refine krun he (⟨I2,N1.rel,N1.st⟩:Now ce X pj ι1 σi h1 σ H1 s2) K1 λ z h3 uz s3 H3 ι3 N3 n3 r3 K3=>?_
     refine o_ip op pj s3 σ H3 ι3 σi h3 x z u' uz _ E N3 ⟨y,ru,RV.mono n3 _ _ q⟩ r3 ?_
     cases ez:ipI op x z h3 with
     | exc n h4 =>
      rw[ez] at K3
      exact λ pl a s' H' ι' N' n' q=>K3 pl a s' σ H' ι' N' n' q s' (.inl rfl)
     | stuck=>rw[ez] at K3;exact K3
     | ok v h4 =>
      rw[ez] at K3
      intro uv s4 H4 ι4 N4 n4 r4
      dsimp only[rS] at K3
      have hi4:ι4[i]?=Za a:=n4.at (n3.at hi)
      cases h4i:h4[i]? with
      | none=>rw[h4i] at K3;exact Zf K3
      | some ob =>
       cases ob with
       | ins c' gs =>
        rw[h4i] at K3
        dsimp only at K3
        split at K3
        ·rename_i hz
         obtain⟨C',dx',vs',hC',hH',rp'⟩:=N4.at h4i hi4
         obtain⟨cl',na'⟩:=hf c' C' hC'
         obtain⟨yv,ryv,qv⟩:=r4
         refine Jit N4.inv hH' cl' na' (by rw[rp'.length];exact hz) ryv λ s5 I5=>?_
         have n5:Nxt ι4 H4 ι4 (upd H4 a (.ins C' dx' (putF fl yv vs'))):=⟨⟨[],03⟩,Ext.upd_mut hH' (by rw[hH'];exact Zam)⟩
         obtain⟨R5,_⟩:=N4.rel.write (o:=.ins C' dx' (putF fl yv vs')) (io:=.ins c' (putI fl v gs)) hi4 hH' (by rw[hH'];exact Zam) ⟨C',dx',_,hC',JE,RPs.put (RV.mono n5 _ _ qv) (RPs.mono n5 _ _ rp')⟩
         exact K3 s5 σ _ ι4 ⟨I5,R5,N4.st.mono n5⟩ (n4.trans n5)
        ·exact Zf K3
       | _=>rw[h4i] at K3;exact Zf K3
   | _=>rw[hh] at K1;exact Zf K1
 | _=>exact Zf K1
theorem Jz4:OpI ce X Zd5 ixL:=by
 intro pj s σ H ι σi h x y v u Q E N rx ry K
 obtain⟨xv,rx,qx⟩:=rx
 obtain⟨yv,ry,qy⟩:=ry
 cases x with
 | ref i =>
  cases y with
  | int k =>
   obtain⟨a,rfl,ha⟩:=qx
   cases (show yv=.int k from qy)
   cases rx
   obtain⟨t,rfl⟩:=ry
   dsimp only[ixL] at K
   cases hi:h[i]? with
   | none=>rw[hi] at K;exact Zf K
   | some ob =>
    rw[hi] at K
    cases ob with
    | lst xs =>
     dsimp only at K
     cases hk:atI xs k with
     | none=>rw[hk] at K;exact Zf K
     | some z =>
      rw[hk] at K
      dsimp only at K
      split at K
      ·rename_i h0
       obtain⟨vs,e1,r1⟩:=N.at hi ha
       obtain⟨w,hw,qw⟩:=Ji0 r1 hk
       obtain⟨its,r,pl,hz⟩:=N.inv.list (SqL.of e1)
       obtain⟨j,g1,g2,g3,g4,g5⟩:=Jiz hw
       obtain⟨w',ew,rw'⟩:=r.get g2
       have hn:=Xb
       have hj:k.toNat=j:=by
        rw[ZdL h0 g5] at g1
        exact ZQ g1
       exact wpAny_getItem_list pl.isList h0 00 (by rw[hj];simpa using ew) (K _ _ H ι N .refl ⟨w,rw',qw⟩)
      ·exact Zf K
    | _=>exact Zf K
  | _=>exact Zf K
 | _=>cases y<;>exact Zf K
theorem J0w (p:OpI ce X f g)(N:Now ce X pj ι σi h σ H s)(rx:RU X.K ι H x v)(ry:RU X.K ι H y u) 
  {k:IV->IH->SRes}{Q:Flow->Zn->Prop}{E:QvT}{Q1:QvT}(K:JK ce X pj ι H (rS σi (g x y h) k) Q E)
  (step:∀z h1 w s1 H1 ι1,Now ce X pj ι1 σi h1 σ H1 s1->Nxt ι H ι1 H1->RU X.K ι1 H1 z w->JK ce X pj ι1 H1 (k z h1) Q E->Q1 w s1):Zy (Z8 X.prog X.w) X.A (f v u) Q1 E s:=by
 refine p pj s σ H ι σi h x y v u Q1 E N rx ry ?_
 cases e:g x y h with
 | ok z h' =>
  rw[e] at K
  exact λ w s' H' ι' N' n' r=>step z h' w s' H' ι' N' n' r (JK.mono (r:=k z h') K n')
 | exc n h' =>
  rw[e] at K
  exact λ pl a s' H' ι' N' n' q=>K pl a s' σ H' ι' N' n' q s' (.inl rfl)
 | stuck =>
  rw[e] at K
  exact K
theorem J11 {pj:PnT}{s:Zn}{σ:L2.St}{H:Hp}{ι:List Zo}{σi:ISt}{h:IH}{o i v:IV}{ou iu u:Zg}{Q:Flow->Zn->Prop}{E:QvT}(N:Now ce X pj ι σi h σ H s)(ro:RU X.K ι H o ou)(ri:RU X.K ι H i iu)(rv:RU X.K ι H v u)
  (K:JK ce X pj ι H (setI o i v σi h) Q E):Zy (Z8 X.prog X.w) X.A (setItem ou iu u) (λ _=>Q .next) E s:=by
 obtain⟨ox,ro,qo⟩:=ro
 obtain⟨ix,ri,qi⟩:=ri
 obtain⟨vx,rvx,qv⟩:=rv
 cases o with
 | ref i =>
  rename_i iv
  cases iv with
  | int k =>
   obtain⟨a,rfl,haa⟩:=qo
   cases (show ix=.int k from qi)
   dsimp only[setI] at K
   cases hh:h[i]? with
   | none=>rw[hh] at K;exact Zf K
   | some ob =>
    rw[hh] at K
    cases ob with
    | lst xs =>
     dsimp only at K
     cases hj:ixN xs.length k with
     | none=>rw[hj] at K;exact Zf K
     | some j =>
      rw[hj] at K
      obtain⟨ws,e1,r1'⟩:=N.at hh haa
      refine Zaf (Jnz (X:=X.wish E) pj s σ H (.ref a) (.int k) vx ou iu u (λ H'=>H'=upd H a (.lst (ws.set j vx))) (N.inv.wish E) ro ri rvx ⟨a,ws,k,j,rfl,rfl,e1,by rw[r1'.length];exact hj,rfl⟩) (λ _ s3 hq=>?_) λ _ _ z=>z
      obtain⟨H',I',rfl⟩:=hq
      have n:Nxt ι H ι (upd H a (.lst (ws.set j vx))):=⟨⟨[],03⟩,Ext.upd_mut e1 (by rw[e1];exact Zam)⟩
      obtain⟨R3,_⟩:=N.rel.write (o:=.lst (ws.set j vx)) (io:=.lst (xs.set j v)) haa e1 (by rw[e1];exact Zam) ⟨_,JE,(RVs.mono n _ _ r1').set (RV.mono n _ _ qv) j⟩
      exact K s3 σ _ ι ⟨I'.unwish,R3,N.st.mono n⟩ n
    | _=>exact Zf K
  | _=>exact Zf K
 | _=>cases i<;>exact Zf K
theorem J1t {o i e:Expr}{mo mi me:E1}{op:Zc8}{tpos:Pos}(ho:PEi ce X o mo)(hi:PEi ce X i mi)(he:PEi ce X e me)(hs:Xd i=Zi):PS1 ce X (.AugAssign (.Subscript o i tpos) op e pos) (XC op mo mi me):=by
 intro pj s σ H ι σi h Q E N K
 refine wpAny_AugAssign_SubscriptAny (krun ho N K λ ov h1 ou s1 H1 ι1 N1 n1 r1 K1=>krun hi N1 K1 λ kv h2 ku s2 H2 ι2 N2 n2 r2 K2=>?_) (λ _ _ _=>by cases i<;>first|rfl|cases hs)
 refine J0w Jz4 N2 (r1.mono n2) r2 K2 λ x h3 xu s3 H3 ι3 N3 n3 r3 K3=>?_
 refine krun he N3 K3 λ y h4 yu s4 H4 ι4 N4 n4 r4 K4=>?_
 refine J0w (o_ip op) N4 (r3.mono n4) r4 K4 λ z h5 zu s5 H5 ι5 N5 n5 r5 K5=>?_
 exact J11 N5 ((((r1.mono n2).mono n3).mono n4).mono n5) (((r2.mono n3).mono n4).mono n5) r5 K5
end
section
variable {ce:CeT}{k:Nat}{P:Pg}{n:Nat}{S:Sc}{X:Cx}
theorem XA (hf:∀s,PS1 ce X s (f s)):∀(l:List ZcC),PS2 ce X l (sAll (l.map f))
 | []=>J1p
 | [a]=>J1q (hf a)
 | a::b::r=>Jyl (hf a) (XA hf (b::r))
end
section
variable {ce:CeT}{k:Nat}{P:Pg}{S:Sc}{X:Cx}{xi:Xi}{xf:Str->Str->Bool}{fr:Str->Bool}
end
section
variable {ce:CeT}{k:Nat}{P:Pg}{n:Nat}{S:Sc}{X:Cx}
theorem Jw0 {tg:Expr}{env:Env}(h:J0 tg=Zi):(ZaJ [tg] env).map (·.2)=[Zdi tg env]:=by
 cases tg<;>first|rfl|cases h
theorem Ju3 (G:Good ce k P S X)(i:Nat){p q:Pos}(h:isLC e=Zi)(h1:X.N[i]?=Za x)(h2:L2.Loc X.env.scope x)(h3:X.fn x=Zi∨X.env.scope.names.lookup x=Za .local) :
  PS1 ce X (.Assign [.Name x q] e p) (Ji i (ev P n S e)):=by
 cases e with
 | ListComp elt gens sc cp =>
  cases hb:(X.env.blockKind==.function&&X.env.kindOf x==Za .local&&q.line==cp.line&&!(sc.names.any λ (n,k)=>n==x&&(k==.local||k==.cell))) with
  | false =>
   refine J1y G.nodup ((Jjy ce k P n).e S X _ G) h1 h2 ?_ h3
   show(pure (X.env.blockKind==.function&&X.env.kindOf x==Za .local&&q.line==cp.line&&!(sc.names.any λ (n,k)=>n==x&&(k==.local||k==.cell))):Sem Bool)=pure Zk
   rw[hb]
  | true =>
   have hsw:ZcU (.ListComp elt gens sc cp) (Za (.Name x q)) p.line X.env=pure Zi:=by
    show(pure (X.env.blockKind==.function&&X.env.kindOf x==Za .local&&q.line==cp.line&&!(sc.names.any λ (n,k)=>n==x&&(k==.local||k==.cell))):Sem Bool)=pure Zi
    rw[hb]
   have dead:∀m:E1,(∀σ h,m σ h=.stuck)->PS1 ce X (.Assign [.Name x q] (.ListComp elt gens sc cp) p) (Ji i m):=λ m hm=>by
    intro pj s σ H ι σi h Q E N K
    unfold Ji at K
    rw[hm] at K
    exact Zf K
   cases n with
   | zero=>exact dead _ λ _ _=>rfl
   | succ n =>
    have ih:=Jjy ce k P n
    match gens,hsw with
    | [⟨tg,iter,ifs,as⟩],hsw =>
     show PS1 ce X _ (Ji i (if as=0/\X3 iter=Zi/\QM S.N (V2 sc) (Q7 sc) (jsOf S sc) S.fake sc=Zi then
      Jqq ifs (evT P n (S.comp sc)) (λ mt=>Js (evI P n S tg iter) (V2 sc).length (jsOf S sc) (tgt P n (S.comp sc) tg) mt (ev P n (S.comp sc) elt)) else stE))
     split
     ·rename_i hs
      obtain⟨rfl,hi,ok⟩:=hs
      have Gc:=G.comp ok
      have ok':=ok
      rw[<- Jko G] at ok'
      match ifs,hsw with
      | [],hsw=>exact Jwg G.calm (ih.i S X tg iter G) (λ C s H fp=>ih.g _ _ tg (Gc C s H fp)) (λ C s H fp=>Jwn) (λ C s H fp=>ih.e _ _ elt (Gc C s H fp)) ok' G.n rfl (Yl hi) G.nodup h1 h2 h3 hsw
      | [c],hsw=>exact Jwg G.calm (ih.i S X tg iter G) (λ C s H fp=>ih.g _ _ tg (Gc C s H fp)) (λ C s H fp=>Jwo (ih.t _ _ c (Gc C s H fp))) (λ C s H fp=>ih.e _ _ elt (Gc C s H fp)) ok' G.n rfl (Yl hi) G.nodup h1 h2 h3 hsw
      | _::_::_,_=>exact dead _ λ _ _=>rfl
     ·exact dead _ λ _ _=>rfl
    | [],_=>exact dead _ λ _ _=>rfl
    | ⟨_,_,_,_⟩::_::_,_=>exact dead _ λ _ _=>rfl
 | _=>cases h
theorem Jn2 (ce:CeT)(k:Nat)(P:Pg):∀(n:Nat)(S:Sc)(X:Cx)(st:ZcC),Good ce k P S X->PS1 ce X st (ex P n S st)
 | 0,_,_,_,_=>JW
 | n+1,S,X,st,G=>by
  have ih:=λ st=>Jn2 ce k P n S X st G
  have E:=Jjy ce k P n
  have ihe:=λ e=>E.e S X e G
  cases st with
  | Pass p=>exact J1w
  | Break p=>exact Jyq
  | Continue p=>exact J1u
  | Expr e p =>
   show PS1 ce X _ (if V4 e then JG (ev P n S e) else stS)
   split
   ·rename_i h
    exact J1v (ihe e) (Jc6 h)
   ·exact JW
  | Return v p =>
   cases v with
   | none=>exact J1x
   | some e=>exact J34 (ihe e)
  | If c a b p=>exact s_if (E.t S X c G) (XA ih a) (XA ih b)
  | Raise exc cause p=>exact JW
  | Try body hs o f p=>exact JW
  | While c a o p =>
   cases o with
   | nil =>
    show PS1 ce X _ (Jmu S.own (evT P n S c) (sAll (a.map (ex P n S))))
    cases h:S.own with
    | true =>
     obtain⟨hk,hf⟩:=G.top h
     exact Jyr hk hf (E.t S X c G) (XA ih a)
    | false=>exact JW
   | cons _ _=>exact JW
  | For tg it a o p =>
   cases o with
   | nil =>
    show PS1 ce X _ (if X3 it&&S.own then sFor (evI P n S tg it) (tgt P n S tg) (sAll (a.map (ex P n S))) else stS)
    split
    ·rename_i h
     rw[Zr] at h
     obtain⟨hk,hf⟩:=G.top h.2
     exact J33 G.calm hk hf (E.i S X tg it G) (E.g S X tg G) (XA ih a) (Yl h.1)
    ·exact JW
   | cons _ _=>exact JW
  | AugAssign tg op e p =>
   cases tg with
   | Name x q =>
    show PS1 ce X _ (match S.sto x with|some i=>sAug op i (ev P n S e)|none=>stS)
    cases hv:S.sto x with
    | none=>exact JW
    | some i =>
     obtain⟨h1,h2,h3⟩:=G.sto hv
     exact J31 G.nodup (ihe e) h1 h2 h3
   | Attribute o f q =>
    show PS1 ce X _ (if P.fld f then XB op f (ev P n S o) (ev P n S e) else stS)
    split
    ·rename_i h
     exact J1s (ihe o) (ihe e) (G.pg.fld f h)
    ·exact JW
   | Subscript o i q =>
    show PS1 ce X _ (if Xd i then XC op (ev P n S o) (ev P n S i) (ev P n S e) else stS)
    split
    ·rename_i h
     exact J1t (ihe o) (ihe i) (ihe e) h
    ·exact JW
   | _=>exact JW
  | Assign tgs e p =>
   match tgs with
   | []=>exact JW
   | a::_::_=>cases a<;>exact JW
   | [tg] =>
    have gen:PS1 ce X (.Assign [tg] e p) (if V4 e&&((Jt2 tg&&Jx9 e)||Jt1 tg) then sAsg (ev P n S e) (tgt P n S tg) else stS):=by
     split
     ·rename_i h
      simp only[Zr,ZaF] at h
      have hst:J0 tg=Zi:=by
       rcases h.2 with q|q
       ·cases tg<;>first|rfl|(simp[Jt2] at q)
       ·cases tg<;>first|rfl|(simp[Jt1] at q)
      refine J30 (ihe e) (E.g S X tg G) (Jc6 h.1) ?_ (Jw0 hst)
      rcases h.2 with q|q
      ·cases tg with
       | Tuple es j pp =>
        have q2:=q.2
        cases e<;>first|rfl|(simp[Jx9] at q2)
       | _=>simp[Jt2] at q
      ·cases tg with
       | Subscript=>cases e<;>rfl
       | _=>simp[Jt1] at q
     ·exact JW
    cases tg with
    | Name x q =>
     show PS1 ce X _ (if V4 e||isLC e then(match S.sto x with|some i=>Ji i (ev P n S e)|none=>stS) else stS)
     split
     ·rename_i h
      cases hv:S.sto x with
      | none=>exact JW
      | some i =>
       obtain⟨h1,h2,h3⟩:=G.sto hv
       rcases ZaF _ _▸h with h|h
       ·exact J1y G.nodup (ihe e) h1 h2 (Jc6 h) h3
       ·exact Ju3 G i h h1 h2 h3
     ·exact JW
    | Attribute o f q =>
     show PS1 ce X _ (if V4 e||isLC e then Jym P f (ev P n S o) (ev P n S e) else stS)
     split
     ·rename_i h
      have hw:ZcU e (Za (.Attribute o f q)) p.line X.env=pure Zk:=by
       rcases ZaF _ _▸h with h|h
       ·exact Jc6 h
       ·cases e<;>first|rfl|cases h
      unfold Jym
      split
      ·rename_i hf
       exact J32 (ihe o) (ihe e) (G.pg.fld f hf) hw
      ·exact JW
     ·exact JW
    | _=>exact gen
  | _=>exact JW
end
structure D4 where
 st:ZcC
 qual:Str
 ps:List Str
 N:List Str
 dvs:List IV
def D4.sc (d:D4):Sc:=⟨d.N,(JH d.st).names,Zi,d.qual⟩
structure Tab where
 fns:List (Str×D4)
 clss:List (Str×D4)
 meths:List (Str×List (Str×D4))
 cons:List (Str×IV)
 isas:List (Str×List Str)
 flds:List Str
 frees:List Str
 tabs:List Str:=[]
 razs:List Str:=[]
 xis:List (Str×List (Str×Bool)):=[]
 bass:List Str:=[]
 wrs:List (Str×D4):=[]
 nes:List Str:=[]
 xms:List (Str×D4):=[]
 xfs:List (Str×List Str):=[]
 xbs:List Str:=[]
def memS (x:Str):List Str->Bool
 | []=>Zk
 | y::r=>y==x||memS x r
def Qv {α:Type}(x:Str):List (Str×α)->Option α
 | []=>Zc
 | (y,a)::r=>if y==x then Za a else Qv x r
def xfOf (T:Tab)(f c:Str):Bool:=match Qv f T.xfs with|some l=>memS c l|none=>Zk
def mkPg (T:Tab)(r:D4->List IV->IH->Res IV):Pg where
 fn:=λ x=>(Qv x T.fns).map λ d=>⟨d.ps.length,d.dvs,r d⟩
 cls:=λ x=>(Qv x T.clss).map λ d=>⟨d.ps.length,d.dvs,r d⟩
 meth:=λ c m=>((Qv c T.meths).bind (Qv m)).map λ d=>⟨d.ps.length,d.dvs,r d⟩
 con:=λ x=>Qv x T.cons
 isa:=λ x=>(Qv x T.isas).map λ l c=>memS c l
 fld:=λ x=>memS x T.flds
 free:=λ x=>memS x T.frees
 tabs:=λ q=>ixOf q T.tabs
 rz:=λ x=>memS x T.razs
 xi:=λ D=>(Qv D T.xis).map λ l c=>Qv c l
 bas:=λ x=>memS x T.bass
 wr:=λ _=>Zc
 ne:=λ x=>memS x T.nes
 xo:=λ x=>(Qv x T.xms).map λ d=>⟨d.ps.length,d.dvs,r d⟩
 xf:=xfOf T
 xb:=λ x=>memS x T.xbs
def run (T:Tab):Nat->D4->List IV->IH->Res IV
 | 0,_=>λ _ _=>.stuck
 | k+1,d=>fnI d.N.length (sAll ((Qh d.st).map (ex (mkPg T (run T k)) 40 d.sc)))
theorem QO:∀{l:List (Str×α)},Qv x l=Za a->(x,a)∈l
 | [],h=>by cases h
 | (y,b)::r,h=>by
  unfold Qv at h
  split at h
  ·rename_i e
   cases h
   rw[beq_iff_eq.mp e]
   exact Zx
  ·exact Zl _ (QO h)
theorem Yr:∀{l:List Str},memS x l=Zi->x∈l
 | [],h=>by cases h
 | y::r,h=>by
  unfold memS at h
  rcases ZaF _ _▸h with e|e
  ·rw[beq_iff_eq.mp e]
   exact Zx
  ·exact Zl _ (Yr e)
structure DefOk (K:W.Frag)(x:Str)(d:D4)(fa:Zo)(fd:Za2):Prop where
 fun_:∃dV,FunD K x d.qual d.st fa fd dV
 sc:FnScope d.N d.ps (JH d.st)
 dv:∀j,j<=d.dvs.length->∃ds,Qn K fd d.ps ds/\ds.length=d.dvs.length-j/\∃vs,Vals vs ds/\∀ι H,RVs K ι H (d.dvs.drop j) vs
structure TabOk (ce:CeT)(T:Tab)(K:W.Frag)(mg:Str->Option Zg):Prop where
 fn:∀x d,(x,d)∈T.fns->∃fa fd,mg x=Za (.ref fa)/\DefOk K x d fa fd
 cls:∀x d,(x,d)∈T.clss->∃C fa fd,mg x=Za (.ref C)/\ce x=Za C/\Mk K C fa/\DefOk K "__init__" d fa fd
 meth:∀c l m d,(c,l)∈T.meths->(m,d)∈l->∃C fa fd,ce c=Za C/\Cls K C/\Meth K C m fa/\DefOk K m d fa fd
 con:∀x v,(x,v)∈T.cons->∃u y,mg x=Za u/\RelV y u/\∀ι H,RV K ι H v y
 isa:∀D l,(D,l)∈T.isas->∃c,mg D=Za c/\IsOk ce K c λ t=>match t with|.ins c=>Za (memS c l)|.exc _=>Zc|_=>Za Zk
 fld:∀f,f∈T.flds->XS ce K f
 free:∀x,x∈T.frees->mg x=Zc
 bas:∀x,x∈T.bass->∃C,mg x=Za (.ref C)/\BasK K C
 ne:∀c,c∈T.nes->∃C,ce c=Za C/\neIn K C=Zi/\ClsI K C/\W.kitOne K (.ref C) (.type "list")=Za Zk
section
variable {ce:CeT}{T:Tab}{prog:ZB}{w:Zab}{K:W.Frag}{mg:Str->Option Zg}{base:Zau}
theorem Jox {k:Nat}{fa:Zo}{fd:Za2}{ps:List Str}:FnOk prog w K mg base (CXI prog w) k fa fd ps (spI ce K ps λ _ _=>.stuck) :=
 ⟨λ _ _ _ _ h=>h.1,λ _ _ _ _ _ _ _ _ _ _ _ _ _ h=>by obtain⟨_,_,_,_,_,_,z⟩:=h;exact z.elim⟩
theorem J3t (O:TabOk ce T K mg)(B:T.tabs≠[]->Q5 mg base)(k:Nat)(hD:∀x d fa fd,DefOk K x d fa fd->FnD ce prog w K mg base (4*k) ⟨d.ps.length,d.dvs,run T k d⟩ fa fd d.ps):PgOk ce (4*k) (mkPg T (run T k)) prog w K mg base:=by
 refine⟨λ x f h=>?_,λ x f h=>?_,λ c m f h=>?_,λ x v h=>?_,λ D g h=>?_,λ f h=>?_,λ x h=>?_,λ q j h=>B λ e=>?_,λ x h=>O.bas x (Yr h),λ c h=>O.ne c (Yr h)⟩
 ·obtain⟨d,hd,rfl⟩:=ZH.mp h
  obtain⟨fa,fd,hm,ok⟩:=O.fn x d (QO hd)
  obtain⟨dV,F⟩:=ok.fun_
  exact⟨fa,fd,d.ps,hm,F.kp,hD x d fa fd ok⟩
 ·obtain⟨d,hd,rfl⟩:=ZH.mp h
  obtain⟨C,fa,fd,hm,hC,M,ok⟩:=O.cls x d (QO hd)
  exact⟨C,fa,fd,d.ps,hm,hC,M,hD _ d fa fd ok⟩
 ·obtain⟨d,hd,rfl⟩:=ZH.mp h
  obtain⟨l,hl,hd⟩:=Option.bind_eq_some_iff.mp hd
  obtain⟨C,fa,fd,hC,cl,me,ok⟩:=O.meth c l m d (QO hl) (QO hd)
  exact⟨C,fa,fd,d.ps,hC,cl,me,hD m d fa fd ok⟩
 ·exact O.con x v (QO h)
 ·obtain⟨l,hl,rfl⟩:=ZH.mp h
  exact O.isa D l (QO hl)
 ·exact O.fld f (Yr h)
 ·exact O.free x (Yr h)
 ·have h':ixOf q T.tabs=Za j:=h
  rw[e] at h'
  cases h'
theorem Jvy (O:TabOk ce T K mg)(B:T.tabs≠[]->Q5 mg base):∀k x d fa fd,DefOk K x d fa fd->FnD ce prog w K mg base (4*k) ⟨d.ps.length,d.dvs,run T k d⟩ fa fd d.ps
 | 0,x,d,fa,fd,ok=>⟨rfl,Jox,ok.dv⟩
 | k+1,x,d,fa,fd,ok=>by
  refine⟨rfl,?_,ok.dv⟩
  obtain⟨dV,F⟩:=ok.fun_
  show FnOk prog w K mg base (CXI prog w) (4*k+3+1) fa fd d.ps (spI ce K d.ps (run T (k+1) d))
  refine F.fn (m:=sAll ((Qh d.st).map (ex (mkPg T (run T k)) 40 d.sc))) ok.sc λ cdv A outer s H E hcd hr=>?_
  refine XA (λ st=>Jn2 ce (4*k) (mkPg T (run T k)) 40 d.sc _ st ?_) _
  exact⟨rfl,rfl,ok.sc.nd,ok.sc.kind,rfl,hr.mono 00,λ _ _=>rfl,J3t O B k (Jvy O B k),λ _=>⟨hcd,rfl⟩,λ _=>hr,λ _=>⟨rfl,rfl⟩⟩
end
inductive All {α:Type}(p:α->Prop):List α->Prop
 | nil:All p []
 | cons {a:α}{l:List α}:p a->All p l->All p (a::l)
theorem All.mem:∀{l:List α}{a:α},All p l->a∈l->p a
 | _,_,.nil,h=>by cases h
 | _,_,.cons h r,m=>by
  rcases Z6.mp m with rfl|m
  ·exact h
  ·exact r.mem m
def Jvs (l:List Str):Ty->Option Bool:=λ t=>match t with|.ins c=>Za (memS c l)|.exc _=>Zc|_=>Za Zk
section
variable {T:Tab}{K:W.Frag}{mg:Str->Option Zg}
def ceOf (ces:List (Str×Zo)):CeT:=λ c=>Qv c ces
theorem J16 (ces:List (Str×Zo))(fn:All (λ p:Str×D4=>∃fa fd,mg p.1=Za (.ref fa)/\DefOk K p.1 p.2 fa fd) T.fns) 
  (cls:All (λ p:Str×D4=>∃C fa fd,mg p.1=Za (.ref C)/\ceOf ces p.1=Za C/\Mk K C fa/\DefOk K "__init__" p.2 fa fd) T.clss)
  (meth:All (λ q:Str×List (Str×D4)=>∃C,ceOf ces q.1=Za C/\All (λ p:Str×D4=>∃fa fd,Meth K C p.1 fa/\DefOk K p.1 p.2 fa fd) q.2) T.meths)
  (con:All (λ p:Str×IV=>∃u y,mg p.1=Za u/\RelV y u/\∀ι H,RV K ι H p.2 y) T.cons)
  (cl:All (λ p:Str×Zo=>ClsI K p.2/\All (λ f=>QJ K p.2 f) T.flds) ces)
  (isa:All (λ q:Str×List Str=>∃D,mg q.1=Za (.ref D)/\W.kitOne K (.type "NoneType") (.ref D)=Za Zk/\W.kitOne K (.type "bool") (.ref D)=Za Zk/\W.kitOne K (.type "int") (.ref D)=Za Zk/\W.kitOne K (.type "str") (.ref D)=Za Zk /\
   W.kitOne K (.type "list") (.ref D)=Za Zk/\W.kitOne K (.type "tuple") (.ref D)=Za Zk/\W.kitOne K (.type "dict") (.ref D)=Za Zk/\All (λ p:Str×Zo=>W.kitOne K (.ref p.2) (.ref D)=Za (memS p.1 q.2)) ces) T.isas)
  (free:All (λ x=>mg x=Zc) T.frees)
  (bas:All (λ x=>∃C,mg x=Za (.ref C)/\BasK K C) T.bass:=by exact .nil)
  (nes:All (λ c=>∃C,ceOf ces c=Za C/\neIn K C=Zi/\W.kitOne K (.ref C) (.type "list")=Za Zk) T.nes:=by exact .nil):TabOk (ceOf ces) T K mg:=by
 refine⟨λ x d h=>fn.mem h,λ x d h=>cls.mem h,λ c l m d hc hm=>?_,λ x v h=>con.mem h,λ D l h=>?_,λ f hf=>?_,λ x h=>free.mem h,λ x h=>bas.mem h,λ c h=>let ⟨C,p,q,r⟩:=nes.mem h;⟨C,p,q,(cl.mem (QO p)).1,r⟩⟩
 ·obtain⟨C,hC,hl⟩:=meth.mem hc
  obtain⟨fa,fd,me,ok⟩:=hl.mem hm
  exact⟨C,fa,fd,hC,(cl.mem (QO hC)).1.cl,me,ok⟩
 ·obtain⟨C,hC,h1,h2,h3,h4,h5,h6,h7,h8⟩:=isa.mem h
  refine⟨_,hC,⟨λ b e=>?_,λ b e=>?_,λ b e=>?_,λ b e=>?_,λ b e=>?_,λ b e=>?_,λ b e=>?_,λ k C' b e hk=>?_,(λ k C' b e=>by cases e)⟩⟩
  ·cases e;exact h1
  ·cases e;exact h2
  ·cases e;exact h3
  ·cases e;exact h4
  ·cases e;exact h5
  ·cases e;exact h6
  ·cases e;exact h7
  ·cases e
   exact⟨(cl.mem (QO hk)).1,h8.mem (QO hk)⟩
 ·intro c C e
  obtain⟨h1,h2⟩:=cl.mem (QO e)
  exact⟨h1.cl,h2.mem hf⟩
theorem len1 {α:Type}{P:List α->Prop}(F0:∀a,P [a]):∀us:List α,us.length=1->P us
 | [a],_=>F0 a
theorem len2 {α:Type}{P:List α->Prop}(F0:∀a b,P [a,b]):∀us:List α,us.length=2->P us
 | [a,b],_=>F0 a b
theorem len3 {α:Type}{P:List α->Prop}(F0:∀a b c,P [a,b,c]):∀us:List α,us.length=3->P us
 | [a,b,c],_=>F0 a b c
theorem len4 {α:Type}{P:List α->Prop}(F0:∀a b c d,P [a,b,c,d]):∀us:List α,us.length=4->P us
 | [a,b,c,d],_=>F0 a b c d
theorem len5 {α:Type}{P:List α->Prop}(F0:∀a b c d e,P [a,b,c,d,e]):∀us:List α,us.length=5->P us
 | [a,b,c,d,e],_=>F0 a b c d e
theorem len6 {α:Type}{P:List α->Prop}(F0:∀a b c d e f,P [a,b,c,d,e,f]):∀us:List α,us.length=6->P us
 | [a,b,c,d,e,f],_=>F0 a b c d e f
theorem len7 {α:Type}{P:List α->Prop}(F0:∀a b c d e f g,P [a,b,c,d,e,f,g]):∀us:List α,us.length=7->P us
 | [a,b,c,d,e,f,g],_=>F0 a b c d e f g
theorem J4b:∀j:Nat,j<=3->j=0∨j=1∨j=2∨j=3:=00
theorem Jvx {x:Str}{d:D4}{fa:Zo}{oc kV doc pm cdv ct:Zg}{od an:Option Zo}{osl:Array (Option Zg)}(lk:K.lookup fa=Za ⟨oc,od,.func (W.fnOf x d.qual (Q8 d.st) (Qh d.st) (JH d.st) .none kV doc pm an cdv ct),osl⟩)
  (hc:W.codeIn K cdv d.qual=Zi)(hk:W.keepIn K (.ref fa)=Zi)(sc:FnScope d.N d.ps (JH d.st))(hd:d.dvs=[])
  (hb:∀us:List Zg,us.length=d.ps.length->Zdp (W.fnOf x d.qual (Q8 d.st) (Qh d.st) (JH d.st) .none kV doc pm an cdv ct) ⟨us,[]⟩=pure (d.ps.zip us)) :
  DefOk K x d fa (W.fnOf x d.qual (Q8 d.st) (Qh d.st) (JH d.st) .none kV doc pm an cdv ct) :=
 ⟨⟨_,⟨oc,od,kV,doc,pm,an,cdv,ct,osl,rfl,lk,hc⟩,hk⟩,sc,λ j hj=>⟨[],.all hb,by rw[hd];simp,[],.nil,by rw[hd];intro _ _;cases j<;>exact rfl⟩⟩
def scOk (N P:List Str)(sc:Zbj):Bool :=
 sc.kind==.function&&!sc.isCoroutine&&!sc.isGenerator&&decide N.Nodup&&decide (N.take P.length=P)&&P.all (λ x=>sc.names.lookup x==Za .local||sc.names.lookup x==Za .cell)&&sc.names.all (λ y=>!(y.2==.free))
theorem scOk.of (h:scOk N P sc=Zi):FnScope N P sc:=by
 simp only[scOk,Zr,beq_iff_eq,ZaZ,decide_eq_true_eq,ZaG,ZaF,beq_eq_false_iff_ne] at h
 obtain⟨⟨⟨⟨⟨⟨h1,h2⟩,h3⟩,h4⟩,h5⟩,h6⟩,h7⟩:=h
 exact⟨h1,h2,h3,h4,h5,h6,h7⟩
def FnB (x q:Str)(d:D4):Prop:=FnScope d.N d.ps (JH d.st)/\d.dvs=[]/\d.qual=q/\∀(kV doc pm:Zg)(an:Option Zo)(cdv ct:Zg)(us:List Zg),us.length=d.ps.length->Zdp (W.fnOf x d.qual (Q8 d.st) (Qh d.st) (JH d.st) .none kV doc pm an cdv ct) ⟨us,[]⟩=pure (d.ps.zip us)
section
variable {x q:Str}{d:D4}{h:Zau}{a C:Zo}{oc kV dc pm cd ct:Zg}{od an:Option Zo}{sl:Array (Option Zg)}
theorem Jrx (B:FnB x q d)(hl:K.lookup a=Za ⟨oc,od,.func (W.fnOf x q (Q8 d.st) (Qh d.st) (JH d.st) .none kV dc pm an cd ct),sl⟩)(hc:W.codeIn K cd q=Zi)(hk:W.keepIn K (.ref a)=Zi):∃fd,DefOk K x d a fd:=by
 obtain⟨s,v,rfl,b⟩:=B
 exact⟨_,Jvx hl hc hk s v (b _ _ _ _ _ _)⟩
theorem Jz (X:K.In h)(G:h.Ns Z3 mg)(B:FnB x q d)(ha:W.nsIn K Z3 x=Za (Za (.ref a)):=by k_is)(hl:K.lookup a=Za ⟨oc,od,.func (W.fnOf x q (Q8 d.st) (Qh d.st) (JH d.st) .none kV dc pm an cd ct),sl⟩:=by k_is)(hc:W.codeIn K cd q=Zi:=by k_is)(hk:W.keepIn K (.ref a)=Zi:=by k_is):∃fa fd,mg x=Za (.ref fa)/\DefOk K x d fa fd :=
 let ⟨fd,D⟩:=Jrx B hl hc hk
 ⟨a,fd,W.mg_of X G ha,D⟩
theorem Qj (B:FnB x q d)(ha:W.findIn K (.ref C) x=Za (Za (.ref a)):=by k_is)(hi:W.isFn K (.ref a)=Zi:=by k_is)(hl:K.lookup a=Za ⟨oc,od,.func (W.fnOf x q (Q8 d.st) (Qh d.st) (JH d.st) .none kV dc pm an cd ct),sl⟩:=by k_is)(hc:W.codeIn K cd q=Zi:=by k_is)(hk:W.keepIn K (.ref a)=Zi:=by k_is):∃fa fd,Meth K C x fa/\DefOk K x d fa fd :=
 let ⟨fd,D⟩:=Jrx B hl hc hk
 ⟨a,fd,⟨ha,hi,hk⟩,D⟩
theorem Jug (B:FnB "__init__" q d)(ha:W.findIn K (.ref C) "__init__"=Za (Za (.ref a)):=by k_is)(hi:W.isFn K (.ref a)=Zi:=by k_is)(hl:K.lookup a=Za ⟨oc,od,.func (W.fnOf "__init__" q (Q8 d.st) (Qh d.st) (JH d.st) .none kV dc pm an cd ct),sl⟩:=by k_is)(hc:W.codeIn K cd q=Zi:=by k_is)(hk:W.keepIn K (.ref a)=Zi:=by k_is)(hm:W.makesIn K C=Zi:=by k_is)(hq:W.keepIn K (.ref C)=Zi:=by k_is):∃fa fd,Mk K C fa/\DefOk K "__init__" d fa fd :=
 let ⟨fd,D⟩:=Jrx B hl hc hk
 ⟨a,fd,⟨hm,ha,hi,hq⟩,D⟩
end
theorem Jxw {prog:ZB}{w:Zab}(O:TabOk ce T K mg)(B:T.tabs≠[]->Q5 mg base)(k:Nat){d:D4}(hp:d.ps=[x])(ok:DefOk K "law" d fa fd) :
  FnOk prog w K mg base (CXI prog w) (4*k) fa fd [x] (XH K x (run T k d)):=by
 have:=(Jvy (prog:=prog) (w:=w) (base:=base) O B k "law" d fa fd ok).ok
 rw[hp] at this
 exact Jtm this
end
def WR {α:Type}(r:Res α)(Q:α->IH->Prop):Prop:=match r with
 | .ok a h=>Q a h
 | _=>False
def WS (r:SRes)(N:ISt->IH->Prop)(R:IV->IH->Prop):Prop:=match r with
 | .next σ h=>N σ h
 | .ret v h=>R v h
 | _=>False
section
variable {α β:Type}{σ:ISt}{h:IH}{Q:α->IH->Prop}{N:ISt->IH->Prop}{R:IV->IH->Prop}
theorem WR.mono (x:WR r P)(f:∀a h,P a h->Q a h):WR r Q:=by
 cases r with
 | ok a h=>exact f a h x
 | exc n h=>exact x
 | stuck=>exact x
theorem Je (e:r=.ok a h)(q:Q a h):WR r Q:=by rw[e];exact q
theorem WR.eq (x:WR r Q):∃a h,r=.ok a h/\Q a h:=by
 cases r with
 | ok a h=>exact⟨a,h,rfl,x⟩
 | exc n h=>exact x.elim
 | stuck=>exact x.elim
theorem WS.mono (x:WS r N R)(f:∀σ h,N σ h->N' σ h)(g:∀v h,R v h->R' v h):WS r N' R':=by
 cases r with
 | next σ h=>exact f σ h x
 | ret v h=>exact g v h x
 | _=>exact x
theorem Vh (a:α):WR (.ok a h) Q=Q a h:=rfl
theorem Jv (r:Res α)(f:α->IH->Res β)(Q:β->IH->Prop):WR (r.bind f) Q=WR r λ a h=>WR (f a h) Q:=by cases r<;>rfl
theorem Jvm (r:Res α):WR r.nx Q=WR r Q:=by cases r<;>rfl
theorem Vg (c:Prop)[Decidable c](x y:Res α):WR (if c then x else y) Q=((c->WR x Q)/\(¬c->WR y Q)):=by
 by_cases hc:c<;>simp[hc]
theorem Qq (r:Res α)(k:α->IH->SRes):WS (rS σ r k) N R=WR r λ a h=>WS (k a h) N R:=by cases r<;>rfl
theorem YF (r:SRes)(Q:IV->IH->Prop):WR r.fin Q=WS r (λ _ h=>Q .non h) Q:=by
 cases r with
 | _=>rfl
theorem Jj6 (σ:ISt):WS (.next σ h) N R=N σ h:=rfl
theorem Joo (v:IV):WS (.ret v h) N R=R v h:=rfl
theorem Nb (a b:S1):WS (Jf a b σ h) N R=WS (a σ h) (λ σ1 h1=>WS (b σ1 h1) N R) R:=by
 unfold Jf;cases a σ h<;>rfl
theorem YZ:WS (Jr σ h) N R=N σ h:=rfl
theorem Jj7:WS (Jyn σ h) N R=N σ h:=rfl
theorem Nc (i:Nat)(e:E1):WS (Ji i e σ h) N R=WR (e σ h) λ v h1=>N (σ.set i (Za v)) h1:=by unfold Ji;rw[Qq];rfl
theorem YY (t:T1)(a b:S1):WS (sIf t a b σ h) N R=WR (t σ h) λ c h1=>(c=Zi->WS (a σ h1) N R)/\(c=Zk->WS (b σ h1) N R):=by
 unfold sIf;rw[Qq];congr 1;funext c h1;cases c<;>simp
theorem Nd (e:E1):WS (Jk e σ h) N R=WR (e σ h) R:=by unfold Jk;rw[Qq];rfl
theorem Jj8:WS (Jyp σ h) N R=R .non h:=rfl
theorem YX (e:E1):WS (JG e σ h) N R=WR (e σ h) λ _ h1=>N σ h1:=by unfold JG;rw[Qq];rfl
theorem QF (e:E1)(g:G1):WS (sAsg e g σ h) N R=WR (e σ h) λ v h1=>WS (g v σ h1) N R:=by unfold sAsg;rw[Qq]
theorem Jon (i:Nat)(v:IV):WS (gNm i v σ h) N R=N (σ.set i (Za v)) h:=rfl
theorem J2f (n:Nat)(g:List IV->ISt->IH->SRes)(xs:List IV):WS (gTp n g (.tup xs) σ h) N R=(xs.length=n/\WS (g xs σ h) N R):=by
 unfold gTp
 by_cases hn:xs.length=n
 ·simp[hn]
 ·simp[hn,WS]
theorem J4d:WS (gN [] σ h) N R=N σ h:=rfl
theorem J4c (i:Nat)(r:List IV->ISt->IH->SRes)(v:IV)(vs:List IV):WS (gC (gNm i) r (v::vs) σ h) N R=WS (r vs (σ.set i (Za v)) h) N R:=rfl
theorem VR (f:Str)(o e:E1):WS (JR f o e σ h) N R=WR (e σ h) λ v h1=>WR (o σ h1) λ ov h2=>∃i c fs,ov=.ref i/\h2[i]?=Za (.ins c fs)/\fs.length<1000/\N σ (h2.set i (.ins c (putI f v fs))):=by
 unfold JR;rw[Qq];congr 1;funext v h1;rw[Qq];congr 1;funext ov h2
 cases ov with
 | ref i =>
  cases e:h2[i]? with
  | none=>simp[WS,e]
  | some o =>
   cases o with
   | ins c fs =>
    by_cases hl:fs.length<1000
    ·simp only[e,hl,if_true,WS]
     refine propext ⟨λ q=>⟨i,c,fs,rfl,e,hl,q⟩,λ ⟨i',c',fs',e1,e2,_,q⟩=>?_⟩
     cases e1
     rw[e] at e2
     cases e2
     exact q
    ·simp only[e,hl,if_false,WS]
     refine propext ⟨λ q=>q.elim,λ ⟨i',c',fs',e1,e2,hl',_⟩=>?_⟩
     cases e1
     rw[e] at e2
     cases e2
     exact hl hl'
   | _=>simp[WS,e]
 | _=>simp[WS]
theorem XM (it:I1)(g:G1)(b:S1):WS (sFor it g b σ h) N R=WR (it σ h) λ J h1=>WS (Ql J.chk g b J.xs σ h1) N R:=by unfold sFor;rw[Qq]
theorem Qo (v:IV)(Q:IV->IH->Prop):WR (eC v σ h) Q=Q v h:=rfl
theorem Vs (f:IV->IV->IH->Res IV)(a b:E1)(Q:IV->IH->Prop):WR (Jb f a b σ h) Q=WR (a σ h) λ x h1=>WR (b σ h1) λ y h2=>WR (f x y h2) Q:=by
 unfold Jb;rw[Jv];congr 1;funext x h1;rw[Jv]
theorem Jvq (f:IV->IH->Res IV)(a:E1)(Q:IV->IH->Prop):WR (eUn f a σ h) Q=WR (a σ h) λ x h1=>WR (f x h1) Q:=by unfold eUn;rw[Jv]
theorem Job (a b:E1)(tr:IV->IH->Res Bool)(Q:IV->IH->Prop):WR (eAnd a b tr σ h) Q=WR (a σ h) λ x h1=>WR (tr x h1) λ c h2=>(c=Zi->WR (b σ h2) Q)/\(c=Zk->Q x h2):=by
 unfold eAnd;rw[Jv];congr 1;funext x h1;rw[Jv];congr 1;funext c h2;cases c<;>simp[WR]
theorem Jvn (a b:E1)(tr:IV->IH->Res Bool)(Q:IV->IH->Prop):WR (eOr a b tr σ h) Q=WR (a σ h) λ x h1=>WR (tr x h1) λ c h2=>(c=Zi->Q x h2)/\(c=Zk->WR (b σ h2) Q):=by
 unfold eOr;rw[Jv];congr 1;funext x h1;rw[Jv];congr 1;funext c h2;cases c<;>simp[WR]
theorem YH (t:T1)(a b:E1)(Q:IV->IH->Prop):WR (eIf t a b σ h) Q=WR (t σ h) λ c h1=>(c=Zi->WR (a σ h1) Q)/\(c=Zk->WR (b σ h1) Q):=by
 unfold eIf;rw[Jv];congr 1;funext c h1;cases c<;>simp
theorem YU (a b:T1)(Q:Bool->IH->Prop):WR (Qm a b σ h) Q=WR (a σ h) λ c h1=>(c=Zi->WR (b σ h1) Q)/\(c=Zk->Q Zk h1):=by
 unfold Qm;rw[Jv];congr 1;funext c h1;cases c<;>simp[WR]
theorem Jom (a b:T1)(Q:Bool->IH->Prop):WR (tOrI a b σ h) Q=WR (a σ h) λ c h1=>(c=Zi->Q Zi h1)/\(c=Zk->WR (b σ h1) Q):=by
 unfold tOrI;rw[Jv];congr 1;funext c h1;cases c<;>simp[WR]
theorem Jj4 (a:T1)(Q:Bool->IH->Prop):WR (JF a σ h) Q=WR (a σ h) λ c h1=>Q (!c) h1:=by unfold JF;rw[Jv];rfl
theorem YV (tr:IV->IH->Res Bool)(a:E1)(Q:Bool->IH->Prop):WR (Jh tr a σ h) Q=WR (a σ h) λ x h1=>WR (tr x h1) Q:=by unfold Jh;rw[Jv]
theorem YD (f g:IV->IV->IH->Res IV)(a b c:E1)(Q:IV->IH->Prop):WR (Qa f g a b c σ h) Q=WR (a σ h) λ x h1=>WR (b σ h1) λ y h2=>WR (f x y h2) λ k h3=>∃t,k=.bl t/\(t=Zi->WR (c σ h3) λ z h4=>WR (g y z h4) Q)/\(t=Zk->Q (.bl Zk) h3):=by
 unfold Qa;rw[Jv];congr 1;funext x h1;rw[Jv];congr 1;funext y h2;rw[Jv];congr 1;funext k h3
 cases k with
 | bl t =>
  cases t with
  | true =>
   show WR ((c σ h3).bind λ z h4=>g y z h4) Q=_
   rw[Jv]
   simp
  | false=>simp[WR]
 | _=>simp[WR]
theorem Jj1 (Q:List IV->IH->Prop):WR (Jd σ h) Q=Q [] h:=rfl
theorem XL (a:E1)(r:A1)(Q:List IV->IH->Prop):WR (Jc a r σ h) Q=WR (a σ h) λ x h1=>WR (r σ h1) λ xs h2=>Q (x::xs) h2:=by
 unfold Jc;rw[Jv];congr 1;funext x h1;rw[Jv];rfl
theorem YW (a:A1)(Q:IV->IH->Prop):WR (eTup a σ h) Q=WR (a σ h) λ xs h1=>xs.length<=sizeLine/\Q (.tup xs) h1:=by
 unfold eTup;rw[Jv];congr 1;funext xs h1;rw[Vg]
 by_cases hz:xs.length<=sizeLine<;>simp[hz,WR]
theorem YN (a:A1)(Q:IV->IH->Prop):WR (JD a σ h) Q=WR (a σ h) λ xs h1=>xs.length<=sizeLine/\Q (.ref h1.length) (h1++[.lst xs]):=by
 unfold JD;rw[Jv];congr 1;funext xs h1;rw[Vg]
 by_cases hz:xs.length<=sizeLine<;>simp[hz,WR]
theorem Q2 (f:List IV->IH->Res IV)(d:List IV)(a:A1)(Q:IV->IH->Prop):WR (Jm f d a σ h) Q=WR (a σ h) λ vs h1=>WR (f (vs++d) h1) Q:=by
 unfold Jm;rw[Jv]
theorem VQ (c:Str)(f:List IV->IH->Res IV)(d:List IV)(a:A1)(Q:IV->IH->Prop):WR (QN c f d a σ h) Q=WR (a σ h) λ vs h1=>WR (f (.ref h1.length::(vs++d)) (h1++[.ins c []])) λ r h2=>r=.non/\Q (.ref h1.length) h2:=by
 unfold QN;rw[Jv];congr 1;funext vs h1;rw[Jv];congr 1;funext r h2;cases r<;>simp[WR]
theorem Jvc (f:List IV->IH->Res IV)(a:A1)(Q:IV->IH->Prop):WR (eCB f a σ h) Q=WR (a σ h) λ vs h1=>WR (f vs h1) Q:=by unfold eCB;rw[Jv]
theorem YR (f:IV->IH->Res IV)(x:IV)(Q:IV->IH->Prop):WR (on1 f [x] h) Q=WR (f x h) Q:=rfl
theorem YI (ans:Ty->Option Bool)(e:E1)(Q:IV->IH->Prop):WR (eIsi ans e σ h) Q=WR (e σ h) λ v h1=>∃b,(tyI v h1).bind ans=Za b/\Q (.bl b) h1:=by
 unfold eIsi;rw[Jv];congr 1;funext v h1
 cases (tyI v h1).bind ans<;>simp[WR]
theorem Jgj (Q:Option Int->IH->Prop):WR (X4 σ h) Q=Q Zc h:=rfl
theorem Jgk (e:E1)(Q:Option Int->IH->Prop):WR (Qs e σ h) Q=WR (e σ h) λ v h1=>∃i,v=.int i/\Q (Za i) h1:=by
 unfold Qs;rw[Jv];congr 1;funext v h1;cases v<;>simp[WR]
theorem Xj (f:IV->Option Int->Option Int->IH->Res IV)(e:E1)(lo hi:O1)(Q:IV->IH->Prop):WR (eSl f e lo hi σ h) Q=WR (e σ h) λ x h1=>WR (lo σ h1) λ l h2=>WR (hi σ h2) λ u h3=>WR (f x l u h3) Q:=by
 unfold eSl;rw[Jv];congr 1;funext x h1;rw[Jv];congr 1;funext l h2;rw[Jv]
def QX (f:Str)(v:IV)(h:IH):Option IV:=match v with
 | .ref i=>(match h[i]? with
  | some (.ins _ fs)=>fs.lookup f
  | _=>Zc)
 | _=>Zc
theorem YG (f:Str)(o:E1)(Q:IV->IH->Prop):WR (Jo f o σ h) Q=WR (o σ h) λ v h1=>∃x,QX f v h1=Za x/\Q x h1:=by
 unfold Jo;rw[Jv];congr 1;funext v h1
 cases v with
 | ref i =>
  unfold QX
  cases e:h1[i]? with
  | none=>simp[WR,e]
  | some ob =>
   cases ob with
   | ins c fs=>cases e2:fs.lookup f<;>simp[WR,e,e2]
   | _=>simp[WR,e]
 | _=>simp[WR,QX]
variable {i j:Int}{x y:Str}{P:IV->IH->Prop}
theorem YC (i j:Int):WR (Jj (.int i) (.int j) h) P=P (.int (i+j)) h:=rfl
theorem Jol (i j:Int):WR (JJ (.int i) (.int j) h) P=P (.int (i-j)) h:=rfl
theorem Joi (i:Int):WR (Yw (.int i) h) P=P (.int (-i)) h:=rfl
theorem YQ (i j:Int):WR (JQ (.int i) (.int j) h) P=(Vj i j/\P (.int (i*j)) h):=by
 show WR (X5 (.int i) (.int j) h) P=_
 unfold X5;rw[Vg];by_cases hm:Vj i j<;>simp[hm,WR]
theorem YE (i j:Int):WR (J7 (.int i) (.int j) h) P=((0<j/\j.natAbs.log2<9000)/\P (.int (i/j)) h):=by
 unfold J7;rw[Vg];by_cases hm:0<j/\j.natAbs.log2<9000<;>simp[hm,WR]
theorem YO (i j:Int):WR (Jq (.int i) (.int j) h) P=(0<j/\P (.int (i%j)) h):=by
 unfold Jq;rw[Vg];by_cases hm:0<j<;>simp[hm,WR]
theorem V7 (i j:Int):WR (JL (.int i) (.int j) h) P=((0<=j/\j<=1000000/\i.natAbs<2^64)/\P (.int (i^j.toNat)) h):=by
 unfold JL;rw[Vg];by_cases hm:0<=j/\j<=1000000/\i.natAbs<2^64<;>simp[hm,WR]
theorem Jj0 (x y:Str):WR (Jj (.str x) (.str y) h) P=(x.length+y.length<=sizeLine/\P (.str (x++y)) h):=by
 unfold Jj;rw[Vg];by_cases hm:x.length+y.length<=sizeLine<;>simp[hm,WR]
theorem Jvk (i j:Int):WR (cLt (.int i) (.int j) h) P=P (.bl (decide (i<j))) h:=rfl
theorem Jvi (i j:Int):WR (cLe (.int i) (.int j) h) P=P (.bl (decide (i<=j))) h:=rfl
theorem J2d (x y:Str):WR (cLe (.str x) (.str y) h) P=P (.bl (!decide (y.cps.toList<x.cps.toList))) h:=rfl
theorem Jvg (i j:Int):WR (cGt (.int i) (.int j) h) P=P (.bl (decide (j<i))) h:=rfl
theorem Jvf (i j:Int):WR (cGe (.int i) (.int j) h) P=P (.bl (decide (j<=i))) h:=rfl
theorem Jve (i j:Int):WR (cEq (.int i) (.int j) h) P=P (.bl (decide (i=j))) h:=rfl
theorem Jvl (i j:Int):WR (cNe (.int i) (.int j) h) P=P (.bl (!decide (i=j))) h:=rfl
theorem Joe (x y:Str):WR (cEq (.str x) (.str y) h) P=P (.bl (decide (x=y))) h:=rfl
theorem Joj (x y:Str):WR (cNe (.str x) (.str y) h) P=P (.bl (!decide (x=y))) h:=rfl
theorem Joc (b:Bool)(P:Bool->IH->Prop):WR (asB (.bl b) h) P=P b h:=rfl
theorem Jj5 (b:Bool)(P:Bool->IH->Prop):WR (tru (.bl b) h) P=P b h:=rfl
theorem Jok (tr:IV->IH->Res Bool)(v:IV):WR (VJ tr v h) P=WR (tr v h) λ c h1=>P (.bl (!c)) h1:=by unfold VJ;rw[Jv];rfl
theorem J2c (v w:IV):WR (cIs v w h) P=∃b,isI v w=Za b/\P (.bl b) h:=by unfold cIs;cases isI v w<;>simp[WR]
theorem QG {chk:IH->Prop}{g:G1}{b:S1}(I:Nat->ISt->IH->Prop){xs:List IV}(hc:∀i σ h,I i σ h->chk h) 
  (turn:∀i (hi:i<xs.length) σ h,I i σ h->WS (g xs[i] σ h) (λ σ1 h1=>WS (b σ1 h1) (I (i+1)) R) λ _ _=>False)(done:∀σ h,I xs.length σ h->N σ h)(start:I 0 σ h):WS (Ql chk g b xs σ h) N R:=by
 have key:∀(n i:Nat)(σ:ISt)(h:IH),xs.length-i=n->i<=xs.length->I i σ h->WS (Ql chk g b (xs.drop i) σ h) N R:=by
  intro n
  induction n with
  | zero =>
   intro i σ h hn hi hI
   have:i=xs.length:=00
   subst this
   rw[Zdw]
   unfold Ql
   rw[if_pos (hc _ _ _ hI)]
   exact done _ _ hI
  | succ n ih =>
   intro i σ h hn hi hI
   have hlt:i<xs.length:=00
   rw[ZaH hlt]
   unfold Ql
   rw[if_pos (hc _ _ _ hI)]
   have t:=turn i hlt σ h hI
   cases eg:g xs[i] σ h with
   | next σ1 h1 =>
    rw[eg] at t
    have t':WS (b σ1 h1) (I (i+1)) R:=t
    dsimp only
    cases eb:b σ1 h1 with
    | next σ2 h2=>rw[eb] at t';exact ih (i+1) σ2 h2 00 hlt t'
    | ret v h2=>rw[eb] at t';exact t'
    | brk σ2 h2=>rw[eb] at t';exact t'.elim
    | cont σ2 h2=>rw[eb] at t';exact t'.elim
    | exc m σ2 h2=>rw[eb] at t';exact t'.elim
    | stuck=>rw[eb] at t';exact t'.elim
   | ret v h1=>rw[eg] at t;exact t.elim
   | brk σ2 h2=>rw[eg] at t;exact t.elim
   | cont σ2 h2=>rw[eg] at t;exact t.elim
   | exc m σ2 h2=>rw[eg] at t;exact t.elim
   | stuck=>rw[eg] at t;exact t.elim
 have:=key xs.length 0 σ h 00 (Zac _) start
 simpa using this
end
section
variable {α:Type}{h h1:IH}{a:α}{r:Res α}{P:IV->IH->Prop}
theorem Ju (x:WR r λ v h'=>v=a/\h'=h1):r=.ok a h1:=by
 obtain⟨_,_,e,rfl,rfl⟩:=x.eq
 exact e
theorem Xh (xs:List IV)(n:Int):WR (Jg (.tup xs) (.int n) h) P=∃x,atI xs n=Za x/\P x h:=by
 unfold Jg;cases e:atI xs n<;>simp[WR,e]
theorem YJ (xs:List IV)(n:Int):WR (Jg (.rol xs) (.int n) h) P=∃x,atI xs n=Za x/\P x h:=by
 unfold Jg;cases e:atI xs n<;>simp[WR,e]
theorem Js1 (i:Nat)(n:Int):WR (Jg (.ref i) (.int n) h) P=∃xs,h[i]?=Za (.lst xs)/\∃x,atI xs n=Za x/\P x h:=by
 unfold Jg
 cases e:h[i]? with
 | none=>simp[WR,e]
 | some o =>
  cases o with
  | lst xs=>cases e2:atI xs n<;>simp[WR,e,e2]
  | _=>simp[WR,e]
theorem YM (xs:List IV):WR (lenI (.tup xs) h) P=P (.int xs.length) h:=rfl
theorem YK (xs:List IV):WR (lenI (.rol xs) h) P=P (.int xs.length) h:=rfl
theorem Jm2 (i:Nat):WR (lenI (.ref i) h) P=∃xs,h[i]?=Za (.lst xs)/\P (.int xs.length) h:=by
 unfold lenI
 cases e:h[i]? with
 | none=>simp[WR,e]
 | some o=>cases o<;>simp[WR,e]
theorem YL (x:Str):WR (lenI (.str x) h) P=(x.length<=sizeLine/\P (.int x.length) h):=by
 unfold lenI;rw[Vg];by_cases hm:x.length<=sizeLine<;>simp[hm,WR]
theorem JC {xs:List α}{n:Nat}(e:xs[n]?=Za x):atI xs (n:Int)=Za x:=by
 have hn:n<xs.length:=(Zq.mp e).1
 have:(n:Int)<xs.length:=00
 simp[atI,ixN,this,e]
theorem JS:atI (x::xs) 0=Za x:=by simp[atI,ixN]
theorem JY {x y:α}{xs:List α}:atI (x::y::xs) 1=Za y:=JC (n:=1) rfl
theorem QL {x y z:α}{xs:List α}:atI (x::y::z::xs) 2=Za z:=JC (n:=2) rfl
theorem VD {x y z u:α}{xs:List α}:atI (x::y::z::u::xs) 3=Za u:=JC (n:=3) rfl
theorem Jqc {xs:List α}{n:Int}(h0:0<=n)(e:xs[n.toNat]?=Za x):atI xs n=Za x:=by
 have:=JC e
 rwa [Int.toNat_of_nonneg h0] at this
theorem Y4 (i:Int):tyI (.int i) h=Za .int:=rfl
theorem Y8 (x:Str):tyI (.str x) h=Za .str:=rfl
theorem Y9 (xs:List IV):tyI (.tup xs) h=Za .tup:=rfl
theorem Y5 (b:Bool):tyI (.bl b) h=Za .bl:=rfl
theorem Y6:tyI .non h=Za .non:=rfl
theorem Y7 (xs:List IV):tyI (.rol xs) h=Za .lst:=rfl
theorem Jss (e:h[i]?=Za (.lst xs)):tyI (.ref i) h=Za .lst:=by simp[tyI,e]
theorem grow {i:Nat}(e:h[i]?=Za o):(h++g)[i]?=Za o:=by
 rw[ZC (Zq.mp e).1];exact e
theorem Jp:(h++[o])[h.length]?=Za o:=03
theorem J4 (e:h[i]?=Za o):i<h.length:=(Zq.mp e).1
theorem Jkg (f:IV->Bool):∀xs:List IV,VT (xs.map λ x=>.bl (f x))=Za (xs.map f)
 | []=>rfl
 | x::xs=>by simp[VT,Jkg f xs]
theorem all_map {xs:List IV}(e:h[i]?=Za (.lst (xs.map λ x=>.bl (f x)))):allI (.ref i) h=.ok (.bl (xs.all f)) h:=by
 simp[allI,e,Jkg,List.all_map,Function.comp_def]
end
def Ex (h h':IH):Prop:=∃g,h'=h++g
theorem Ex.refl (h:IH):Ex h h:=⟨[],03⟩
theorem Ex.trans (a:Ex h h1)(b:Ex h1 h2):Ex h h2:=by
 obtain⟨g,rfl⟩:=a
 obtain⟨g',rfl⟩:=b
 exact⟨g++g',03⟩
theorem Ex.get (a:Ex h h'){i:Nat}(e:h[i]?=Za o):h'[i]?=Za o:=by
 obtain⟨g,rfl⟩:=a
 exact grow e
theorem Ex.one (h:IH)(o:IX):Ex h (h++[o]):=⟨[o],rfl⟩
theorem Ex.len (a:Ex h h'):h.length<=h'.length:=by
 obtain⟨g,rfl⟩:=a
 simp
section
variable {α:Type}{h:IH}
theorem Jxb {chk:IH->Prop}{t:T1}{e:E1}{caps:ISt}{p:IV->Bool}{f:IV->IV}(i0:Nat):∀{xs acc:List IV}{o:Option IV}{h1:IH},h1[i0]?=Za (.lst acc)->(∀h2,(∀j ob,j≠i0->h1[j]?=Za ob->h2[j]?=Za ob)->chk h2)->acc.length+xs.length<sizeLine ->
  (∀x∈xs,∀h2,(∀j ob,j≠i0->h1[j]?=Za ob->h2[j]?=Za ob)->WR (t (Za x::caps) h2) λ b h3=>b=p x/\Ex h2 h3) ->
  (∀x∈xs,p x=Zi->∀h2,(∀j ob,j≠i0->h1[j]?=Za ob->h2[j]?=Za ob)->WR (e (Za x::caps) h2) λ v h3=>v=f x/\Ex h2 h3) ->
  WR (JN chk (gNm 0) t e i0 xs (o::caps) h1) λ v h3=>v=.ref i0/\∃g,h3=h1.set i0 (.lst (acc++(xs.filter p).map f))++g
 | [],acc,o,h1,hi,hc,_,_,_=>by
  unfold JN
  rw[if_pos (hc h1 λ _ _ _ q=>q)]
  refine⟨rfl,[],?_⟩
  simp only[List.filter_nil,Zbv,Zay]
  refine(Zbq λ j=>?_)
  by_cases hj:j=i0
  ·subst hj
   rw[hi,ZW (J4 hi)]
  ·rw[Zaa (ZR hj)]
 | x::xs,acc,o,h1,hi,hc,hl,ht,he=>by
  unfold JN
  rw[if_pos (hc h1 λ _ _ _ q=>q)]
  dsimp only[gNm,Zbw]
  have hl':acc.length+xs.length+1<sizeLine:=by simpa [Zeb] using hl
  obtain⟨b,h2,e1,rfl,x2⟩:=(ht x Zx h1 λ _ _ _ q=>q).eq
  rw[e1]
  have k12:∀j ob,j≠i0->h1[j]?=Za ob->h2[j]?=Za ob:=λ j ob _ q=>x2.get q
  cases hp:p x with
  | false =>
   dsimp only
   refine WR.mono (Jxb i0 (x2.get hi) (λ h3 q=>hc h3 λ j ob n r=>q j ob n (k12 j ob n r)) 00 (λ y hy h3 q=>ht y (Zl _ hy) h3 λ j ob n r=>q j ob n (k12 j ob n r))
    λ y hy hpy h3 q=>he y (Zl _ hy) hpy h3 λ j ob n r=>q j ob n (k12 j ob n r)) λ v h3 ⟨ev,g,eg⟩=>⟨ev,?_⟩
   obtain⟨g2,rfl⟩:=x2
   refine⟨g2++g,?_⟩
   rw[eg,Za3 (h:=J4 hi)]
   simp[hp]
  | true =>
   dsimp only
   obtain⟨v,h3,e3,rfl,x3⟩:=(he x Zx hp h2 k12).eq
   rw[e3]
   dsimp only
   rw[x3.get (x2.get hi)]
   dsimp only
   rw[if_pos 00]
   have k13:∀j ob,j≠i0->h1[j]?=Za ob->(h3.set i0 (.lst (acc++[f x])))[j]?=Za ob:=λ j ob n q=>by
    rw[Zaa (ZR n)]
    exact x3.get (x2.get q)
   refine WR.mono (Jxb i0 (acc:=acc++[f x]) (by rw[ZW (J4 (x3.get (x2.get hi)))]) (λ h4 q=>hc h4 λ j ob n r=>q j ob n (k13 j ob n r)) (by simp;omega) (λ y hy h4 q=>ht y (Zl _ hy) h4 λ j ob n r=>q j ob n (k13 j ob n r))
    λ y hy hpy h4 q=>he y (Zl _ hy) hpy h4 λ j ob n r=>q j ob n (k13 j ob n r)) λ v h4 ⟨ev,g,eg⟩=>⟨ev,?_⟩
   obtain⟨g3,q3⟩:=x2.trans x3
   refine⟨g3++g,?_⟩
   rw[eg,q3,Za3 (h:=J4 hi),Za3 (h:=by rw[Zbf];exact J4 hi),ZdA]
   simp[hp]
theorem Jj2 {t:T1}{e:E1}{js:List Nat}{p:IV->Bool}{f:IV->IV}(hit:WR (it σ h0) λ J h1=>J.xs=xs/\J.chk=chk/\h1=h)(hl:xs.length<sizeLine) 
  (hc:∀h2:IH,(∀(j:Nat)(ob:IX),h[j]?=Za ob->h2[j]?=Za ob)->chk h2)
  (ht:∀x∈xs,∀h2:IH,(∀(j:Nat)(ob:IX),h[j]?=Za ob->h2[j]?=Za ob)->WR (t (Za x::js.map λ j=>(σ[j]?).join) h2) λ b h3=>b=p x/\Ex h2 h3)
  (he:∀x∈xs,p x=Zi->∀h2:IH,(∀(j:Nat)(ob:IX),h[j]?=Za ob->h2[j]?=Za ob)->WR (e (Za x::js.map λ j=>(σ[j]?).join) h2) λ v h3=>v=f x/\Ex h2 h3) :
  WR (Js it 1 js (gNm 0) t e σ h0) λ v h3=>v=.ref h.length/\∃g,h3=h++.lst ((xs.filter p).map f)::g:=by
 obtain⟨J,h1,e1,q1,q2,rfl⟩:=hit.eq
 unfold Js
 rw[e1]
 show WR (JN J.chk (gNm 0) t e h1.length J.xs (Zc::js.map λ j=>(σ[j]?).join) (h1++[.lst []])) _
 rw[q1,q2]
 have lift:∀{h2:IH},(∀j ob,j≠h1.length->(h1++[IX.lst []])[j]?=Za ob->h2[j]?=Za ob)->∀j ob,h1[j]?=Za ob->h2[j]?=Za ob:=λ q j ob r=>q j ob (Z7 (J4 r)) (grow r)
 refine WR.mono (Jxb (p:=p) (f:=f) h1.length (acc:=[]) Jp (λ h2 q=>hc h2 (lift q)) (by simpa using hl) (λ x hx h2 q=>ht x hx h2 (lift q)) λ x hx hp h2 q=>he x hx hp h2 (lift q)) λ v h3 ⟨ev,g,eg⟩=>⟨ev,g,?_⟩
 rw[eg]
 simp
theorem filt {α:Type}(xs:List α):xs.filter (λ _=>Zi)=xs:=List.filter_eq_self.mpr 03
theorem QC {e:E1}{js:List Nat}{f:IV->IV}(hit:WR (it σ h0) λ J h1=>J.xs=xs/\J.chk=chk/\h1=h)(hl:xs.length<sizeLine) 
  (hc:∀h2:IH,(∀(j:Nat)(ob:IX),h[j]?=Za ob->h2[j]?=Za ob)->chk h2)
  (he:∀x∈xs,∀h2:IH,(∀(j:Nat)(ob:IX),h[j]?=Za ob->h2[j]?=Za ob)->WR (e (Za x::js.map λ j=>(σ[j]?).join) h2) λ v h3=>v=f x/\Ex h2 h3) :
  WR (Js it 1 js (gNm 0) JB e σ h0) λ v h3=>v=.ref h.length/\∃g,h3=h++.lst (xs.map f)::g:=by
 have:=Jj2 (p:=λ _=>Zi) (f:=f) (t:=JB) (e:=e) (js:=js) (σ:=σ) (h:=h) hit hl hc (λ _ _ h2 _=>⟨rfl,.refl _⟩) λ x hx _ h2 q=>he x hx h2 q
 rwa [filt] at this
theorem J1 {g:IH}:(h++o::g)[h.length]?=Za o:=03
theorem Ex.cons (h:IH)(o:IX)(g:IH):Ex h (h++o::g):=⟨_,rfl⟩
end
section
variable {σ:ISt}{h h1:IH}{Q:IV->IH->Prop}{J:ItI->IH->Prop}
theorem QD (e:E1):WR (J6 e σ h) J=WR (e σ h) λ v h1=>WR (Xw v h1) J:=by unfold J6;rw[Jv]
theorem QE (f:List IV->IH->Res ItI)(a:A1):WR (iRg f a σ h) J=WR (a σ h) λ vs h1=>WR (f vs h1) J:=by unfold iRg;rw[Jv]
theorem Qp (i:Nat):WR (Xw (.ref i) h) J=∃xs,h[i]?=Za (.lst xs)/\J ⟨xs,λ h'=>h'[i]?=Za (.lst xs)⟩ h:=by
 show WR (itOf (.ref i) h) J=_
 unfold itOf
 cases e:h[i]? with
 | none=>simp[WR,e]
 | some o=>cases o<;>simp[WR,e]
theorem Jof (xs:List IV):WR (Xw (.rol xs) h) J=J ⟨xs,λ _=>True⟩ h:=rfl
theorem Joh (xs:List IV):WR (Xw (.tup xs) h) J=J ⟨xs,λ _=>True⟩ h:=rfl
theorem Jog (x:Str):WR (Xw (.str x) h) J=J ⟨Vq x,λ _=>True⟩ h:=rfl
theorem Jj3 (i:Nat):WR (Qw [.ref i] h) J=∃xs,h[i]?=Za (.lst xs)/\J ⟨Qi 0 xs,λ h'=>h'[i]?=Za (.lst xs)⟩ h:=by
 show WR (Qw [.ref i] h) J=_
 unfold Qw
 cases e:h[i]? with
 | none=>simp[WR,e]
 | some o=>cases o<;>simp[WR,e]
theorem V8 (j:Int):WR (JV [.int j] h) J=((-(2^62)<=j/\j<2^62)/\J ⟨rngI 0 j,λ _=>True⟩ h):=by
 unfold JV;rw[Vg];exact propext ⟨λ ⟨a,b⟩=>(Classical.em _).elim (λ q=>⟨q,a q⟩) λ q=>(b q).elim,λ ⟨a,b⟩=>⟨λ _=>b,λ q=>absurd a q⟩⟩
theorem YS (i j:Int):WR (VG [.int i,.int j] h) J=((-(2^62)<=i/\i<2^62/\ -(2^62)<=j/\j<2^62)/\J ⟨rngI i j,λ _=>True⟩ h):=by
 unfold VG;rw[Vg];exact propext ⟨λ ⟨a,b⟩=>(Classical.em _).elim (λ q=>⟨q,a q⟩) λ q=>(b q).elim,λ ⟨a,b⟩=>⟨λ _=>b,λ q=>absurd a q⟩⟩
theorem JA (i j:Int):(rngI i j).length=(j-i).toNat:=by simp[rngI]
theorem Qk (i j:Int)(n:Nat)(hn:n<(rngI i j).length):(rngI i j)[n]=.int (i+n):=by simp[rngI]
theorem Yi (xs:List IV)(n:Nat)(hn:n<(Qi 0 xs).length):(Qi 0 xs)[n]=.tup [.int n,xs[n]'(by rwa [QW] at hn)]:=by
 have:=Jex xs 0 n
 rw[Zb hn,Zb (by rwa [QW] at hn)] at this
 simpa using this
theorem Js5 (i:Nat)(lo hi:Option Int):WR (slI (.ref i) lo hi h) Q=∃xs,h[i]?=Za (.lst xs)/\Q (.ref h.length) (h++[.lst (cutI xs lo hi)]):=by
 unfold slI
 cases e:h[i]? with
 | none=>simp[WR,e]
 | some o=>cases o<;>simp[WR,e]
theorem YT (xs:List IV)(lo hi:Option Int):WR (slI (.rol xs) lo hi h) Q=Q (.ref h.length) (h++[.lst (cutI xs lo hi)]):=rfl
theorem Jn0 (n d:Nat):HT.sIx n d Zc=d:=HT.sIx_none n d
theorem Jtg (xs:List α)(n:Nat):cutI xs Zc (Za (n:Int))=xs.take n:=by
 unfold cutI
 rw[Jn0,HT.sIx_nat]
 simp
theorem Jnf (xs:List α)(n:Nat):cutI xs (Za (n:Int)) Zc=xs.drop n:=by
 unfold cutI
 rw[Jn0,HT.sIx_nat]
 by_cases hn:n<=xs.length
 ·rw[Nat.min_eq_left hn]
  exact ZaY 03
 ·rw[Nat.min_eq_right 00,Zdw,Zc6 00]
  simp
theorem Jxc (xs:List α)(n m:Nat):cutI xs (Za (n:Int)) (Za (m:Int))=(xs.take m).drop n:=by
 unfold cutI
 rw[HT.sIx_nat,HT.sIx_nat]
 refine Zbq λ i=>?_
 simp only[Zcu,List.getElem?_drop]
 by_cases h1:n+i<xs.length
 ·rw[Nat.min_eq_left (show n<=xs.length by omega)]
  by_cases h3:n+i<m
  ·rw[if_pos h3,if_pos 00]
  ·rw[if_neg h3,if_neg 00]
 ·rw[show xs[n+i]?=Zc from Zaw 00,show xs[min n xs.length+i]?=Zc from Zaw 00]
  simp
variable {P:Pg}{m:Str}{n i:Nat}{o:E1}{a:A1}{xs:List IV}{c:Str}{fs:List (Str×IV)}
theorem Jzb (e:o σ h=.ok (.ref i) h1)(hl:h1[i]?=Za (.lst xs))(hg:bmOf "list" m n=Za g):WR (Jn P m n o a σ h) Q=WR (a σ h1) λ vs h2=>WR (g (.ref i) vs h2) Q:=by
 unfold Jn
 rw[e]
 have hi:VZ (.ref i) h1=Zk:=by simp[VZ,hl]
 have ht:tyS (.ref i) h1="list":=by simp[tyS,hl]
 dsimp only
 rw[hi,ht,hg]
 dsimp only
 rw[if_neg Zu]
 unfold eBm
 rw[e,Jv,Vh]
 have:tyOk "list" (.ref i) h1=Zi:=by simp[tyOk,hl]
 rw[if_pos this,Jv]
theorem VP (e:o σ h=.ok (.ref i) h1)(hi:h1[i]?=Za (.ins c fs))(hf:fs.lookup m=Zc)(hd:Qd P m n c=Za (f,d)):WR (Jn P m n o a σ h) Q=WR (a σ h1) λ vs h2=>WR (f (.ref i::(vs++d)) h2) Q:=by
 unfold Jn
 rw[e]
 have hi':VZ (.ref i) h1=Zi:=by simp[VZ,hi]
 dsimp only
 rw[hi',if_pos rfl]
 unfold Jtj
 rw[e,Jv,Vh]
 dsimp only
 rw[hi]
 dsimp only
 rw[hd,hf]
 dsimp only
 rw[Jv]
theorem Jsx (y:IV):WR (VS (.ref i) [y] h) Q=∃xs,h[i]?=Za (.lst xs)/\xs.length<sizeLine/\Q .non (h.set i (.lst (xs++[y]))):=by
 unfold VS
 cases e:h[i]? with
 | none=>simp[WR,e]
 | some ob =>
  cases ob with
  | lst xs=>by_cases hz:xs.length<sizeLine<;>simp[WR,e,hz]
  | _=>simp[WR,e]
theorem Vm:bmOf "list" "append" 1=Za VS:=02
theorem JT (e:h[i]?=Za (.ins c fs)):QX f (.ref i) h=fs.lookup f:=by simp[QX,e]
theorem Jvj:WR (Q9 (.ref i) h) Q=∃xs,h[i]?=Za (.lst xs)/\Q (.ref h.length) (h++[.lst xs]):=by
 unfold Q9
 cases e:h[i]? with
 | none=>simp[WR,e]
 | some ob=>cases ob<;>simp[WR,e]
theorem Jgi (xs:List IV):WR (Q9 (.tup xs) h) Q=Q (.ref h.length) (h++[.lst xs]):=rfl
theorem Js7:WR (Xg (.ref i) h) Q=∃xs,h[i]?=Za (.lst xs)/\Q (.tup xs) h:=by
 unfold Xg
 cases e:h[i]? with
 | none=>simp[WR,e]
 | some ob=>cases ob<;>simp[WR,e]
end
section
variable {σ:ISt}{h:IH}{Q:IV->IH->Prop}
theorem Jsw (i j:Nat):WR (Jj (.ref i) (.ref j) h) Q=∃xs,h[i]?=Za (.lst xs)/\∃ys,h[j]?=Za (.lst ys)/\xs.length+ys.length<=sizeLine/\Q (.ref h.length) (h++[.lst (xs++ys)]):=by
 unfold Jj
 dsimp only
 split
 ·rename_i xs ys e e'
  rw[Vg]
  refine propext ⟨λ ⟨a,b⟩=>?_,λ ⟨xs',f,ys',f',l,q⟩=>?_⟩
  ·by_cases l:xs.length+ys.length<=sizeLine
   ·exact⟨xs,e,ys,e',l,a l⟩
   ·exact(b l).elim
  ·rw[e] at f
   rw[e'] at f'
   cases f
   cases f'
   exact⟨λ _=>q,λ n=>absurd l n⟩
 ·rename_i no
  exact propext ⟨ZaT,λ ⟨xs,f,ys,f',_⟩=>(no xs ys f f').elim⟩
theorem J2e (o i:E1)(v:IV):WS (gSb o i v σ h) N R=WR (o σ h) λ ov h1=>WR (i σ h1) λ iv h2=>WS (setI ov iv v σ h2) N R:=by
 unfold gSb
 rw[Qq]
 congr 1;funext ov h1
 rw[Qq]
theorem Jzf (i:Nat)(k:Int)(v:IV):WS (setI (.ref i) (.int k) v σ h) N R=∃xs,h[i]?=Za (.lst xs)/\∃j,ixN xs.length k=Za j/\N σ (h.set i (.lst (xs.set j v))):=by
 unfold setI
 cases e:h[i]? with
 | none=>simp[WS,e]
 | some ob =>
  cases ob with
  | lst xs=>cases q:ixN xs.length k<;>simp[WS,e,q]
  | _=>simp[WS,e]
end
section
variable {σ:ISt}{h h1:IH}{Q:IV->IH->Prop}{P:Pg}{m:Str}{n i:Nat}{o:E1}{a:A1}{x:Str}
theorem Jqi:bmOf "list" "extend" 1=Za Xu:=02
theorem Jn5:∀zs:List Str,V6 (zs.map IV.str)=Za zs
 | []=>rfl
 | z::zs=>by
  rw[Z5,V6,Jn5 zs];rfl
end
section
variable {σ:ISt}{h:IH}{Q:IV->IH->Prop}{i:Nat}
theorem Js6:WR (sumI (.ref i) h) Q=∃xs,h[i]?=Za (.lst xs)/\∃ns,JP xs=Za ns/\Q (.int ns.sum) h:=by
 unfold sumI
 cases e:h[i]? with
 | none=>simp[WR,e]
 | some ob =>
  cases ob with
  | lst xs=>cases q:JP xs<;>simp[WR,e,q]
  | _=>simp[WR,e]
theorem V0:∀ns:List Int,JP (ns.map IV.int)=Za ns
 | []=>rfl
 | n::ns=>by
  rw[Z5,JP,V0 ns];rfl
theorem Jzd (aa:A1)(md:E1):WR (Ye aa md σ h) Q=WR (aa σ h) λ xs h1=>WR (md σ h1) λ d h2=>∃i,xs=[.ref i]/\∃ys,h2[i]?=Za (.lst ys)/\∃ns,JP ys=Za ns/\Q (maxD ns d) h2:=by
 unfold Ye
 rw[Jv]
 congr 1;funext xs h1
 rw[Jv]
 congr 1;funext d h2
 match xs with
 | [.ref i] =>
  simp only[ZdD,IV.ref.injEq,and_true,exists_eq_left']
  cases e:h2[i]? with
  | none=>simp[WR]
  | some ob =>
   cases ob with
   | lst ys=>cases q:JP ys<;>simp[WR,q]
   | _=>simp[WR]
 | []=>simp[WR]
 | [.non]=>simp[WR]
 | [.bl _]=>simp[WR]
 | [.int _]=>simp[WR]
 | [.str _]=>simp[WR]
 | [.tup _]=>simp[WR]
 | [.rol _]=>simp[WR]
 | x::_::_=>cases x<;>simp[WR]
theorem Js3 (aa:A1):WR (Yd aa σ h) Q=WR (aa σ h) λ xs h1=>∃i,xs=[.ref i]/\∃ys,h1[i]?=Za (.lst ys)/\∃zs,V6 ys=Za zs/\zs.length+1<Zcc/\Q (.int (cntD (QS zs) zs.length)) h1:=by
 unfold Yd
 rw[Jv]
 congr 1;funext xs h1
 match xs with
 | [.ref i] =>
  simp only[ZdD,IV.ref.injEq,and_true,exists_eq_left']
  cases e:h1[i]? with
  | none=>simp[WR]
  | some ob =>
   cases ob with
   | lst ys =>
    cases q:V6 ys with
    | none=>simp[WR,q]
    | some zs=>by_cases hz:zs.length+1<Zcc<;>simp[WR,q,hz]
   | _=>simp[WR]
 | []=>simp[WR]
 | [.non]=>simp[WR]
 | [.bl _]=>simp[WR]
 | [.int _]=>simp[WR]
 | [.str _]=>simp[WR]
 | [.tup _]=>simp[WR]
 | [.rol _]=>simp[WR]
 | x::_::_=>cases x<;>simp[WR]
theorem Jkl {zs:List Str}(nd:zs.Nodup):∀i,i<=zs.length->cntD (QS zs) i=i
 | 0,_=>rfl
 | i+1,hi=>by
  have ih:=Jkl nd i 00
  have hm:metB (QS zs) i (QS zs i)=Zk:=by
   unfold metB
   rw[List.any_eq_false]
   intro j hj
   have hj:=ZaO.mp hj
   simp only[decide_eq_true_eq]
   intro e
   simp only[QS,Ze,Zb (show j<zs.length by omega),Zb (show i<zs.length by omega),Zdx] at e
   have:=(Zdm nd).mp e
   omega
  unfold cntD
  rw[hm,ih]
  rfl
theorem Jwl (f:Nat->Int):∀(n j:Nat),j<n->f j<=JX f n
 | 0,_,h=>00
 | 1,j,h=>by
  obtain rfl:j=0:=00
  exact ZG _
 | n+2,j,h=>by
  rw[Jfh f 00]
  by_cases hj:j=n+1
  ·subst hj;split<;>omega
  ·have:=Jwl f (n+1) j 00
   split<;>omega
theorem Jwm (f:Nat->Int)(b:Int):∀(n:Nat),0<n->(∀j,j<n->f j<=b)->JX f n<=b
 | 0,h,_=>00
 | 1,_,q=>q 0 00
 | n+2,_,q=>by
  rw[Jfh f 00]
  have:=Jwm f b (n+1) 00 λ j hj=>q j 00
  have:=q (n+1) 00
  split<;>omega
end
section
variable {h:IH}{Q:IV->IH->Prop}{i:Nat}
theorem Jsy (hi:h[i]?=Za (.lst xs))(hj:h[j]?=Za (.lst ys))(hl:xs.length+ys.length<=sizeLine):WR (Xu (.ref i) [.ref j] h) Q=Q .non (h.set i (.lst (xs++ys))):=by
 unfold Xu
 simp only[hi,hj]
 rw[if_pos hl]
 rfl
end
def KpB (i0:Nat)(h h':IH):Prop:=∀(j:Nat)(ob:IX),j≠i0->h[j]?=Za ob->h'[j]?=Za ob
def Kp (h h':IH):Prop:=∀(j:Nat)(ob:IX),h[j]?=Za ob->h'[j]?=Za ob
theorem KpB.trans (p:KpB i0 a b)(q:KpB i0 b c):KpB i0 a c:=λ j ob n e=>q j ob n (p j ob n e)
theorem Kp.trans (p:Kp a b)(q:Kp b c):Kp a c:=λ j ob e=>q j ob (p j ob e)
theorem Kp.refl (a:IH):Kp a a:=λ _ _ e=>e
theorem Kp.but (p:Kp a b):KpB i0 a b:=λ j ob _ e=>p j ob e
theorem Ex.kp (x:Ex a b):Kp a b:=λ _ _ e=>x.get e
theorem Jzp {chk:IH->Prop}{e:E1}{caps:ISt}{D:IV->IV->IH->Prop}(i0:Nat)(mono:∀x y h2 h3,KpB i0 h2 h3->D x y h2->D x y h3):∀{xs acc:List IV}{o:Option IV}{h1:IH},h1[i0]?=Za (.lst acc)->(∀h2,KpB i0 h1 h2->chk h2)->acc.length+xs.length<sizeLine ->
  (∀x∈xs,∀h2:IH,KpB i0 h1 h2->i0<h2.length->WR (e (Za x::caps) h2) λ v h3=>Ex h2 h3/\D x v h3) ->
  WR (JN chk (gNm 0) JB e i0 xs (o::caps) h1) λ v h3=>v=.ref i0/\∃ys,h3[i0]?=Za (.lst (acc++ys))/\ys.length=xs.length/\KpB i0 h1 h3/\∀(i:Nat) x y,xs[i]?=Za x->ys[i]?=Za y->D x y h3
 | [],acc,o,h1,hi,hc,_,_=>by
  unfold JN
  rw[if_pos (hc h1 λ _ _ _ q=>q)]
  exact⟨rfl,[],by simpa using hi,rfl,λ _ _ _ q=>q,λ i x y q=>by simp at q⟩
 | x::xs,acc,o,h1,hi,hc,hl,he=>by
  unfold JN
  rw[if_pos (hc h1 λ _ _ _ q=>q)]
  dsimp only[gNm,Zbw,JB]
  have hl':acc.length+xs.length+1<sizeLine:=by simpa [Zeb] using hl
  obtain⟨v,h3,e3,x3,dv⟩:=(he x Zx h1 (λ _ _ _ q=>q) (J4 hi)).eq
  rw[e3]
  dsimp only
  rw[x3.get hi]
  dsimp only
  rw[if_pos 00]
  have k34:KpB i0 h3 (h3.set i0 (.lst (acc++[v]))):=λ j ob n q=>by
   rw[Zaa (ZR n)];exact q
  have k14:KpB i0 h1 (h3.set i0 (.lst (acc++[v]))):=x3.kp.but.trans k34
  refine WR.mono (Jzp i0 mono (acc:=acc++[v]) (by rw[ZW (J4 (x3.get hi))]) (λ h4 q=>hc h4 (k14.trans q)) (by simp;omega) λ y hy h4 q=>he y (Zl _ hy) h4 (k14.trans q)) ?_
  rintro w h5 ⟨rfl,ys,g5,ln,k5,d5⟩
  refine⟨rfl,v::ys,by simpa using g5,by simp[ln],k14.trans k5,?_⟩
  intro i x' y' q1 q2
  cases i with
  | zero =>
   simp only[ZaC,Zbc] at q1 q2
   subst q1;subst q2
   exact mono _ _ _ _ (k34.trans k5) dv
  | succ i=>exact d5 i x' y' (by simpa using q1) (by simpa using q2)
theorem Jvd {h h0:IH}{it:I1}{e:E1}{js:List Nat}{xs:List IV}{chk:IH->Prop}(D:IV->IV->IH->Prop)(hit:WR (it σ h0) λ J h1=>J.xs=xs/\J.chk=chk/\h1=h)(hl:xs.length<sizeLine) 
  (mono:∀x y h2 h3,KpB h.length h2 h3->D x y h2->D x y h3)(hc:∀h2:IH,Kp h h2->chk h2)
  (he:∀x∈xs,∀h2:IH,Kp h h2->h.length<h2.length->WR (e (Za x::js.map λ j=>(σ[j]?).join) h2) λ v h3=>Ex h2 h3/\D x v h3) :
  WR (Js it 1 js (gNm 0) JB e σ h0) λ v h3=>v=.ref h.length/\∃ys,h3[h.length]?=Za (.lst ys)/\ys.length=xs.length/\Kp h h3/\∀(i:Nat) x y,xs[i]?=Za x->ys[i]?=Za y->D x y h3:=by
 obtain⟨J,h1,e1,q1,q2,rfl⟩:=hit.eq
 unfold Js
 rw[e1]
 show WR (JN J.chk (gNm 0) JB e h1.length J.xs (Zc::js.map λ j=>(σ[j]?).join) (h1++[.lst []])) _
 rw[q1,q2]
 have lift:∀{h2:IH},KpB h1.length (h1++[IX.lst []]) h2->Kp h1 h2:=λ q j ob r=>q j ob (Z7 (J4 r)) (grow r)
 refine WR.mono (Jzp h1.length mono (acc:=[]) Jp (λ h2 q=>hc h2 (lift q)) (by simpa using hl) λ x hx h2 q ln=>he x hx h2 (lift q) ln) ?_
 rintro v h3 ⟨rfl,ys,g3,ln,k3,d3⟩
 exact⟨rfl,ys,by simpa using g3,ln,lift k3,d3⟩
section
variable {h:IH}
theorem Jxa {g:G1}{t:T1}{e:E1}{caps:ISt}{p:IV->Bool}{f:IV->IV}{st:IV->ISt}(i0:Nat):∀{xs acc:List IV}{ls:ISt}{h1:IH},ls.length=n->h1[i0]?=Za (.lst acc)->(∀h2,(∀j ob,j≠i0->h1[j]?=Za ob->h2[j]?=Za ob)->chk h2)->acc.length+xs.length<sizeLine ->
  (∀x∈xs,∀(ls:ISt)(h2:IH),ls.length=n->(st x).length=n/\g x (ls++caps) h2=.next (st x++caps) h2) ->
  (∀x∈xs,∀h2,(∀j ob,j≠i0->h1[j]?=Za ob->h2[j]?=Za ob)->WR (t (st x++caps) h2) λ b h3=>b=p x/\Ex h2 h3) ->
  (∀x∈xs,p x=Zi->∀h2,(∀j ob,j≠i0->h1[j]?=Za ob->h2[j]?=Za ob)->WR (e (st x++caps) h2) λ v h3=>v=f x/\Ex h2 h3) ->
  WR (JN chk g t e i0 xs (ls++caps) h1) λ v h3=>v=.ref i0/\∃g,h3=h1.set i0 (.lst (acc++(xs.filter p).map f))++g
 | [],acc,ls,h1,_,hi,hc,_,_,_,_=>by
  unfold JN
  rw[if_pos (hc h1 λ _ _ _ q=>q)]
  refine⟨rfl,[],?_⟩
  simp only[List.filter_nil,Zbv,Zay]
  refine(Zbq λ j=>?_)
  by_cases hj:j=i0
  ·subst hj
   rw[hi,ZW (J4 hi)]
  ·rw[Zaa (ZR hj)]
 | x::xs,acc,ls,h1,hls,hi,hc,hl,hg,ht,he=>by
  unfold JN
  rw[if_pos (hc h1 λ _ _ _ q=>q)]
  obtain⟨sl,eg1⟩:=hg x Zx ls h1 hls
  rw[eg1]
  dsimp only
  have hl':acc.length+xs.length+1<sizeLine:=by simpa [Zeb] using hl
  obtain⟨b,h2,e1,rfl,x2⟩:=(ht x Zx h1 λ _ _ _ q=>q).eq
  rw[e1]
  have k12:∀j ob,j≠i0->h1[j]?=Za ob->h2[j]?=Za ob:=λ j ob _ q=>x2.get q
  cases hp:p x with
  | false =>
   dsimp only
   refine WR.mono (Jxa i0 sl (x2.get hi) (λ h3 q=>hc h3 λ j ob n r=>q j ob n (k12 j ob n r)) 00 (λ y hy=>hg y (Zl _ hy)) (λ y hy h3 q=>ht y (Zl _ hy) h3 λ j ob n r=>q j ob n (k12 j ob n r))
    λ y hy hpy h3 q=>he y (Zl _ hy) hpy h3 λ j ob n r=>q j ob n (k12 j ob n r)) λ v h3 ⟨ev,g,eg⟩=>⟨ev,?_⟩
   obtain⟨g2,rfl⟩:=x2
   refine⟨g2++g,?_⟩
   rw[eg,Za3 (h:=J4 hi)]
   simp[hp]
  | true =>
   dsimp only
   obtain⟨v,h3,e3,rfl,x3⟩:=(he x Zx hp h2 k12).eq
   rw[e3]
   dsimp only
   rw[x3.get (x2.get hi)]
   dsimp only
   rw[if_pos 00]
   have k13:∀j ob,j≠i0->h1[j]?=Za ob->(h3.set i0 (.lst (acc++[f x])))[j]?=Za ob:=λ j ob n q=>by
    rw[Zaa (ZR n)]
    exact x3.get (x2.get q)
   refine WR.mono (Jxa i0 (acc:=acc++[f x]) sl (by rw[ZW (J4 (x3.get (x2.get hi)))]) (λ h4 q=>hc h4 λ j ob n r=>q j ob n (k13 j ob n r)) (by simp;omega) (λ y hy=>hg y (Zl _ hy)) (λ y hy h4 q=>ht y (Zl _ hy) h4 λ j ob n r=>q j ob n (k13 j ob n r))
    λ y hy hpy h4 q=>he y (Zl _ hy) hpy h4 λ j ob n r=>q j ob n (k13 j ob n r)) λ v h4 ⟨ev,g,eg⟩=>⟨ev,?_⟩
   obtain⟨g3,q3⟩:=x2.trans x3
   refine⟨g3++g,?_⟩
   rw[eg,q3,Za3 (h:=J4 hi),Za3 (h:=by rw[Zbf];exact J4 hi),ZdA]
   simp[hp]
theorem Jod {g:G1}{t:T1}{e:E1}{js:List Nat}{p:IV->Bool}{f:IV->IV}{st:IV->ISt}{n:Nat}(hit:WR (it σ h0) λ J h1=>J.xs=xs/\J.chk=chk/\h1=h)(hl:xs.length<sizeLine) 
  (hc:∀h2:IH,(∀(j:Nat)(ob:IX),h[j]?=Za ob->h2[j]?=Za ob)->chk h2)
  (hg:∀x∈xs,∀(ls:ISt)(h2:IH),ls.length=n->(st x).length=n/\g x (ls++js.map λ j=>(σ[j]?).join) h2=.next (st x++js.map λ j=>(σ[j]?).join) h2)
  (ht:∀x∈xs,∀h2:IH,(∀(j:Nat)(ob:IX),h[j]?=Za ob->h2[j]?=Za ob)->WR (t (st x++js.map λ j=>(σ[j]?).join) h2) λ b h3=>b=p x/\Ex h2 h3)
  (he:∀x∈xs,p x=Zi->∀h2:IH,(∀(j:Nat)(ob:IX),h[j]?=Za ob->h2[j]?=Za ob)->WR (e (st x++js.map λ j=>(σ[j]?).join) h2) λ v h3=>v=f x/\Ex h2 h3) :
  WR (Js it n js g t e σ h0) λ v h3=>v=.ref h.length/\∃g,h3=h++.lst ((xs.filter p).map f)::g:=by
 obtain⟨J,h1,e1,q1,q2,rfl⟩:=hit.eq
 unfold Js
 rw[e1]
 show WR (JN J.chk g t e h1.length J.xs (ZI n Zc++js.map λ j=>(σ[j]?).join) (h1++[.lst []])) _
 rw[q1,q2]
 have lift:∀{h2:IH},(∀j ob,j≠h1.length->(h1++[IX.lst []])[j]?=Za ob->h2[j]?=Za ob)->∀j ob,h1[j]?=Za ob->h2[j]?=Za ob:=λ q j ob r=>q j ob (Z7 (J4 r)) (grow r)
 refine WR.mono (Jxa (p:=p) (f:=f) (st:=st) h1.length (acc:=[]) (Zby ..) Jp (λ h2 q=>hc h2 (lift q)) (by simpa using hl) hg (λ x hx h2 q=>ht x hx h2 (lift q)) λ x hx hp h2 q=>he x hx hp h2 (lift q)) λ v h3 ⟨ev,g,eg⟩=>⟨ev,g,?_⟩
 rw[eg]
 simp
end
def Jww (ts:List Zo)(H:Hp):Prop:=∀b,H b=Zc∨(∃o xs,H b=Za (.frz o (.lst xs)))∨(b∈ts/\H b=Za (.tbl #[]))
theorem Jrp {P:ZB}{w:Zab}{K:W.Frag}{mg mb:Str->Option Zg}{k:Nat}{fa a:Zo}{fd:Za2}{x:Str}{sp:Sp}{s₁:Zn}{vs:List Zg}{ns:List Int}{ts:List Zo} 
  (KX:K.In s₁.heap)(hns:s₁.heap.Ns Z3 mg)(hb:s₁.heap.Ns Zct mb)(hbb:∀x:Str,x≠"__name__"->mb x=Zca x)(hlim:s₁.heap.NoLimit)(hg:s₁.gens=#[])
  (ha:s₁.heap.get? a=Za { cls:=.type "list",data:=.seq vs.toArray })(hi:ZbA vs ns)(hl:ns.length<=sizeLine)(hr:Room k ZdW)
  (hT:∀p∈ts,s₁.heap.get? p=Za (W.tabObj #[])/\isCodeTable s₁.heap p/\K.lookup p=Zc)
  (hbm:∃bm ob,mg "__builtins__"=Za (.ref bm)/\bm≠Zct/\s₁.heap.get? bm=Za ob/\ob.cls=.type "module"/\ob.dict=Za Zct/\ob.data=.plain)
  (F:∀base:Zau,K.In base->base.Ns Z3 mg->Q5 mg base->FnOk P w K mg base (CXI P w) k fa fd [x] sp)(hbind:∀(s:Zn)(u:Zg),Zc3 s fd ⟨[u],[]⟩ [(x,u)])
  (hsp:∀H:Hp,Jww ts H->SqL K H a (ns.map V.int)->(∀p∈ts,H p=Za (.tbl #[]))->sp [.ref a] H (λ v _=>v=.bl Zi) λ _ _ _=>False) :
  Zcp (Z8 P w) ZdW (.call (.ref fa) ⟨[.ref a],[]⟩) (λ r s'=>r=.ok (.ret (.bool Zi))/\OldK s₁.heap s'.heap/\s'.os=s₁.os/\ZcT s'.gens) s₁:=by
 have rv:=L2.YB hi
 have lenV:=hi.length
 have nta:a∉ts:=λ z=>by
  have e:=(hT a z).1
  rw[ha] at e
  have e':=ZQ e
  injection e' with h1
  cases h1
 have core:∀H:Hp,Jww ts H->SqL K H a (ns.map V.int)->HOk P w H s₁.heap->(∀b,H b≠Zc->b=a∨b∈ts)->(H a≠Zc->K.lookup a=Zc)->(∀p∈ts,H p=Za (.tbl #[])) ->
   Zcp (Z8 P w) ZdW (.call (.ref fa) ⟨[.ref a],[]⟩) (λ r s'=>r=.ok (.ret (.bool Zi))/\OldK s₁.heap s'.heap/\s'.os=s₁.os/\ZcT s'.gens) s₁:=by
  intro H hO hS hok hA hK hTt
  have base_of:∀{b:Zo}{o:Obj},s₁.heap.get? b=Za o->H b=Zc->(hidT s₁.heap H).get? b=Za o:=λ e n=>Jtq e n
  have noA:∀{b:Zo}{o:Obj},s₁.heap.get? b=Za o->(∀vs n,o.data≠.seq vs n)->(∀vs,o.data≠.fields vs)->H b=Zc:=λ {b o} e d1 d2=>by
   cases q:H b with
   | none=>rfl
   | some u =>
    rcases hA b (by rw[q];simp) with e'|e'
    ·subst e'
     rw[ha] at e;cases e
     exact absurd rfl (d1 _ _)
    ·rw[(hT b e').1] at e;cases e
     exact absurd rfl (d2 _)
  have nsK:∀{b:Zo}{m:Str->Option Zg},s₁.heap.Ns b m->(hidT s₁.heap H).Ns b m:=λ {b m} ⟨o,es,ep,e,d,r⟩=>⟨o,es,ep,base_of e (noA e (λ _ _ z=>by rw[d] at z;cases z) λ _ z=>by rw[d] at z;cases z),d,r⟩
  have hKb:K.In (hidT s₁.heap H):=λ b o e=>base_of (KX b o e) (by
   cases q:H b with
   | none=>rfl
   | some u =>
    rcases hA b (by rw[q];simp) with e'|e'
    ·subst e'
     rw[hK (by rw[q];simp)] at e;cases e
    ·rw[(hT b e').2.2] at e;cases e)
  have hM:Mod K mg (hidT s₁.heap H):=⟨hKb,nsK hns,⟨mb,nsK hb,hbb⟩,let ⟨mc,h1,h2⟩:=hlim;⟨mc,nsK h1,h2⟩⟩
  have hB:Q5 mg (hidT s₁.heap H):=by
   obtain⟨bm,ob,b1,b2,b3,b4,b5,b6⟩:=hbm
   refine⟨bm,ob,b1,b2,λ z=>?_,base_of b3 (noA b3 (λ _ _ z=>by rw[b6] at z;cases z) λ _ z=>by rw[b6] at z;cases z),b4,b5,b6⟩
   obtain⟨o,es,ep,e,d,_⟩:=hns
   rw[<- z,b3] at e
   cases e
   rw[b6] at d
   cases d
  have e0:Env0 P w K mg (hidT s₁.heap H) ZdW [] s₁ H:=⟨rfl,hM,λ b o e=>Jyb e,Zc2 (Jq9 _ _),trivial,λ b hb=>absurd (show b∈([]:List Zo) from hb) 03,hok,.of_eq hg⟩
  refine Zc5 ((F _ hKb (nsK hns) hB).run ZdW [] s₁ H ⟨[.ref a],[]⟩ [.ref a] [.ref a] _ _ hr e0 (hbind s₁ (.ref a)) (.cons rfl .nil) (hsp H hO hS hTt)) λ r s' h=>?_
  cases r with
  | error e=>exact h.elim λ _ z=>z.2.2.2.2.elim
  | ok fl =>
   cases fl with
   | next=>exact ZaT h
   | brk=>exact ZaT h
   | cont=>exact ZaT h
   | ret u =>
    obtain⟨v,H',os,bare,un,hok',r',q⟩:=h
    have q':v=.bl Zi:=q
    subst q'
    obtain rfl:u=ZcB Zi:=r'
    have main:∀b o,s₁.heap.get? b=Za o->asItWas s₁.heap s'.heap b o/\∃o',s'.heap.get? b=Za o':=λ b o e=>by
     rcases hO b with z|⟨ob,xs,z⟩|⟨hb,z⟩
     ·have:=un.keep b o e z (by intro z;exact absurd (show b∈([]:List Zo) from z) 03) 03
      exact⟨.inl this,_,this⟩
     ·have z2:=un.frzs b ob _ z
      obtain⟨e1,_⟩:=hok b _ z
      obtain⟨e2,_⟩:=hok' b _ z2
      rw[e] at e1;cases e1
      exact⟨.inl e2,_,e2⟩
     ·obtain⟨more,z2⟩:=un.tbls b _ z
      have e2:=hok' b _ z2
      have e1:=(hT b hb).1
      rw[e] at e1
      cases e1
      exact⟨.inr (.inl ⟨(hT b hb).2.1,rfl,#[],more,rfl,e2⟩),_,e2⟩
    exact⟨rfl,⟨λ b o e=>(main b o e).1,λ b o e=>(main b o e).2⟩,os,bare⟩
 cases hk:K.lookup a with
 | some o =>
  have e:=KX a o hk
  rw[ha] at e
  cases e
  refine core (λ b=>if b∈ts then Za (.tbl #[]) else Zc) (λ b=>?_) (.inr ⟨_,vs.toArray,_,hk,rfl,rfl,rfl,by rw[Zs,lenV];exact hl,by simpa using rv⟩) (λ b u z=>?_) (λ b z=>?_) (λ z=>absurd (if_neg nta) z) λ p hp=>if_pos hp
  ·by_cases hb:b∈ts
   ·exact .inr (.inr ⟨hb,if_pos hb⟩)
   ·exact .inl (if_neg hb)
  ·by_cases hb:b∈ts
   ·have z':=(if_pos hb).symm.trans z
    cases z'
    exact(hT b hb).1
   ·have z':=(if_neg hb).symm.trans z
    cases z'
  ·by_cases hb:b∈ts
   ·exact .inr hb
   ·exact absurd (if_neg hb) z
 | none =>
  refine core (λ b=>if b=a then Za (.frz { cls:=.type "list",data:=.seq vs.toArray } (.lst (ns.map V.int))) else if b∈ts then Za (.tbl #[]) else Zc) (λ b=>?_) (.inl (.inr ⟨{ cls:=.type "list",data:=.seq vs.toArray },if_pos rfl⟩)) (λ b u z=>?_) (λ b z=>?_) (λ _=>hk) λ p hp=>?_
  ·by_cases hb:b=a
   ·exact .inr (.inl ⟨_,_,if_pos hb⟩)
   ·by_cases hc:b∈ts
    ·exact .inr (.inr ⟨hc,(if_neg hb).trans (if_pos hc)⟩)
    ·exact .inl ((if_neg hb).trans (if_neg hc))
  ·by_cases hb:b=a
   ·have z':=(if_pos hb).symm.trans z
    cases z'
    subst hb
    exact⟨ha,by rw[Zm];exact hl,vs,_,rv,ha⟩
   ·by_cases hc:b∈ts
    ·have z':=((if_neg hb).trans (if_pos hc)).symm.trans z
     cases z'
     exact(hT b hc).1
    ·have z':=((if_neg hb).trans (if_neg hc)).symm.trans z
     cases z'
  ·by_cases hb:b=a
   ·exact .inl hb
   ·by_cases hc:b∈ts
    ·exact .inr hc
    ·exact absurd ((if_neg hb).trans (if_neg hc)) z
  ·have hb:p≠a:=λ z=>nta (z▸hp)
   exact(if_neg hb).trans (if_pos hp)
def Jte (o:Obj)(q:Str):Bool:=match o with
 | ⟨_,_,.fields vs,_⟩=>(match vs.toList with|_::.str n _::_=>n==q|_=>Zk)
 | _=>Zk
def Vc (K:W.Frag)(q:Str)(p:Zo):Bool:=(K.lookup p).isNone&&K.all (λ e=>!(Jte e.2 q)||W.codeHdIn K e.1 p)&&K.any (λ e=>Jte e.2 q&&W.codeHdIn K e.1 p)
def Vl (K:W.Frag):List Str->List Zo->Bool
 | [],[]=>Zi
 | q::qs,p::ps=>Vc K q p&&!ps.contains p&&Vl K qs ps
 | _,_=>Zk
theorem Jpf {K:W.Frag}(h:K.lookup c=Za o):(c,o)∈K:=by
 induction K with
 | nil=>cases h
 | cons p K ih =>
  obtain⟨b,o'⟩:=p
  rw[Zag] at h
  split at h
  ·rename_i e
   cases h
   rw[beq_iff_eq.mp e]
   exact Zx
  ·exact Zl _ (ih h)
theorem Vc.code {K:W.Frag}{q:Str}{p:Zo}(h:Vc K q p=Zi):∀cdv,W.codeIn K cdv q=Zi->∃c,cdv=.ref c/\W.codeHdIn K c p=Zi:=by
 simp only[Vc,Zr,ZaG,ZaF,ZaZ] at h
 intro cdv e
 unfold W.codeIn at e
 split at e
 ·rename_i c
  refine⟨c,rfl,?_⟩
  cases hk:K.lookup c with
  | none=>rw[hk] at e;cases e
  | some o =>
   rw[hk] at e
   rcases h.1.2 _ (Jpf hk) with z|z
   ·exfalso
    have e':Jte o q=Zi:=by
     obtain⟨oc,od,dt,sl⟩:=o
     cases dt<;>first|exact e|cases e
    have z':Jte o q=Zk:=z
    rw[e'] at z'
    cases z'
   ·exact z
 ·cases e
theorem Vc.some {K:W.Frag}{q:Str}{p:Zo}(h:Vc K q p=Zi):K.lookup p=Zc/\∃c,W.codeHdIn K c p=Zi:=by
 simp only[Vc,Zr,Zdy,Option.isNone_iff_eq_none] at h
 obtain⟨⟨h1,_⟩,e,_,h2⟩:=h
 exact⟨h1,e.1,h2.2⟩
theorem Vl.mem {K:W.Frag}:∀{qs:List Str}{ts:List Zo},Vl K qs ts=Zi->ts.Nodup/\qs.length=ts.length/\(∀(i:Nat)(q:Str),qs[i]?=Za q->∃p,ts[i]?=Za p/\Vc K q p=Zi)/\∀p∈ts,∃q,Vc K q p=Zi
 | [],[],_=>⟨.nil,rfl,λ i q e=>by simp at e,λ p hp=>by cases hp⟩
 | q::qs,p::ps,h=>by
  simp only[Vl,Zr,ZaZ,List.contains_eq_mem,decide_eq_false_iff_not] at h
  obtain⟨⟨h1,h2⟩,h3⟩:=h
  obtain⟨a,b,c,d⟩:=Vl.mem h3
  refine⟨Zcq.mpr ⟨h2,a⟩,by simp[b],λ i r e=>?_,λ r hr=>?_⟩
  ·cases i with
   | zero =>
    have e':Za q=Za r:=e
    cases e'
    exact⟨p,rfl,h1⟩
   | succ i=>exact c i r e
  ·rcases Z6.mp hr with rfl|hr
   ·exact⟨q,h1⟩
   ·exact d r hr
 | [],_::_,h=>by cases h
 | _::_,[],h=>by cases h
theorem Jpc {K:W.Frag}{x:Str}{f:List IV->IH->Res IV}{H:Hp}{a:Zo}{ns:List Int}{qs:List Str}{ts:List Zo}(hO:Jww ts H)(hS:SqL K H a (ns.map V.int))(hT:∀p∈ts,H p=Za (.tbl #[]))(hc:Vl K qs ts=Zi)
  (hf:∃h',f [.rol (ns.map IV.int)] (qs.map IX.tab)=.ok (.bl Zi) h'):XH K x f [.ref a] H (λ v _=>v=.bl Zi) λ _ _ _=>False:=by
 intro ce
 obtain⟨h',hf⟩:=hf
 have sr:SqR K H a (ns.map V.int):=by
  rcases hS with(h|⟨o,h⟩)|h
  ·rcases hO a with z|⟨ob,xs,z⟩|⟨_,z⟩
   ·rw[z] at h;cases h
   ·rw[z] at h;cases h
   ·rw[z] at h;cases h
  ·exact .inl ⟨o,h⟩
  ·exact .inr h
 obtain⟨nd,le,at_,_⟩:=Vl.mem hc
 refine⟨rfl,ts,qs.map IX.tab,[.rol (ns.map IV.int)],⟨by simp[le],nd,λ i o e=>?_⟩,⟨.ref a,[],rfl,⟨a,_,rfl,sr,RVs.ints ns⟩,rfl⟩,?_⟩
 ·rw[Zt] at e
  cases eq:qs[i]? with
  | none=>rw[eq] at e;cases e
  | some q =>
   rw[eq] at e
   cases e
   obtain⟨p,ep,hp⟩:=at_ i q eq
   exact⟨p,ep,Vc.code hp,#[],hT p (Zb4 ep),trivial,λ pos cv z=>by cases z⟩
 ·rw[hf]
  intro v H' ι' _ _ q
  exact q
theorem Jvb {l:W.OpenLaw}{n k:Nat}{q:ZB}{loose:List Str}{XP:(Str->Option Zg)->Zau->Prop}{YP:Zab->Zau->Prop}{d:DefRec}{K:Params->W.Frag}{f:List IV->IH->Res IV}{x:Str}{qs:List Str}{ts:List Zo}
  (hn:l.most=Za n)(hn2:n<=sizeLine)(hdf:d.params.defaults=[])(hr:Room k ZdW)
  (hY:∀(w:Zab)(h:Zau),YP w h->(K w.params).In h/\∀p∈ts,h.get? p=Za (W.tabObj #[]))(hc:∀w:Zab,Vl (K w.params) qs ts=Zi)
  (F:∀(w:Zab)(mg:Str->Option Zg)(fa:Zo)(h:Zau),(K w.params).In h->h.Ns Z3 mg->mg d.name=Za (.ref fa) ->
   ∃fd:Za2,(∀(s:Zn)(u:Zg),Zc3 s fd ⟨[u],[]⟩ [(x,u)]) /\
    ∀base:Zau,(K w.params).In base->base.Ns Z3 mg->Q5 mg base->FnOk l.prog w (K w.params) mg base (CXI l.prog w) k fa fd [x] (XH (K w.params) x f))
  (hf:∀ns:List Int,ns.length<=n->∃h',f [.rol (ns.map IV.int)] (qs.map IX.tab)=.ok (.bl Zi) h') :
  W.WalkO q loose XP YP l.row.toRowW d [] (λ f vs=>PySem.call f vs):=by
 refine Att.attach_call hn hdf λ w s₀ s₁ mg mb fa o pm cd doc a vs ns G Y ho hd hcd hmg hobj hints hlen hg=>?_
 obtain⟨KX,hT⟩:=hY w _ Y
 obtain⟨fd,hb,hF⟩:=F w mg fa _ KX G.T.g hmg
 refine Jrp KX G.T.g G.T.b G.T.builtins G.T.nolimit hg hobj hints (Zak hlen hn2) hr (λ p hp=>?_) G.T.bmain hF hb λ H hO hS hTt=>Jpc hO hS hTt (hc w) (hf ns hlen)
 obtain⟨q,hq⟩:=(Vl.mem (hc w)).2.2.2 p hp
 obtain⟨h1,c,h2⟩:=Vc.some hq
 exact⟨hT p hp,((W.codeHd_of_K KX h2).tab (hT p hp)).isCodeTable,h1⟩
def Q6 (kf:IV->Int):IV->List IV->IV
 | b,[]=>b
 | b,y::r=>if kf y>kf b then Q6 kf y r else Q6 kf b r
theorem Jfa (kf:IV->Int):∀(r:List IV)(b:IV),Q6 kf b r=b∨Q6 kf b r∈r
 | [],b=>.inl rfl
 | y::r,b=>by
  unfold Q6
  split
  ·rcases Jfa kf r y with e|e
   ·rw[e];exact .inr Zx
   ·exact .inr (Zl _ e)
  ·rcases Jfa kf r b with e|e
   ·exact .inl e
   ·exact .inr (Zl _ e)
theorem Jg3 (kf:IV->Int):∀(r:List IV)(b:IV),kf b<=kf (Q6 kf b r)/\∀y∈r,kf y<=kf (Q6 kf b r)
 | [],b=>⟨ZG _,λ y hy=>by cases hy⟩
 | y::r,b=>by
  unfold Q6
  split
  ·rename_i h
   obtain⟨h1,h2⟩:=Jg3 kf r y
   exact⟨00,λ z hz=>by
    rcases Z6.mp hz with rfl|hz
    ·exact h1
    ·exact h2 z hz⟩
  ·rename_i h
   obtain⟨h1,h2⟩:=Jg3 kf r b
   exact⟨h1,λ z hz=>by
    rcases Z6.mp hz with rfl|hz
    ·omega
    ·exact h2 z hz⟩
theorem Jhp (hi:h0[i]?=Za (.lst ys))(hm:∀y∈ys,∀h,Ex h0 h->WR (mk y h) λ v h'=>v=.int (kf y)/\Ex h h') :
  ∀(r:Nat)(b:IV)(h:IH),Ex h0 h->r<=ys.length->WR (Qe gtZ mk i ys.length r b (.int (kf b)) h) λ v h'=>v=Q6 kf b (ys.drop (ys.length-r))/\Ex h h'
 | 0,b,h,x,_=>by
  unfold Qe
  rw[x.get hi]
  dsimp only
  rw[if_pos rfl]
  refine⟨?_,.refl _⟩
  rw[Nat.sub_zero,Zdw]
  rfl
 | r+1,b,h,x,hr=>by
  unfold Qe
  rw[x.get hi]
  dsimp only
  rw[if_pos rfl]
  have hlt:ys.length-(r+1)<ys.length:=00
  rw[Zb hlt]
  dsimp only
  have hd:ys.drop (ys.length-(r+1))=ys[ys.length-(r+1)]::ys.drop (ys.length-r):=by
   rw[ZaH hlt,show ys.length-(r+1)+1=ys.length-r by omega]
  obtain⟨v,h2,e,rfl,x2⟩:=(hm _ (Zz hlt) h x).eq
  rw[e,hd]
  show WR (match gtZ (.int (kf ys[ys.length-(r+1)])) (.int (kf b)) with|some Zi=>_|some Zk=>_|none=>_) _
  unfold gtZ
  dsimp only
  unfold Q6
  by_cases hb:kf ys[ys.length-(r+1)]>kf b
  ·rw[decide_eq_true hb,if_pos hb]
   exact WR.mono (Jhp hi hm r _ h2 (x.trans x2) 00) λ v h' ⟨a,c⟩=>⟨a,x2.trans c⟩
  ·rw[decide_eq_false hb,if_neg hb]
   exact WR.mono (Jhp hi hm r _ h2 (x.trans x2) 00) λ v h' ⟨a,c⟩=>⟨a,x2.trans c⟩
def XX (kf:IV->Int)(d:IV):List IV->IV
 | []=>d
 | y::r=>Q6 kf y r
theorem Jvh {d:IV}(hi:h[i]?=Za (.lst ys))(hm:∀y∈ys,∀h',Ex h h'->WR (mk y h') λ v h2=>v=.int (kf y)/\Ex h' h2) :
  WR (Xy gtZ mk i d h) λ v h'=>v=XX kf d ys/\Ex h h':=by
 unfold Xy
 rw[hi]
 dsimp only
 cases ys with
 | nil=>exact⟨rfl,.refl _⟩
 | cons y r =>
  obtain⟨v,h2,e,rfl,x2⟩:=(hm y Zx h (.refl _)).eq
  show WR ((mk y h).nx.bind λ k h'=>Qe gtZ mk i (y::r).length ((y::r).length-1) y k h') _
  rw[e]
  have:=Jhp (kf:=kf) (x2.get hi) (λ z hz h' x=>hm z hz h' (x2.trans x)) ((y::r).length-1) y h2 (.refl _) 03
  refine WR.mono this λ v h' ⟨a,c⟩=>⟨?_,x2.trans c⟩
  rw[a]
  simp[XX]
section
variable {α β:Type}{σ:ISt}{h:IH}
variable {Q:α->IH->Prop}{Z:Nat->IH->Prop}{N:ISt->IH->Prop}{R:IV->IH->Prop}{Y:Nat->ISt->IH->Prop}
end
theorem Jhg:∀{a b c:List Int},ltL a b=Zi->ltL b c=Zi->ltL a c=Zi
 | a::as,b::bs,c::cs,h1,h2=>by
  unfold ltL at h1 h2 ⊢
  by_cases e1:a=b
  ·rw[if_pos e1] at h1
   subst e1
   by_cases e2:a=c
   ·rw[if_pos e2] at h2 ⊢
    exact Jhg h1 h2
   ·rw[if_neg e2] at h2 ⊢
    exact h2
  ·rw[if_neg e1,decide_eq_true_eq] at h1
   by_cases e2:b=c
   ·subst e2
    rw[if_neg e1,decide_eq_true_eq]
    exact h1
   ·rw[if_neg e2,decide_eq_true_eq] at h2
    rw[if_neg 00,decide_eq_true_eq]
    omega
 | [],_,_,h,_=>by simp[ltL] at h
 | _::_,[],_,h,_=>by simp[ltL] at h
 | _::_,_::_,[],_,h=>by simp[ltL] at h
theorem Yq:∀a:List Int,ltL a a=Zk
 | []=>rfl
 | a::as=>by
  unfold ltL
  rw[if_pos rfl]
  exact Yq as
theorem Jt9 {as bs:List Int}(h:as.length=bs.length):ltT (.tup (as.map .int)) (.tup (bs.map .int))=Za (ltL as bs):=by
 unfold ltT
 dsimp only
 rw[V0,V0]
 dsimp only
 rw[if_pos h]
section
variable {mk:IV->IH->Res IV}{kf:IV->List Int}{i n:Nat}{ys:List IV}
theorem Jfj (hi:h0[i]?=Za (.lst ys))(hm:∀y∈ys,∀h,Ex h0 h->WR (mk y h) λ v h'=>v=.tup ((kf y).map .int)/\Ex h h')(hl:∀y∈ys,(kf y).length=n) :
  ∀(r:Nat)(b:IV)(h:IH),Ex h0 h->r<ys.length->b∈ys->(∀y∈ys.take (ys.length-r),ltL (kf y) (kf b)=Zk)->WR (Qe ltT mk i ys.length r b (.tup ((kf b).map .int)) h) λ v h'=>v∈ys/\(∀y∈ys,ltL (kf y) (kf v)=Zk)/\Ex h h'
 | 0,b,h,x,_,hb,q=>by
  unfold Qe
  rw[x.get hi]
  dsimp only
  rw[if_pos rfl]
  rw[Nat.sub_zero,List.take_length] at q
  exact⟨hb,q,.refl _⟩
 | r+1,b,h,x,hr,hb,q=>by
  unfold Qe
  rw[x.get hi]
  dsimp only
  rw[if_pos rfl]
  have hlt:ys.length-(r+1)<ys.length:=00
  rw[Zb hlt]
  dsimp only
  have hy:=Zz hlt
  have ht:ys.take (ys.length-r)=ys.take (ys.length-(r+1))++[ys[ys.length-(r+1)]]:=by
   rw[<- Zat hlt,show ys.length-(r+1)+1=ys.length-r by omega]
  generalize ys[ys.length-(r+1)]=y at hy ht
  obtain⟨v,h2,e,rfl,x2⟩:=(hm y hy h x).eq
  rw[e]
  show WR (match ltT (.tup ((kf y).map .int)) (.tup ((kf b).map .int)) with|some Zi=>_|some Zk=>_|none=>_) _
  rw[Jt9 (by rw[hl y hy,hl b hb])]
  cases c:ltL (kf y) (kf b) with
  | true =>
   refine WR.mono (Jfj hi hm hl r y h2 (x.trans x2) 00 hy λ z hz=>?_) λ v h' ⟨a,d,g⟩=>⟨a,d,x2.trans g⟩
   rw[ht] at hz
   rcases ZV.mp hz with hz|hz
   ·cases zc:ltL (kf z) (kf y) with
    | false=>rfl
    | true=>exact absurd (Jhg zc c) (by rw[q z hz];exact Zu)
   ·rw[Zv.mp hz]
    exact Yq _
  | false =>
   refine WR.mono (Jfj hi hm hl r b h2 (x.trans x2) 00 hb λ z hz=>?_) λ v h' ⟨a,d,g⟩=>⟨a,d,x2.trans g⟩
   rw[ht] at hz
   rcases ZV.mp hz with hz|hz
   ·exact q z hz
   ·rw[Zv.mp hz]
    exact c
theorem Js2 (hi:h[i]?=Za (.lst ys))(ne:ys≠[])(hm:∀y∈ys,∀h',Ex h h'->WR (mk y h') λ v h2=>v=.tup ((kf y).map .int)/\Ex h' h2)(hl:∀y∈ys,(kf y).length=n) :
  WR (Xz ltT mk i h) λ v h'=>v∈ys/\(∀y∈ys,ltL (kf y) (kf v)=Zk)/\Ex h h':=by
 unfold Xz
 rw[hi]
 dsimp only
 cases ys with
 | nil=>exact absurd rfl ne
 | cons y r =>
  obtain⟨v,h2,e,rfl,x2⟩:=(hm y Zx h (.refl _)).eq
  show WR ((mk y h).nx.bind λ k h'=>Qe ltT mk i (y::r).length ((y::r).length-1) y k h') _
  rw[e]
  refine WR.mono (Jfj (kf:=kf) (x2.get hi) (λ z hz h' x=>hm z hz h' (x2.trans x)) hl ((y::r).length-1) y h2 (.refl _) 03 Zx λ z hz=>?_) λ v h' ⟨a,d,g⟩=>⟨a,d,x2.trans g⟩
  rw[show(y::r).length-((y::r).length-1)=1 by simp,List.take_succ_cons,List.take_zero,Zv] at hz
  rw[hz]
  exact Yq _
theorem Jze {js:List Nat}{m:E1}{Q:IV->IH->Prop}(hj:h[j]?=Za (.tab q))(hi:σ[i]?=Za (Za (.ref a))) :
  WR (Xt ltT q j js (Jc (Ja i) Jd) m σ h) Q=WR (Xz ltT (λ v h'=>m (Za v::js.map λ j=>(σ[j]?).join) h') a h) Q:=by
 have e:Jc (Ja i) Jd σ h=.ok [.ref a] h:=by
  unfold Jc Ja Jd
  rw[hi]
  rfl
 unfold Xt
 rw[e]
 show WR (match h[j]? with|some (.tab q')=>_|_=>_) Q=_
 rw[hj]
 dsimp only
 rw[if_pos rfl]
end
end L4
namespace LW
theorem Kaz {α:Sort _}{p:α->Prop}{a':α}:(∃a,a'=a/\p a)↔p a':=exists_eq_left'
theorem Kbz {α:Sort _}{p:α->Prop}{a':α}:(∃a,a=a'/\p a)↔p a':=exists_eq_left
theorem Kcz (a b:Bool):(L3.IV.bl a=L3.IV.bl b)=(a=b):=L3.IV.bl.injEq a b
theorem Kdz (a b:Int):(L3.IV.int a=L3.IV.int b)=(a=b):=L3.IV.int.injEq a b
theorem Kez (a b:Nat):(L3.IV.ref a=L3.IV.ref b)=(a=b):=L3.IV.ref.injEq a b
theorem Kfz (a b:PySem.Str):(L3.IV.str a=L3.IV.str b)=(a=b):=L3.IV.str.injEq a b
theorem Kgz (a b:List L3.IV):(L3.IV.tup a=L3.IV.tup b)=(a=b):=L3.IV.tup.injEq a b
theorem Khz (a b:List L3.IV):(L3.IX.lst a=L3.IX.lst b)=(a=b):=L3.IX.lst.injEq a b
theorem Kiz {α:Type _}(a b:α):(Za a=Za b)=(a=b):=Zbc a b
theorem Kjz:(!true)=Zk:=Zcn
theorem Kkz:(!false)=Zi:=ZbX
theorem Klz:(Zi=Zk)=False:=Zbx
theorem Kmz:(Zk=Zi)=False:=ZX
theorem Knz {α β:Type _}(a:α)(f:α->Option β):(Za a).bind f=f a:=ZbG a f
theorem Koz (p:Prop):(True->p)=p:=true_implies p
theorem Kpz (p:Prop):(False->p)=True:=false_implies p
theorem Kqz (α:Sort _):(α->True)=True:=implies_true α
theorem Krz {α:Type _}{a b:α}{l:List α}{n:Nat}:(a::l).set (n+1) b=a::l.set n b:=Zcv
theorem Ksz {α:Type _}{a b:α}{l:List α}:(a::l).set 0 b=b::l:=Zbw
theorem Ktz {α:Type _}{a:α}{l m:List α}:(a::l)++m=a::(l++m):=ZS
theorem Kuz {α:Type _}(l:List α):[]++l=l:=Zaz l
theorem Kvz {α:Type _}(l:List α):l++[]=l:=Zay l
end LW
namespace LW
open PySem L2 L3 L4
noncomputable def top (i:Nat):ZcC:=PySem.Challenge.pw_dutyproof_k45_whole_papers_keep.main.body.getD i (.Pass ⟨0,0,0,0⟩)
def Jc5:D4:=⟨top 8,"is_whole",["thing"],["thing"],[]⟩
def Jag:D4:=⟨top 9,"is_whole_from",["thing","least"],["thing","least"],[]⟩
def Jcb:D4:=⟨top 10,"rounds_up",["top","bottom"],["top","bottom"],[]⟩
def Jep:D4:=⟨top 17,"is_name",["thing"],["thing"],[]⟩
def Jeo:D4:=⟨top 18,"is_hold",["hold","length"],["hold","length"],[]⟩
def Jb7:D4:=⟨top 19,"lie_apart",["one","other"],["one","other"],[]⟩
def Jes:D4:=⟨top 20,"lies_in",["one","other"],["one","other"],[]⟩
def Jaw:D4:=⟨top 21,"go_together",["one","other"],["one","other"],[]⟩
def Jac:D4:=⟨top 22,"all_go_together",["holds"],["holds","place","hold"],[]⟩
def Jb9:D4:=⟨top 23,"own_holds",["holds","length"],["holds","length"],[]⟩
def Jet:D4:=⟨top 24,"own_due",["due","gap"],["due","gap"],[]⟩
def Qu:D4:=⟨JU (top 25) 0,"Work.__init__",["self","name","gap","length","due","late","holds"],["self","name","gap","length","due","late","holds"],[.non,.int 0,.non]⟩
def Jb2:D4:=⟨JU (top 25) 1,"Work.held",["self"],["self"],[]⟩
def Jc3:D4:=⟨top 27,"ceilings",["duty"],["duty","found","at","hold"],[]⟩
def Jaz:D4:=⟨top 28,"things_held",["work","done"],["work","done"],[]⟩
def Jf5:D4:=⟨top 29,"lifted",["at","things","tops"],["at","things","tops"],[]⟩
def Jbe:D4:=⟨top 30,"turns_held",["hold"],["hold"],[]⟩
def Jal:D4:=⟨top 31,"longest_hold",["duty","at"],["duty","at","tops","found","weaker"],[]⟩
def Jem:D4:=⟨top 32,"hold_up",["duty","at"],["duty","at","longest"],[]⟩
def Jbc:D4:=⟨top 34,"comings_in",["work","span"],["work","span"],[]⟩
def Jni:D4:=⟨top 35,"load",["duty","at","span"],["duty","at","span","stronger","asked_ahead"],[]⟩
def Jen:D4:=⟨top 36,"in_time",["work","line"],["work","line"],[]⟩
def Jnh:D4:=⟨top 37,"fits",["duty","at","line"],["duty","at","line"],[]⟩
def Jf3:D4:=⟨top 38,"answer",["duty","at"],["duty","at","line","least"],[]⟩
def Jer:D4:=⟨top 40,"lets_by",["duty","paper"],["duty","paper"],[]⟩
def Jjb:D4:=⟨top 47,"ready",["coming"],["coming"],[]⟩
def Jf4:D4:=⟨top 48,"due_at",["duty","coming"],["duty","coming"],[]⟩
def Jb3:D4:=⟨top 49,"is_coming",["duty","thing"],["duty","thing","work"],[]⟩
def Jav:D4:=⟨top 50,"first_wrong",["duty","row"],["duty","row","last_come","place","coming","at"],[]⟩
def Jel:D4:=⟨top 51,"checked",["duty","row"],["duty","row","wrong"],[]⟩
def Jb8:D4:=⟨top 56,"next_stop",["work","done","length"],["work","done","length"],[]⟩
def Ja9:D4:=⟨JU (top 57) 0,"Bench.__init__",["self","order","row"],["self","order","row"],[]⟩
def Jaa:D4:=⟨JU (top 57) 1,"Bench.next_ready",["self"],["self"],[]⟩
def Jaj:D4:=⟨JU (top 57) 2,"Bench.let_in",["self"],["self"],[]⟩
def Jab:D4:=⟨JU (top 57) 3,"Bench.turns_for",["self","place"],["self","place","coming","done","turns"],[]⟩
def Jba:D4:=⟨JU (top 57) 4,"Bench.tell",["self","place","until"],["self","place","until","begin"],[]⟩
def Jat:D4:=⟨JU (top 57) 5,"Bench.go_on",["self"],["self","place","turns"],[]⟩
def Jth:D4:=⟨top 58,"run",["order","row"],["order","row","bench"],[]⟩
def Jng:D4:=⟨top 59,"ends",["order","row"],["order","row","last","stretch"],[]⟩
def Jf6:D4:=⟨top 60,"missed",["order","row"],["order","row","turns"],[]⟩
def Jca:D4:=⟨top 64,"own_works",["works"],["works"],[]⟩
def Jc4:D4:=⟨top 65,"crowd_of",["works"],["works","greatest"],[]⟩
def Jby:D4:=⟨JU (top 66) 0,"Duty.__init__",["self","works"],["self","works"],[]⟩
def Jbz:D4:=⟨JU (top 66) 1,"Duty.size",["self"],["self"],[]⟩
def Jb0:D4:=⟨JU (top 66) 2,"Duty.work",["self","at"],["self","at"],[]⟩
def Jcy:D4:=⟨JU (top 66) 4,"Duty.crowd",["self"],["self"],[]⟩
def Jbb:D4:=⟨JU (top 68) 0,"Order.__init__",["self","duty"],["self","duty"],[]⟩
def Ja3:D4:=⟨JU (top 68) 1,"Order.rank_of",["self","coming","done"],["self","coming","done"],[]⟩
def Jb1:D4:=⟨JU (top 68) 2,"Order.holds",["self","coming","done"],["self","coming","done"],[]⟩
def Xr:D4:=⟨JU (top 68) 3,"Order.pick",["self","row","waiting","dones"],["self","row","waiting","dones"],[]⟩
def Xs:D4:=⟨JU (top 68) 4,"Order.standing",["self","coming","done"],["self","coming","done"],[]⟩
def Jau:D4:=⟨JU (top 69) 0,"ByRank.__init__",["self","duty"],["self","duty"],[]⟩
def Jad:D4:=⟨JU (top 69) 1,"ByRank.rank_of",["self","coming","done"],["self","coming","done"],[]⟩
def Jak:D4:=⟨JU (top 69) 2,"ByRank.holds",["self","coming","done"],["self","coming","done"],[]⟩
def Jax:D4:=⟨top 71,"_law_cell_at",["_law_script","_law_k"],["_law_script","_law_k"],[]⟩
def Jbd:D4:=⟨top 72,"_law_stream",["_law_cell","_law_many"],["_law_cell","_law_many","_law_found","_law_rest","_law_k","_law_number"],[]⟩
def Jb4:D4:=⟨top 73,"_law_holds",["_law_xs","_law_length"],["_law_xs","_law_length","_law_found","_law_start","_law_end"],[]⟩
def Jb6:D4:=⟨top 74,"_law_plain",["_law_cell","_law_unit","_law_many"],["_law_cell","_law_unit","_law_many","_law_xs","_law_gap","_law_length","_law_last","_law_late"],[]⟩
def Jb5:D4:=⟨top 75,"_law_lines",["_law_duty","_law_some","_law_way"],["_law_duty","_law_some","_law_way","_law_found","_law_k","_law_gap","_law_length","_law_last","_law_late","_law_holds_here","_law_line","_law_more"],[]⟩
def Jeq:D4:=⟨top 76,"_law_row",["_law_cells","_law_some"],["_law_cells","_law_some","_law_made","_law_nexts","_law_base","_law_push","_law_cell","_law_xs","_law_at","_law_gap","_law_length","_law_last","_law_late","_law_holds_here","_law_turn","_law_come","_law_behind","_law_turns"],[]⟩
def Jay:D4:=⟨top 77,"_law_meeting",["_law_cells","_law_some"],["_law_cells","_law_some","_law_made","_law_far","_law_nexts","_law_k","_law_at","_law_gap","_law_length","_law_last","_law_late","_law_holds_here","_law_come","_law_behind"],[]⟩
def QV:D4:=⟨top 78,"law",["_law_script"],["_law_script","_law_first","_law_unit","_law_many","_law_some","_law_works","_law_k","_law_gap","_law_length","_law_last","_law_late","_law_holds_here","_law_duty","_law_lines_here","_law_good","_law_made","_law_found","_law_at","_law_come","_law_behind","_law_turns"],[]⟩
def T:Tab where
 fns:=[(("is_whole":Str),Jc5),(("is_whole_from":Str),Jag),(("rounds_up":Str),Jcb),(("is_name":Str),Jep),(("is_hold":Str),Jeo),(("lie_apart":Str),Jb7),(("lies_in":Str),Jes),(("go_together":Str),Jaw),(("all_go_together":Str),Jac),(("own_holds":Str),Jb9),(("own_due":Str),Jet),(("ceilings":Str),Jc3),(("things_held":Str),Jaz),(("lifted":Str),Jf5),(("turns_held":Str),Jbe),(("longest_hold":Str),Jal),(("hold_up":Str),Jem),(("comings_in":Str),Jbc),(("load":Str),Jni),(("in_time":Str),Jen),(("fits":Str),Jnh),(("answer":Str),Jf3),(("lets_by":Str),Jer),(("ready":Str),Jjb),(("due_at":Str),Jf4),(("is_coming":Str),Jb3),(("first_wrong":Str),Jav),(("checked":Str),Jel),(("next_stop":Str),Jb8),(("run":Str),Jth),(("ends":Str),Jng),(("missed":Str),Jf6),(("own_works":Str),Jca),(("crowd_of":Str),Jc4),(("_law_cell_at":Str),Jax),(("_law_stream":Str),Jbd),(("_law_holds":Str),Jb4),(("_law_plain":Str),Jb6),(("_law_lines":Str),Jb5),(("_law_row":Str),Jeq),(("_law_meeting":Str),Jay),(("law":Str),QV)]
 clss:=[("Work",Qu),("Bench",Ja9),("Duty",Jby),("Order",Jbb),("ByRank",Jau)]
 meths:=[("Work",([("held",Jb2)]:List (Str×D4))),("Bench",([("next_ready",Jaa),("let_in",Jaj),("turns_for",Jab),("tell",Jba),("go_on",Jat)]:List (Str×D4))),("Duty",([("size",Jbz),("work",Jb0),("crowd",Jcy)]:List (Str×D4))),("Order",([("rank_of",Ja3),("holds",Jb1),("pick",Xr),("standing",Xs)]:List (Str×D4))),("ByRank",([("rank_of",Jad),("holds",Jak),("pick",Xr),("standing",Xs)]:List (Str×D4)))]
 cons:=[("MOST_LETTERS",.int 8),("MOST_HOLDS",.int 6),("THING",.int 0),("START",.int 1),("END",.int 2),("MOST_COMINGS",.int 200),("AT",.int 0),("COME",.int 1),("LATE",.int 2),("LENGTH",.int 3),("PLACE",.int 0),("FROM",.int 1),("UNTIL",.int 2),("MOST_WORKS",.int 12),("MOST_CROWD",.int 80)]
 isas:=[("Work",["Work"])]
 flds:=["append","dones","due","duty","extend","gap","hold_tuples","late","later","length","name","order","place","pop","remove","row","setdefault","stretches","tops","turn","waiting","works"]
 frees:=["all","bool","enumerate","int","isinstance","len","list","max","min","range","set","sorted","str","sum","tuple"]
 tabs:=["Order.pick","Bench.__init__","longest_hold"]
 bass:=["Order"]
abbrev pg (k:Nat):Pg:=mkPg T (run T k)
section
variable (k:Nat)(x0 x1 x2 x3 x4 x5 x6:IV)(h:IH)
abbrev Jc1:=run T k Jc5
abbrev Vu:=run T k Jag
abbrev Jbw:=run T k Jcb
abbrev Jdt:=run T k Jep
abbrev Jgn:=run T k Jeo
abbrev Jdl:=run T k Jb7
abbrev Jdu:=run T k Jes
abbrev Jbu:=run T k Jaw
abbrev Jai:=run T k Jac
abbrev XR:=run T k Jb9
abbrev XQ:=run T k Jet
abbrev Jbs:=run T k Qu
abbrev Jdg:=run T k Jb2
abbrev Jc0:=run T k Jc3
abbrev Jar:=run T k Jaz
abbrev Jiv:=run T k Jf5
abbrev Ja6:=run T k Jbe
abbrev Jbj:=run T k Jal
abbrev Jgm:=run T k Jem
abbrev Jck:=run T k Jbc
abbrev Jm6:=run T k Jni
abbrev Jds:=run T k Jen
abbrev Jm5:=run T k Jnh
abbrev Jiu:=run T k Jf3
abbrev Jgp:=run T k Jer
abbrev Jix:=run T k Jjb
abbrev Jf1:=run T k Jf4
abbrev Jdh:=run T k Jb3
abbrev Jbt:=run T k Jav
abbrev Jgl:=run T k Jel
abbrev Jdm:=run T k Jb8
abbrev Jch:=run T k Ja9
abbrev Jae:=run T k Jaa
abbrev Jbh:=run T k Jaj
abbrev Jah:=run T k Jab
abbrev Jci:=run T k Jba
abbrev Jbq:=run T k Jat
abbrev Jwv:=run T k Jth
abbrev Jm4:=run T k Jng
abbrev Jiw:=run T k Jf6
abbrev Jdn:=run T k Jca
abbrev Je7:=run T k Jc4
abbrev Jbr:=run T k Jby
abbrev Jde:=run T k Jbz
abbrev Jdf:=run T k Jb0
abbrev Jcj:=run T k Jbb
abbrev Ja4:=run T k Xr
abbrev Jao:=run T k Xs
abbrev XO:=run T k Jau
abbrev Jan:=run T k Jad
abbrev Jbi:=run T k Jak
abbrev Jaq:=run T k Jax
abbrev Ja5:=run T k Jbd
abbrev Jdi:=run T k Jb4
abbrev Jdk:=run T k Jb6
abbrev Jdj:=run T k Jb5
abbrev Jgo:=run T k Jeq
abbrev Jbv:=run T k Jay
abbrev Xm:=run T k QV
def Jkb (k:Nat):S1:=(Jk (eAnd (eIsi VA (Ja 0)) (eUn (VJ tru) (eIsi V9 (Ja 0))) tru))
theorem Jmh:Jc1 (k+1) [x0] h=(Jkb k [Za x0] h).fin:=02
def Jbl:S1:=(Jk (eAnd (Jm (Jc1 k) [] (Jc (Ja 0) Jd)) (Jb cGe (Ja 0) (Ja 1)) tru))
theorem Jfx:Vu (k+1) [x0,x1] h=(Jbl k [Za x0,Za x1] h).fin:=02
def Jeh (k:Nat):S1:=(Jk (Jb J7 (Jb JJ (Jb Jj (Ja 0) (Ja 1)) (eC (.int 1))) (Ja 1)))
theorem Jk6:Jbw (k+1) [x0,x1] h=(Jeh k [Za x0,Za x1] h).fin:=02
def Jbx (k:Nat):E1:=(Qa cLe cLe (eC (.str "a")) (Ja 0) (eC (.str "z")))
def Jgx:S1:=(Jk (eCB (on1 allI) (Jc (Js (J6 (Ja 0)) 1 [] (gNm 0) JB (Jbx k)) Jd)))
def Jgw:S1:=Jf (sIf (tOrI (JF (Jh tru (eIsi VC (Ja 0)))) (JF (Jh asB (Qa cLe cLe (eC (.int 1)) (eCB (on1 lenI) (Jc (Ja 0) Jd)) (eC (.int 8)))))) (Jk (eC (.bl Zk))) Jr) (Jgx k)
theorem Jo2:Jdt (k+1) [x0] h=(Jgw k [Za x0] h).fin:=02
def Jgv:S1:=(Jk (eAnd (Jm (Vu k) [] (Jc (Jb Jg (Ja 0) (eC (.int 2))) (Jc (Jb Jj (Jb Jg (Ja 0) (eC (.int 1))) (eC (.int 1))) Jd))) (Jb cLt (Jb Jg (Ja 0) (eC (.int 2))) (Ja 1)) tru))
def Jgu:S1:=Jf (sIf (JF (Jh tru (Jm (Vu k) [] (Jc (Jb Jg (Ja 0) (eC (.int 1))) (Jc (eC (.int 0)) Jd))))) (Jk (eC (.bl Zk))) Jr) (Jgv k)
def Jgt:S1:=Jf (sIf (tOrI (JF (Jh tru (eIsi Vy (Ja 0)))) (tOrI (Jh asB (Jb cNe (eCB (on1 lenI) (Jc (Ja 0) Jd)) (eC (.int 3)))) (JF (Jh tru (Jm (Jdt k) [] (Jc (Jb Jg (Ja 0) (eC (.int 0))) Jd)))))) (Jk (eC (.bl Zk))) Jr) (Jgu k)
theorem Jo1:Jgn (k+1) [x0,x1] h=(Jgt k [Za x0,Za x1] h).fin:=02
def Jd6 (k:Nat):S1:=(Jk (eOr (Jb cLe (Jb Jg (Ja 0) (eC (.int 2))) (Jb Jg (Ja 1) (eC (.int 1)))) (Jb cLe (Jb Jg (Ja 1) (eC (.int 2))) (Jb Jg (Ja 0) (eC (.int 1)))) tru))
theorem Jk2:Jdl (k+1) [x0,x1] h=(Jd6 k [Za x0,Za x1] h).fin:=02
def Jgz (k:Nat):S1:=(Jk (eAnd (Jb cLe (Jb Jg (Ja 1) (eC (.int 1))) (Jb Jg (Ja 0) (eC (.int 1)))) (Jb cLe (Jb Jg (Ja 0) (eC (.int 2))) (Jb Jg (Ja 1) (eC (.int 2)))) tru))
theorem Jo5:Jdu (k+1) [x0,x1] h=(Jgz k [Za x0,Za x1] h).fin:=02
def Jcp:S1:=(Jk (eOr (Jm (Jdu k) [] (Jc (Ja 0) (Jc (Ja 1) Jd))) (Jm (Jdu k) [] (Jc (Ja 1) (Jc (Ja 0) Jd))) tru))
def Jco:S1:=Jf (sIf (Jh asB (Jb cEq (Jb Jg (Ja 0) (eC (.int 0))) (Jb Jg (Ja 1) (eC (.int 0))))) (Jk (eC (.bl Zk))) Jr) (Jcp k)
def Jcn:S1:=Jf (sIf (Jh tru (Jm (Jdl k) [] (Jc (Ja 0) (Jc (Ja 1) Jd)))) (Jk (eC (.bl Zi))) Jr) (Jco k)
theorem Jh2:Jbu (k+1) [x0,x1] h=(Jcn k [Za x0,Za x1] h).fin:=02
def Jam:E1:=(Jm (Jbu k) [] (Jc (Ja 1) (Jc (Ja 0) Jd)))
def Jap:S1:=(sIf (JF (Jh tru (eCB (on1 allI) (Jc (Js (J6 (eSl slI (Ja 0) X4 (Qs (Ja 1)))) 1 [2] (gNm 0) JB (Jam k)) Jd)))) (Jk (eC (.bl Zk))) Jr)
def Ja1 (k:Nat):S1:=(Jk (eC (.bl Zi)))
def Ja0:S1:=Jf (sFor (iRg Qw (Jc (Ja 0) Jd)) (gTp 2 (gC (gNm 1) (gC (gNm 2) gN))) (Jap k)) (Ja1 k)
theorem Jez:Jai (k+1) [x0] h=(Ja0 k [Za x0,Zc,Zc] h).fin:=02
def Jct:E1:=(Jm (Jgn k) [] (Jc (Ja 0) (Jc (Ja 1) Jd)))
def Jcu (k:Nat):E1:=(eTup (Jc (Jb Jg (Ja 0) (eC (.int 0))) (Jc (Jb Jg (Ja 0) (eC (.int 1))) (Jc (Jb Jg (Ja 0) (eC (.int 2))) Jd))))
def Jec:S1:=(Jk (eCB (on1 Xg) (Jc (Js (J6 (Ja 0)) 1 [] (gNm 0) JB (Jcu k)) Jd)))
def Jeb:S1:=Jf (sIf (JF (Jh tru (Jm (Jai k) [] (Jc (Ja 0) Jd)))) stS Jr) (Jec k)
def Jea:S1:=Jf (sIf (JF (Jh tru (eCB (on1 allI) (Jc (Js (J6 (Ja 0)) 1 [1] (gNm 0) JB (Jct k)) Jd)))) stS Jr) (Jeb k)
def Jd9:S1:=Jf (sIf (Jh asB (Jb cGt (eCB (on1 lenI) (Jc (Ja 0) Jd)) (eC (.int 6)))) stS Jr) (Jea k)
def Jd8:S1:=Jf (sIf (JF (Jh tru (eIsi QK (Ja 0)))) stS Jr) (Jd9 k)
def Jd7:S1:=Jf (sIf (Jh asB (Jb cIs (Ja 0) (eC .non))) (Jk (eTup Jd)) Jr) (Jd8 k)
theorem Jk4:XR (k+1) [x0,x1] h=(Jd7 k [Za x0,Za x1] h).fin:=02
def Jg2 (k:Nat):S1:=(Jk (Ja 0))
def Jg1:S1:=Jf (sIf (tOrI (JF (Jh tru (Jm (Vu k) [] (Jc (Ja 0) (Jc (eC (.int 1)) Jd))))) (Jh asB (Jb cGt (Ja 0) (Ja 1)))) stS Jr) (Jg2 k)
def Jg0:S1:=Jf (sIf (Jh asB (Jb cIs (Ja 0) (eC .non))) (Jk (Ja 1)) Jr) (Jg1 k)
theorem Jo6:XQ (k+1) [x0,x1] h=(Jg0 k [Za x0,Za x1] h).fin:=02
def Jd4:S1:=(JR "hold_tuples" (Ja 0) (Jm (XR k) [] (Jc (Ja 6) (Jc (Ja 3) Jd))))
def Ji1:S1:=Jf (sIf (JF (Jh tru (Jm (Jdt k) [] (Jc (Ja 1) Jd)))) stS Jr) (Jf (sIf (JF (Jh tru (Jm (Vu k) [] (Jc (Ja 2) (Jc (eC (.int 1)) Jd))))) stS Jr) (Jf (sIf (JF (Jh tru (Jm (Vu k) [] (Jc (Ja 3) (Jc (eC (.int 1)) Jd))))) stS Jr) (Jf (sIf (JF (Jh tru (Jm (Vu k) [] (Jc (Ja 5) (Jc (eC (.int 0)) Jd))))) stS Jr) (Jf (JR "name" (Ja 0) (Ja 1)) (Jf (JR "gap" (Ja 0) (Ja 2)) (Jf (JR "length" (Ja 0) (Ja 3)) (Jf (JR "due" (Ja 0) (Jm (XQ k) [] (Jc (Ja 4) (Jc (Ja 2) Jd)))) (Jf (JR "late" (Ja 0) (Ja 5)) (Jd4 k)))))))))
theorem Jkx:Jbs (k+1) [x0,x1,x2,x3,x4,x5,x6] h=(Ji1 k [Za x0,Za x1,Za x2,Za x3,Za x4,Za x5,Za x6] h).fin:=02
def Jd3 (k:Nat):S1:=(Jk (eCB (on1 Q9) (Jc (Jo "hold_tuples" (Ja 0)) Jd)))
theorem Jkw:Jdg (k+1) [x0] h=(Jd3 k [Za x0] h).fin:=02
def Je0:S1:=(JG (Jn (pg k) "setdefault" 2 (Ja 1) (Jc (Jb Jg (Ja 3) (eC (.int 0))) (Jc (Ja 2) Jd))))
def Je1:S1:=(sFor (J6 (Jn (pg k) "held" 0 (Jn (pg k) "work" 1 (Ja 0) (Jc (Ja 2) Jd)) Jd)) (gNm 3) (Je0 k))
def Jfm (k:Nat):S1:=(Jk (Ja 1))
def Jfl:S1:=Jf (sFor (iRg JV (Jc (Jn (pg k) "size" 0 (Ja 0) Jd) Jd)) (gNm 2) (Je1 k)) (Jfm k)
def Jfk:S1:=Jf (Ji 1 VW) (Jfl k)
theorem Jmf:Jc0 (k+1) [x0] h=(Jfk k [Za x0,Zc,Zc,Zc] h).fin:=02
def Jbn (k:Nat):E1:=(Jb Jg (Ja 0) (eC (.int 0)))
def Jbo (k:Nat):T1:=(Jh asB (Qa cLt cLt (Jb Jg (Ja 0) (eC (.int 1))) (Ja 1) (Jb Jg (Ja 0) (eC (.int 2)))))
def Jcs:S1:=(Jk (Js (J6 (Jn (pg k) "held" 0 (Ja 0) Jd)) 1 [1] (gNm 0) (Jbo k) (Jbn k)))
theorem Jh5:Jar (k+1) [x0,x1] h=(Jcs k [Za x0,Za x1] h).fin:=02
def Jfp (k:Nat):E1:=(Jb QR (Ja 1) (Ja 0))
def Jij:S1:=(Jk (eCB (on1 Xc) (Jc (Jb Jj (JD (Jc (Ja 0) Jd)) (Js (J6 (Ja 1)) 1 [2] (gNm 0) JB (Jfp k))) Jd)))
theorem Jq6:Jiv (k+1) [x0,x1,x2] h=(Jij k [Za x0,Za x1,Za x2] h).fin:=02
def Jhv (k:Nat):S1:=(Jk (Jb JJ (Jb JJ (Jb Jg (Ja 0) (eC (.int 2))) (Jb Jg (Ja 0) (eC (.int 1)))) (eC (.int 1))))
theorem Jjk:Ja6 (k+1) [x0] h=(Jhv k [Za x0] h).fin:=02
def Ja8 (k:Nat):E1:=(eTup (Jc (Ja 3) (Jc (Ja 0) Jd)))
def Jaf (k:Nat):T1:=(Jh asB (Jb cLe (Jb QR (Ja 2) (Jb Jg (Ja 0) (eC (.int 0)))) (Ja 1)))
def Jfw:S1:=Jf (Ji 2 (Jm (Jc0 k) [] (Jc (Ja 0) Jd))) (Jf (Ji 3 (JD Jd)) (Jf (sFor (iRg VG (Jc (Jb Jj (Ja 1) (eC (.int 1))) (Jc (Jn (pg k) "size" 0 (Ja 0) Jd) Jd))) (gNm 4) (JG (Jn (pg k) "extend" 1 (Ja 3) (Jc (Js (J6 (Jn (pg k) "held" 0 (Jn (pg k) "work" 1 (Ja 0) (Jc (Ja 4) Jd)) Jd)) 1 [1,2,4] (gNm 0) (Jaf k) (Ja8 k)) Jd)))) (Jk (Yf gtZ "longest_hold" 2 [] (Jc (Ja 3) Jd) (Jm (Ja6 k) [] (Jc (Jb Jg (Ja 0) (eC (.int 1))) Jd)) (eC .non)))))
theorem Jha:Jbj (k+1) [x0,x1] h=(Jfw k [Za x0,Za x1,Zc,Zc,Zc] h).fin:=02
def Jl7:S1:=Jf (Ji 2 (Jm (Jbj k) [] (Jc (Ja 0) (Jc (Ja 1) Jd)))) (Jk (eIf (Jh asB (Jb cIs (Ja 2) (eC .non))) (eC (.int 0)) (Jm (Ja6 k) [] (Jc (Jb Jg (Ja 2) (eC (.int 1))) Jd))))
theorem Joz:Jgm (k+1) [x0,x1] h=(Jl7 k [Za x0,Za x1,Zc] h).fin:=02
def Jht:S1:=(Jk (eIf (Jh asB (Jb cGe (Ja 1) (eC (.int 1)))) (Jm (Jbw k) [] (Jc (Jb Jj (Ja 1) (Jo "late" (Ja 0))) (Jc (Jo "gap" (Ja 0)) Jd))) (eC (.int 0))))
theorem Jji:Jck (k+1) [x0,x1] h=(Jht k [Za x0,Za x1] h).fin:=02
def Jil:E1:=(Jn (pg k) "work" 1 (Ja 1) (Jc (Ja 0) Jd))
def Jim:E1:=(Jb JQ (Jm (Jck k) [] (Jc (Ja 0) (Jc (Ja 1) Jd))) (Jo "length" (Ja 0)))
def Jtc:S1:=Jf (Ji 3 (Js (iRg JV (Jc (Ja 1) Jd)) 1 [0] (gNm 0) JB (Jil k))) (Jf (Ji 4 (eCB (on1 sumI) (Jc (Js (J6 (Ja 3)) 1 [2] (gNm 0) JB (Jim k)) Jd))) (Jk (Jb Jj (Jb Jj (Jm (Jgm k) [] (Jc (Ja 0) (Jc (Ja 1) Jd))) (Jo "length" (Jn (pg k) "work" 1 (Ja 0) (Jc (Ja 1) Jd)))) (Ja 4))))
theorem Jxl:Jm6 (k+1) [x0,x1,x2] h=(Jtc k [Za x0,Za x1,Za x2,Zc,Zc] h).fin:=02
def Jl8 (k:Nat):S1:=(Jk (Jb cLe (Jb Jj (Ja 1) (Jo "late" (Ja 0))) (Jo "due" (Ja 0))))
theorem Jo0:Jds (k+1) [x0,x1] h=(Jl8 k [Za x0,Za x1] h).fin:=02
def Jtb:S1:=(Jk (eAnd (Jb cGe (Ja 2) (eC (.int 1))) (eAnd (Jb cLe (Jm (Jm6 k) [] (Jc (Ja 0) (Jc (Ja 1) (Jc (Ja 2) Jd)))) (Ja 2)) (Jm (Jds k) [] (Jc (Jn (pg k) "work" 1 (Ja 0) (Jc (Ja 1) Jd)) (Jc (Ja 2) Jd))) tru) tru))
theorem Jxk:Jm5 (k+1) [x0,x1,x2] h=(Jtb k [Za x0,Za x1,Za x2] h).fin:=02
def Jos:S1:=Jf (Ji 2 (eC (.int 1))) (Jf (XD (Jh tru (Jm (Jds k) [] (Jc (Jn (pg k) "work" 1 (Ja 0) (Jc (Ja 1) Jd)) (Jc (Ja 2) Jd)))) (Jf (Ji 3 (Jm (Jm6 k) [] (Jc (Ja 0) (Jc (Ja 1) (Jc (Ja 2) Jd))))) (Jf (sIf (Jh asB (Jb cLe (Ja 3) (Ja 2))) (Jk (Ja 2)) Jr) (Ji 2 (Ja 3))))) (Jk (eC .non)))
theorem Jq4:Jiu (k+1) [x0,x1] h=(Jos k [Za x0,Za x1,Zc,Zc] h).fin:=02
def Jej:E1:=(Jm (Jm5 k) [] (Jc (Ja 2) (Jc (Ja 0) (Jc (Ja 1) Jd))))
def Jma:S1:=Jf (sIf (Jh asB (Jb cNe (eCB (on1 lenI) (Jc (Ja 1) Jd)) (Jn (pg k) "size" 0 (Ja 0) Jd))) (Jk (eC (.bl Zk))) Jr) (Jk (eCB (on1 allI) (Jc (Js (iRg Qw (Jc (Ja 1) Jd)) 2 [0] (gTp 2 (gC (gNm 0) (gC (gNm 1) gN))) JB (Jej k)) Jd)))
theorem Jo4:Jgp (k+1) [x0,x1] h=(Jma k [Za x0,Za x1] h).fin:=02
def Jqh (k:Nat):S1:=(Jk (Jb Jj (Jb Jg (Ja 0) (eC (.int 1))) (Jb Jg (Ja 0) (eC (.int 2)))))
theorem Jtp:Jix (k+1) [x0] h=(Jqh k [Za x0] h).fin:=02
def Jot:S1:=(Jk (Jb Jj (Jb Jg (Ja 1) (eC (.int 1))) (Jo "due" (Jn (pg k) "work" 1 (Ja 0) (Jc (Jb Jg (Ja 1) (eC (.int 0))) Jd)))))
theorem Jq5:Jf1 (k+1) [x0,x1] h=(Jot k [Za x0,Za x1] h).fin:=02
def Ja2:E1:=(Jm (Jc1 k) [] (Jc (Ja 0) Jd))
def Ji2:S1:=Jf (sIf (tOrI (JF (Jh tru (eIsi Vy (Ja 1)))) (Jh asB (Jb cNe (eCB (on1 lenI) (Jc (Ja 1) Jd)) (eC (.int 4))))) (Jk (eC (.bl Zk))) Jr) (Jf (sIf (JF (Jh tru (eCB (on1 allI) (Jc (Js (J6 (Ja 1)) 1 [] (gNm 0) JB (Ja2 k)) Jd)))) (Jk (eC (.bl Zk))) Jr) (Jf (sIf (tOrI (JF (Jh asB (Qa cLe cLt (eC (.int 0)) (Jb Jg (Ja 1) (eC (.int 0))) (Jn (pg k) "size" 0 (Ja 0) Jd)))) (Jh asB (Jb cLt (Jb Jg (Ja 1) (eC (.int 1))) (eC (.int 0))))) (Jk (eC (.bl Zk))) Jr) (Jf (Ji 2 (Jn (pg k) "work" 1 (Ja 0) (Jc (Jb Jg (Ja 1) (eC (.int 0))) Jd))) (Jk (eAnd (Qa cLe cLe (eC (.int 0)) (Jb Jg (Ja 1) (eC (.int 2))) (Jo "late" (Ja 2))) (Qa cLe cLe (eC (.int 1)) (Jb Jg (Ja 1) (eC (.int 3))) (Jo "length" (Ja 2))) tru)))))
theorem Jky:Jdh (k+1) [x0,x1] h=(Ji2 k [Za x0,Za x1,Zc] h).fin:=02
def Jgs:S1:=Jf (Ji 2 VW) (Jf (sFor (iRg Qw (Jc (Ja 1) Jd)) (gTp 2 (gC (gNm 3) (gC (gNm 4) gN))) (Jf (sIf (JF (Jh tru (Jm (Jdh k) [] (Jc (Ja 0) (Jc (Ja 4) Jd))))) (Jk (Ja 3)) Jr) (Jf (Ji 5 (Jb Jg (Ja 4) (eC (.int 0)))) (Jf (sIf (Qm (Jh asB (Jb cInD (Ja 5) (Ja 2))) (Jh asB (Jb cLt (Jb JJ (Jb Jg (Ja 4) (eC (.int 1))) (Jb QR (Ja 2) (Ja 5))) (Jo "gap" (Jn (pg k) "work" 1 (Ja 0) (Jc (Ja 5) Jd)))))) (Jk (Ja 3)) Jr) (sAsg (Jb Jg (Ja 4) (eC (.int 1))) (gSbD (Ja 2) (Ja 5))))))) (Jk (eC .non)))
theorem Jh1:Jbt (k+1) [x0,x1] h=(Jgs k [Za x0,Za x1,Zc,Zc,Zc,Zc] h).fin:=02
def Jl6:S1:=Jf (sIf (Jh asB (Jb cGt (eCB (on1 lenI) (Jc (Ja 1) Jd)) (eC (.int 200)))) stS Jr) (Jf (Ji 2 (Jm (Jbt k) [] (Jc (Ja 0) (Jc (Ja 1) Jd)))) (sIf (Jh asB (Jb Jnb (Ja 2) (eC .non))) stS Jr))
theorem Joy:Jgl (k+1) [x0,x1] h=(Jl6 k [Za x0,Za x1,Zc] h).fin:=02
def Ji6:S1:=(Jk (eCB (on1 Xc) (Jc (Jb Jj (JD (Jc (Ja 2) Jd)) (Js (J6 (Jn (pg k) "held" 0 (Ja 0) Jd)) 1 [1] (gNm 0) (Jh asB (Jb cGt (Jb Jg (Ja 0) (eC (.int 2))) (Ja 1))) (Jb Jg (Ja 0) (eC (.int 2))))) Jd)))
theorem Jk3:Jdm (k+1) [x0,x1,x2] h=(Ji6 k [Za x0,Za x1,Za x2] h).fin:=02
def Xq:E1:=(Jm (Jix k) [] (Jc (Jb Jg (Ja 1) (Ja 0)) Jd))
def Jc8 (k:Nat):S1:=(JR "stretches" (Ja 0) (JD Jd))
def Jhr:S1:=Jf (JR "order" (Ja 0) (Ja 1)) (Jf (JR "row" (Ja 0) (Ja 2)) (Jf (JR "dones" (Ja 0) (Js (J6 (Ja 2)) 1 [] (gNm 0) JB (eC (.int 0)))) (Jf (JR "later" (Ja 0) (Yg "Bench.__init__" 1 [2] (Jc (eCB (on1 lenI) (Jc (Ja 2) Jd)) Jd) (Xq k))) (Jf (JR "waiting" (Ja 0) (JD Jd)) (Jf (JR "turn" (Ja 0) (eC (.int 0))) (Jc8 k))))))
theorem Jje:Jch (k+1) [x0,x1,x2] h=(Jhr k [Za x0,Za x1,Za x2] h).fin:=02
def Jc7:S1:=(Jk (Jm (Jix k) [] (Jc (Jb Jg (Jo "row" (Ja 0)) (Jb Jg (Jo "later" (Ja 0)) (eUn Yw (eC (.int 1))))) Jd)))
theorem Jdq:Jae (k+1) [x0] h=(Jc7 k [Za x0] h).fin:=02
def Jcf:S1:=(XD (Qm (Jh asB (Jb cGt (eCB (on1 lenI) (Jc (Jo "later" (Ja 0)) Jd)) (eC (.int 0)))) (Jh asB (Jb cLe (Jn (pg k) "next_ready" 0 (Ja 0) Jd) (Jo "turn" (Ja 0))))) (JG (Jn (pg k) "append" 1 (Jo "waiting" (Ja 0)) (Jc (Jn (pg k) "pop" 0 (Jo "later" (Ja 0)) Jd) Jd))))
def Jfu:S1:=Jf (sIf (Jh asB (Jb cEq (eCB (on1 lenI) (Jc (Jo "waiting" (Ja 0)) Jd)) (eC (.int 0)))) (JR "turn" (Ja 0) (eCB (on2 maxI) (Jc (Jo "turn" (Ja 0)) (Jc (Jn (pg k) "next_ready" 0 (Ja 0) Jd) Jd)))) Jr) (Jcf k)
theorem Jg8:Jbh (k+1) [x0] h=(Jfu k [Za x0] h).fin:=02
def Jdo:S1:=Jf (Ji 2 (Jb Jg (Jo "row" (Ja 0)) (Ja 1))) (Jf (Ji 3 (Jb Jg (Jo "dones" (Ja 0)) (Ja 1))) (Jf (Ji 4 (Jb JJ (Jm (Jdm k) [] (Jc (Jn (pg k) "work" 1 (Jo "duty" (Jo "order" (Ja 0))) (Jc (Jb Jg (Ja 2) (eC (.int 0))) Jd)) (Jc (Ja 3) (Jc (Jb Jg (Ja 2) (eC (.int 3))) Jd)))) (Ja 3))) (Jf (sIf (Jh asB (Jb cGt (eCB (on1 lenI) (Jc (Jo "later" (Ja 0)) Jd)) (eC (.int 0)))) (Ji 4 (eCB (on2 minI) (Jc (Ja 4) (Jc (Jb JJ (Jn (pg k) "next_ready" 0 (Ja 0) Jd) (Jo "turn" (Ja 0))) Jd)))) Jr) (Jk (Ja 4)))))
theorem Jey:Jah (k+1) [x0,x1] h=(Jdo k [Za x0,Za x1,Zc,Zc,Zc] h).fin:=02
def Jc9:S1:=(JG (Jn (pg k) "append" 1 (Jo "stretches" (Ja 0)) (Jc (eTup (Jc (Ja 1) (Jc (Ja 3) (Jc (Ja 2) Jd)))) Jd)))
def Jhs:S1:=Jf (Ji 3 (Jo "turn" (Ja 0))) (Jf (sIf (Qm (Jh asB (Jb cGt (eCB (on1 lenI) (Jc (Jo "stretches" (Ja 0)) Jd)) (eC (.int 0)))) (Jh asB (Jb cEq (Jb Jg (Jb Jg (Jo "stretches" (Ja 0)) (eUn Yw (eC (.int 1)))) (eC (.int 0))) (Ja 1)))) (Ji 3 (Jb Jg (Jn (pg k) "pop" 0 (Jo "stretches" (Ja 0)) Jd) (eC (.int 1)))) Jr) (Jc9 k))
theorem Jjf:Jci (k+1) [x0,x1,x2] h=(Jhs k [Za x0,Za x1,Za x2,Zc] h).fin:=02
def Jgr:S1:=Jf (JG (Jn (pg k) "let_in" 0 (Ja 0) Jd)) (Jf (Ji 1 (Jn (pg k) "pick" 3 (Jo "order" (Ja 0)) (Jc (Jo "row" (Ja 0)) (Jc (Jo "waiting" (Ja 0)) (Jc (Jo "dones" (Ja 0)) Jd))))) (Jf (Ji 2 (Jn (pg k) "turns_for" 1 (Ja 0) (Jc (Ja 1) Jd))) (Jf (JG (Jn (pg k) "tell" 2 (Ja 0) (Jc (Ja 1) (Jc (Jb Jj (Jo "turn" (Ja 0)) (Ja 2)) Jd)))) (Jf (XB .Add "turn" (Ja 0) (Ja 2)) (Jf (XC .Add (Jo "dones" (Ja 0)) (Ja 1) (Ja 2)) (sIf (Jh asB (Jb cEq (Jb Jg (Jo "dones" (Ja 0)) (Ja 1)) (Jb Jg (Jb Jg (Jo "row" (Ja 0)) (Ja 1)) (eC (.int 3))))) (JG (Jn (pg k) "remove" 1 (Jo "waiting" (Ja 0)) (Jc (Ja 1) Jd))) Jr))))))
theorem Jhz:Jbq (k+1) [x0] h=(Jgr k [Za x0,Zc,Zc] h).fin:=02
def Jw4:S1:=Jf (JG (Jm (Jgl k) [] (Jc (Jo "duty" (Ja 0)) (Jc (Ja 1) Jd)))) (Jf (Ji 2 (QN "Bench" (Jch k) [] (Jc (Ja 0) (Jc (Ja 1) Jd)))) (Jf (XD (Jh asB (Jb cGt (Jb Jj (eCB (on1 lenI) (Jc (Jo "later" (Ja 2)) Jd)) (eCB (on1 lenI) (Jc (Jo "waiting" (Ja 2)) Jd))) (eC (.int 0)))) (JG (Jn (pg k) "go_on" 0 (Ja 2) Jd))) (Jk (Jo "stretches" (Ja 2)))))
theorem Jz6:Jwv (k+1) [x0,x1] h=(Jw4 k [Za x0,Za x1,Zc] h).fin:=02
def Jik (k:Nat):E1:=(Jb QR (Ja 1) (Ja 0))
def Jta:S1:=Jf (Ji 2 VW) (Jf (sFor (J6 (Jm (Jwv k) [] (Jc (Ja 0) (Jc (Ja 1) Jd)))) (gNm 3) (sAsg (Jb Jg (Ja 3) (eC (.int 2))) (gSbD (Ja 2) (Jb Jg (Ja 3) (eC (.int 0)))))) (Jk (Js (iRg JV (Jc (eCB (on1 lenI) (Jc (Ja 1) Jd)) Jd)) 1 [2] (gNm 0) JB (Jik k))))
theorem Jxj:Jm4 (k+1) [x0,x1] h=(Jta k [Za x0,Za x1,Zc,Zc] h).fin:=02
def Jfq:T1:=(Jh asB (Jb cGt (Jb Jg (Ja 3) (Ja 0)) (Jm (Jf1 k) [] (Jc (Jo "duty" (Ja 2)) (Jc (Ja 1) Jd)))))
def Jou:S1:=Jf (Ji 2 (Jm (Jm4 k) [] (Jc (Ja 0) (Jc (Ja 1) Jd)))) (Jk (Js (iRg Qw (Jc (Ja 1) Jd)) 2 [0,2] (gTp 2 (gC (gNm 0) (gC (gNm 1) gN))) (Jfq k) (Ja 0)))
theorem Jq7:Jiw (k+1) [x0,x1] h=(Jou k [Za x0,Za x1,Zc] h).fin:=02
def Jcv (k:Nat):E1:=(eIsi (Jvs ["Work"]) (Ja 0))
def Jcw (k:Nat):E1:=(Jo "name" (Ja 0))
def Jeg (k:Nat):S1:=(Jk (eCB (on1 Xg) (Jc (Ja 0) Jd)))
def Jef:S1:=Jf (sIf (Jh asB (Jb cNe (Yd (Jc (Js (J6 (Ja 0)) 1 [] (gNm 0) JB (Jcw k)) Jd)) (eCB (on1 lenI) (Jc (Ja 0) Jd)))) stS Jr) (Jeg k)
def Jee:S1:=Jf (sIf (JF (Jh tru (eCB (on1 allI) (Jc (Js (J6 (Ja 0)) 1 [] (gNm 0) JB (Jcv k)) Jd)))) stS Jr) (Jef k)
def Jed:S1:=Jf (sIf (JF (Jh tru (eIsi QK (Ja 0)))) stS Jr) (Jee k)
theorem Jk5:Jdn (k+1) [x0] h=(Jed k [Za x0] h).fin:=02
def Jdc (k:Nat):E1:=(Jo "due" (Ja 0))
def Jdd:E1:=(Jm (Jbw k) [] (Jc (Jb Jj (Ja 1) (Jo "late" (Ja 0))) (Jc (Jo "gap" (Ja 0)) Jd)))
def Jfo:S1:=(Jk (eCB (on1 sumI) (Jc (Js (J6 (Ja 0)) 1 [1] (gNm 0) JB (Jdd k)) Jd)))
def Jfn:S1:=Jf (Ji 1 (Ye (Jc (Js (J6 (Ja 0)) 1 [] (gNm 0) JB (Jdc k)) Jd) (eC (.int 0)))) (Jfo k)
theorem Jmg:Je7 (k+1) [x0] h=(Jfn k [Za x0,Zc] h).fin:=02
def Jd0:S1:=(sIf (Jh asB (Jb cGt (Jm (Je7 k) [] (Jc (Jo "works" (Ja 0)) Jd)) (eC (.int 80)))) stS Jr)
def Jdz:S1:=Jf (sIf (Jh asB (Jb cGt (eCB (on1 lenI) (Jc (Jo "works" (Ja 0)) Jd)) (eC (.int 12)))) stS Jr) (Jd0 k)
def Jdy:S1:=Jf (JR "works" (Ja 0) (Jm (Jdn k) [] (Jc (Ja 1) Jd))) (Jdz k)
theorem Jkt:Jbr (k+1) [x0,x1] h=(Jdy k [Za x0,Za x1] h).fin:=02
def Jd1 (k:Nat):S1:=(Jk (eCB (on1 lenI) (Jc (Jo "works" (Ja 0)) Jd)))
theorem Jku:Jde (k+1) [x0] h=(Jd1 k [Za x0] h).fin:=02
def Jd2 (k:Nat):S1:=(Jk (Jb Jg (Jo "works" (Ja 0)) (Ja 1)))
theorem Jkv:Jdf (k+1) [x0,x1] h=(Jd2 k [Za x0,Za x1] h).fin:=02
def Jda (k:Nat):S1:=(JR "duty" (Ja 0) (Ja 1))
theorem Jjg:Jcj (k+1) [x0,x1] h=(Jda k [Za x0,Za x1] h).fin:=02
def Jcg:E1:=(Jb Jj (Jn (pg k) "standing" 2 (Ja 3) (Jc (Jb Jg (Ja 2) (Ja 0)) (Jc (Jb Jg (Ja 1) (Ja 0)) Jd))) (eTup (Jc (Ja 0) Jd)))
def Jdb:S1:=(Jk (Xt ltT "Order.pick" 0 [3,1,0] (Jc (Ja 2) Jd) (Jcg k)))
theorem Jjh:Ja4 (k+1) [x0,x1,x2,x3] h=(Jdb k [Za x0,Za x1,Za x2,Za x3] h).fin:=02
def Ja7:S1:=(Jk (eTup (Jc (Jn (pg k) "rank_of" 2 (Ja 0) (Jc (Ja 1) (Jc (Ja 2) Jd))) (Jc (eIf (Jh tru (Jn (pg k) "holds" 2 (Ja 0) (Jc (Ja 1) (Jc (Ja 2) Jd)))) (eC (.int 0)) (eC (.int 1))) Jd))))
theorem Jfe:Jao (k+1) [x0,x1,x2] h=(Ja7 k [Za x0,Za x1,Za x2] h).fin:=02
def Jcm:S1:=(JR "tops" (Ja 0) (Jm (Jc0 k) [] (Jc (Ja 1) Jd)))
def Jcl:S1:=Jf (JG (Jm (Jcj k) [] (Jc (Ja 0) (Jc (Ja 1) Jd)))) (Jcm k)
theorem Jh0:XO (k+1) [x0,x1] h=(Jcl k [Za x0,Za x1] h).fin:=02
def Jdx:S1:=(Jk (Jm (Jiv k) [] (Jc (Jb Jg (Ja 1) (eC (.int 0))) (Jc (Jm (Jar k) [] (Jc (Jn (pg k) "work" 1 (Jo "duty" (Ja 0)) (Jc (Jb Jg (Ja 1) (eC (.int 0))) Jd)) (Jc (Ja 2) Jd))) (Jc (Jo "tops" (Ja 0)) Jd)))))
theorem Jfd:Jan (k+1) [x0,x1,x2] h=(Jdx k [Za x0,Za x1,Za x2] h).fin:=02
def Jfv:S1:=(Jk (Jb cGt (eCB (on1 lenI) (Jc (Jm (Jar k) [] (Jc (Jn (pg k) "work" 1 (Jo "duty" (Ja 0)) (Jc (Jb Jg (Ja 1) (eC (.int 0))) Jd)) (Jc (Ja 2) Jd))) Jd)) (eC (.int 0))))
theorem Jg9:Jbi (k+1) [x0,x1,x2] h=(Jfv k [Za x0,Za x1,Za x2] h).fin:=02
def Jcr (k:Nat):S1:=(Jk (eC (.int 0)))
def Jcq:S1:=Jf (sIf (Jh asB (Jb cLt (Ja 1) (eCB (on1 lenI) (Jc (Ja 0) Jd)))) (Jk (Jb Jg (Ja 0) (Ja 1))) Jr) (Jcr k)
theorem Jh3:Jaq (k+1) [x0,x1] h=(Jcq k [Za x0,Za x1] h).fin:=02
def Jhu:S1:=Jf (Ji 2 (JD Jd)) (Jf (sIf (Jh asB (Jb cGe (Ja 0) (Jb JL (eC (.int 10)) (eC (.int 30))))) (Jf (Ji 3 (Jb JJ (Ja 0) (Jb JL (eC (.int 10)) (eC (.int 30))))) (Jf (sFor (iRg JV (Jc (Ja 1) Jd)) (gNm 4) (Jf (JG (Jn (pg k) "append" 1 (Ja 2) (Jc (Jb Jq (Ja 3) (Jb JL (eC (.int 10)) (eC (.int 45)))) Jd))) (Ji 3 (Jb J7 (Ja 3) (Jb JL (eC (.int 10)) (eC (.int 45))))))) (Jk (Ja 2)))) Jr) (Jf (Ji 5 (Jb Jj (Jb Jq (Ja 0) (Jb Jj (Jb JL (eC (.int 10)) (eC (.int 18))) (eC (.int 9)))) (eC (.int 48271)))) (Jf (sFor (iRg JV (Jc (Jb Jj (Ja 1) (eC (.int 2))) Jd)) (gNm 4) (Jf (Ji 5 (Jb Jq (Jb Jj (Jb Jj (Jb JQ (Ja 5) (Ja 5)) (Jb JQ (eC (.int 48271)) (Ja 5))) (Ja 4)) (Jb Jj (Jb JL (eC (.int 10)) (eC (.int 18))) (eC (.int 9))))) (JG (Jn (pg k) "append" 1 (Ja 2) (Jc (Ja 5) Jd))))) (Jk (eSl slI (Ja 2) (Qs (eC (.int 2))) X4)))))
theorem Jjj:Ja5 (k+1) [x0,x1] h=(Jhu k [Za x0,Za x1,Zc,Zc,Zc,Zc] h).fin:=02
def Ji3:S1:=Jf (Ji 2 (JD Jd)) (Jf (sIf (Qm (Jh asB (Jb cGt (Ja 1) (eC (.int 1)))) (Jh asB (Jb cNe (Jb Jq (Jb Jg (Ja 0) (eC (.int 0))) (eC (.int 3))) (eC (.int 0))))) (Jf (Ji 3 (Jb Jq (Jb Jg (Ja 0) (eC (.int 1))) (Jb JJ (Ja 1) (eC (.int 1))))) (Jf (Ji 4 (Jb Jj (Jb Jj (Ja 3) (eC (.int 1))) (Jb Jq (Jb Jg (Ja 0) (eC (.int 2))) (Jb JJ (Jb JJ (Ja 1) (eC (.int 1))) (Ja 3))))) (Jf (JG (Jn (pg k) "append" 1 (Ja 2) (Jc (eTup (Jc (Jb Jg (JD (Jc (eC (.str "ink")) (Jc (eC (.str "oven")) Jd))) (Jb Jq (Jb J7 (Jb Jg (Ja 0) (eC (.int 0))) (eC (.int 3))) (eC (.int 2)))) (Jc (Ja 3) (Jc (Ja 4) Jd)))) Jd))) (sIf (Qm (Jh asB (Jb cEq (Jb Jq (Jb Jg (Ja 0) (eC (.int 3))) (eC (.int 2))) (eC (.int 0)))) (Jh asB (Jb cLt (Ja 4) (Jb JJ (Ja 1) (eC (.int 1)))))) (JG (Jn (pg k) "append" 1 (Ja 2) (Jc (eTup (Jc (Jb Jg (JD (Jc (eC (.str "ink")) (Jc (eC (.str "oven")) Jd))) (Jb Jq (Jb J7 (Jb Jg (Ja 0) (eC (.int 3))) (eC (.int 2))) (eC (.int 2)))) (Jc (Ja 4) (Jc (Jb Jj (Jb Jj (Ja 4) (eC (.int 1))) (Jb Jq (Jb Jg (Ja 0) (eC (.int 4))) (Jb JJ (Jb JJ (Ja 1) (eC (.int 1))) (Ja 4)))) Jd)))) Jd))) Jr)))) Jr) (Jk (Ja 2)))
theorem Jkz:Jdi (k+1) [x0,x1] h=(Ji3 k [Za x0,Za x1,Zc,Zc,Zc] h).fin:=02
def Jd5:S1:=(Jk (eTup (Jc (Ja 4) (Jc (Ja 5) (Jc (Ja 6) (Jc (Ja 7) (Jc (Jm (Jdi k) [] (Jc (eSl slI (Ja 3) (Qs (eC (.int 7))) X4) (Jc (Ja 5) Jd))) Jd)))))))
def Ji5:S1:=Jf (Ji 3 (Jm (Ja5 k) [] (Jc (Ja 0) (Jc (eC (.int 12)) Jd)))) (Jf (Ji 4 (Jb Jj (Jb JQ (Ja 1) (Jb Jj (eC (.int 1)) (Jb Jq (Jb Jg (Ja 3) (eC (.int 0))) (eC (.int 8))))) (Jb Jq (Jb Jg (Ja 3) (eC (.int 1))) (eC (.int 5))))) (Jf (Ji 5 (Jb Jj (eC (.int 1)) (Jb Jq (Jb Jg (Ja 3) (eC (.int 2))) (Jb Jj (Jb J7 (Jb JQ (Ja 4) (Jb Jg (JD (Jc (eC (.int 2)) (Jc (eC (.int 3)) (Jc (eC (.int 1)) Jd)))) (Jb Jq (Jb J7 (Jb Jg (Ja 3) (eC (.int 2))) (Jb JL (eC (.int 10)) (eC (.int 17)))) (eC (.int 3))))) (Jb JQ (eC (.int 2)) (Ja 2))) (eC (.int 1)))))) (Jf (Ji 6 (Jb JJ (Ja 4) (Jb JQ (Jb Jq (Jb Jg (Ja 3) (eC (.int 3))) (eC (.int 2))) (Jb Jq (Jb Jg (Ja 3) (eC (.int 4))) (Jb Jj (Jb J7 (Ja 4) (eC (.int 2))) (eC (.int 1))))))) (Jf (Ji 7 (Jb JQ (Jb Jq (Jb Jg (Ja 3) (eC (.int 5))) (eC (.int 2))) (Jb Jq (Jb Jg (Ja 3) (eC (.int 6))) (Jb Jj (Jb J7 (Ja 4) (eC (.int 4))) (eC (.int 1)))))) (Jf (sIf (Jh asB (Jb cEq (Jb Jq (Jb J7 (Jb Jg (Ja 3) (eC (.int 5))) (eC (.int 2))) (eC (.int 8))) (eC (.int 3)))) (Ji 7 (Jb Jq (Jb Jg (Ja 3) (eC (.int 6))) (Jb Jj (Jb Jj (Ja 4) (Jb J7 (Ja 4) (eC (.int 2)))) (eC (.int 1))))) Jr) (Jd5 k))))))
theorem Jk1:Jdk (k+1) [x0,x1,x2] h=(Ji5 k [Za x0,Za x1,Za x2,Zc,Zc,Zc,Zc,Zc] h).fin:=02
def Ji4:S1:=Jf (Ji 3 (JD Jd)) (Jf (sFor (iRg JV (Jc (eCB (on1 lenI) (Jc (Ja 1) Jd)) Jd)) (gNm 4) (Jf (sAsg (Jb Jg (Ja 1) (Ja 4)) (gTp 5 (gC (gNm 5) (gC (gNm 6) (gC (gNm 7) (gC (gNm 8) (gC (gNm 9) gN))))))) (Jf (Ji 10 (Jm (Jiu k) [] (Jc (Ja 0) (Jc (Ja 4) Jd)))) (Jf (Ji 11 (Jb Jq (Jb J7 (Ja 2) (Jb Jj (eC (.int 2)) (Jb JQ (eC (.int 5)) (Ja 4)))) (Jb Jj (Ja 7) (eC (.int 1))))) (Jf (Ji 11 (Jb JJ (Jb JQ (Ja 11) (Jb Jq (Jb J7 (Ja 2) (Jb Jj (eC (.int 3)) (Jb JQ (eC (.int 4)) (Ja 4)))) (eC (.int 2)))) (Jb J7 (Jb Jq (Jb J7 (Ja 2) (Jb Jj (eC (.int 7)) (Jb JQ (eC (.int 2)) (Ja 4)))) (eC (.int 3))) (eC (.int 2))))) (Jf (sIf (Jh asB (Jb cIs (Ja 10) (eC .non))) (Ji 10 (Jb Jj (eC (.int 1)) (Jb Jq (Jb J7 (Ja 2) (Jb Jj (eC (.int 3)) (Ja 4))) (Jb JQ (eC (.int 2)) (Ja 5))))) (sIf (Jh asB (Jb cEq (Jb Jq (Ja 2) (eC (.int 2))) (eC (.int 1)))) (Ji 10 (Jb Jj (Ja 10) (Ja 11))) Jr)) (JG (Jn (pg k) "append" 1 (Ja 3) (Jc (Ja 10) Jd))))))))) (Jk (Ja 3)))
theorem Jk0:Jdj (k+1) [x0,x1,x2] h=(Ji4 k [Za x0,Za x1,Za x2,Zc,Zc,Zc,Zc,Zc,Zc,Zc,Zc,Zc] h).fin:=02
def Jei (k:Nat):E1:=(eC (.int 0))
def Jl9:S1:=Jf (Ji 2 (JD Jd)) (Jf (Ji 3 (Js (J6 (Ja 1)) 1 [] (gNm 0) JB (Jei k))) (Jf (Ji 4 (eC (.int 0))) (Jf (Ji 5 (eC (.int 0))) (Jf (sFor (J6 (Ja 0)) (gNm 6) (Jf (Ji 7 (Jm (Ja5 k) [] (Jc (Ja 6) (Jc (eC (.int 6)) Jd)))) (Jf (Ji 8 (Jb Jq (Jb Jg (Ja 7) (eC (.int 0))) (eCB (on1 lenI) (Jc (Ja 1) Jd)))) (Jf (sAsg (Jb Jg (Ja 1) (Ja 8)) (gTp 5 (gC (gNm 9) (gC (gNm 10) (gC (gNm 11) (gC (gNm 12) (gC (gNm 13) gN))))))) (Jf (Ji 14 (Jb Jj (Ja 4) (Jb Jg (JD (Jc (eC (.int 0)) (Jc (Ja 5) (Jc (Jb Jq (Jb Jg (Ja 7) (eC (.int 1))) (eC (.int 3))) (Jc (Jb Jq (Jb Jg (Ja 7) (eC (.int 1))) (Jb Jj (Ja 9) (eC (.int 1)))) Jd))))) (Jb Jq (Jb Jg (Ja 7) (eC (.int 2))) (eC (.int 4)))))) (Jf (Ji 15 (eCB (on2 maxI) (Jc (Jb Jg (Ja 3) (Ja 8)) (Jc (Jb JJ (Ja 14) (Jb JQ (Jb Jq (Jb J7 (Jb Jg (Ja 7) (eC (.int 2))) (eC (.int 4))) (eC (.int 2))) (Ja 12))) Jd)))) (Jf (Ji 16 (Jb Jg (JD (Jc (eC (.int 0)) (Jc (Ja 12) (Jc (eCB (on2 maxI) (Jc (eC (.int 0)) (Jc (eCB (on2 minI) (Jc (Ja 12) (Jc (Jb JJ (Ja 14) (Ja 15)) Jd))) Jd))) (Jc (Jb Jq (Jb Jg (Ja 7) (eC (.int 3))) (Jb Jj (Ja 12) (eC (.int 1)))) Jd))))) (Jb Jq (Jb Jg (Ja 7) (eC (.int 4))) (eC (.int 4))))) (Jf (Ji 17 (Jb Jg (JD (Jc (Ja 10) (Jc (Ja 10) (Jc (Jb Jj (eC (.int 1)) (Jb Jq (Jb Jg (Ja 7) (eC (.int 5))) (Ja 10))) Jd)))) (Jb Jq (Jb J7 (Jb Jg (Ja 7) (eC (.int 4))) (eC (.int 4))) (eC (.int 3))))) (Jf (JG (Jn (pg k) "append" 1 (Ja 2) (Jc (eTup (Jc (Ja 8) (Jc (Ja 15) (Jc (Ja 16) (Jc (Ja 17) Jd))))) Jd))) (Jf (sAsg (Jb Jj (Ja 15) (Ja 9)) (gSb (Ja 3) (Ja 8))) (Jf (Ji 4 (eCB (on2 maxI) (Jc (Ja 4) (Jc (Jb Jj (Ja 15) (Jb JQ (Jb Jq (Jb J7 (Jb Jg (Ja 7) (eC (.int 5))) (eC (.int 7))) (eC (.int 2))) (Ja 16))) Jd)))) (Jf (Ji 5 (eC (.int 0))) (sIf (Jh asB (Jb cNe (Ja 13) (JD Jd))) (Ji 5 (Jb Jj (Jb Jg (Jb Jg (Ja 13) (eC (.int 0))) (eC (.int 1))) (eC (.int 1)))) Jr))))))))))))) (Jk (Ja 2))))))
theorem Jo3:Jgo (k+1) [x0,x1] h=(Jl9 k [Za x0,Za x1,Zc,Zc,Zc,Zc,Zc,Zc,Zc,Zc,Zc,Zc,Zc,Zc,Zc,Zc,Zc,Zc] h).fin:=02
def Jbm (k:Nat):E1:=(Jb Jg (Ja 0) (eC (.int 0)))
def Jgy:S1:=Jf (Ji 2 (JD Jd)) (Jf (Ji 3 (Jb JQ (eC (.int 3)) (eCB (on1 X2) (Jc (Js (J6 (Ja 1)) 1 [] (gNm 0) JB (Jbm k)) Jd)))) (Jf (Ji 4 VW) (Jf (sFor (iRg JV (Jc (eCB (on1 lenI) (Jc (Ja 0) Jd)) Jd)) (gNm 5) (Jf (Ji 6 (Jb Jq (Jb Jj (Ja 5) (Jb Jq (Jb Jg (Ja 0) (eC (.int 0))) (eC (.int 5)))) (eCB (on1 lenI) (Jc (Ja 1) Jd)))) (Jf (sAsg (Jb Jg (Ja 1) (Ja 6)) (gTp 5 (gC (gNm 7) (gC (gNm 8) (gC (gNm 9) (gC (gNm 10) (gC (gNm 11) gN))))))) (Jf (Ji 12 (Jb JJ (Ja 3) (Ja 10))) (Jf (sIf (Jh asB (Jb cInD (Ja 6) (Ja 4))) (Ji 12 (Jb Jj (Jb QR (Ja 4) (Ja 6)) (Jb J7 (Jb Jq (Jb J7 (Jb Jg (Ja 0) (Ja 5)) (eC (.int 5))) (eC (.int 4))) (eC (.int 3))))) Jr) (Jf (Ji 13 (eCB (on2 minI) (Jc (Ja 10) (Jc (eCB (on2 maxI) (Jc (eC (.int 0)) (Jc (Jb JJ (Ja 3) (Ja 12)) Jd))) Jd)))) (Jf (sIf (Qm (Jh asB (Jb Xp (Ja 6) (Ja 4))) (Qm (Jh asB (Jb cNe (Ja 11) (JD Jd))) (Jh asB (Jb cEq (Jb Jq (Jb J7 (Jb Jg (Ja 0) (eC (.int 0))) (eC (.int 5))) (eCB (on1 lenI) (Jc (Ja 1) Jd))) (Ja 6))))) (Jf (Ji 12 (Jb JJ (Jb JJ (Ja 3) (Jb Jg (Jb Jg (Ja 11) (Jb Jq (Jb J7 (Jb Jg (Ja 0) (eC (.int 0))) (eC (.int 25))) (eCB (on1 lenI) (Jc (Ja 11) Jd)))) (eC (.int 1)))) (eC (.int 1)))) (Ji 13 (eC (.int 0)))) Jr) (Jf (JG (Jn (pg k) "append" 1 (Ja 2) (Jc (eTup (Jc (Ja 6) (Jc (Ja 12) (Jc (Ja 13) (Jc (Ja 8) Jd))))) Jd))) (sAsg (Jb Jj (Ja 12) (Ja 7)) (gSbD (Ja 4) (Ja 6))))))))))) (Jk (Ja 2)))))
theorem Jh4:Jbv (k+1) [x0,x1] h=(Jgy k [Za x0,Za x1,Zc,Zc,Zc,Zc,Zc,Zc,Zc,Zc,Zc,Zc,Zc,Zc] h).fin:=02
def Jki:E1:=(Jm (Jdk k) [] (Jc (Jm (Jaq k) [] (Jc (Ja 2) (Jc (Jb Jj (eC (.int 1)) (Ja 0)) Jd))) (Jc (Ja 3) (Jc (Ja 1) Jd))))
def Jkj:E1:=(Jm (Jm5 k) [] (Jc (Ja 1) (Jc (Ja 0) (Jc (Jb Jg (Ja 2) (Ja 0)) Jd))))
def Jm8:S1:=Jf (Ji 16 (Jm (Jm4 k) [] (Jc (QN "ByRank" (XO k) [] (Jc (Ja 12) Jd)) (Jc (eCB (on1 Q9) (Jc (Ja 15) Jd)) Jd)))) (Jf (sIf (tOrI (JF (Jh tru (eIsi QK (Ja 16)))) (Jh asB (Jb cNe (eCB (on1 lenI) (Jc (Ja 16) Jd)) (eCB (on1 lenI) (Jc (Ja 15) Jd))))) (Jk (eC (.bl Zk))) Jr) (Jf (sFor (iRg JV (Jc (eCB (on1 lenI) (Jc (Ja 15) Jd)) Jd)) (gNm 6) (Jf (sAsg (Jb Jg (Ja 15) (Ja 6)) (gTp 4 (gC (gNm 17) (gC (gNm 18) (gC (gNm 19) (gC (gNm 20) gN)))))) (sIf (Qm (Jh tru (Jb Jg (Ja 14) (Ja 17))) (Jh asB (Jb cGt (Jb Jg (Ja 16) (Ja 6)) (Jb Jj (Jb Jj (Ja 18) (Ja 19)) (Jb Jg (Ja 13) (Ja 17)))))) (Jk (eC (.bl Zk))) Jr))) (Jk (eOr (eUn (VJ tru) (eCB (on1 allI) (Jc (Ja 14) Jd))) (Jb cEq (Jm (Jiw k) [] (Jc (QN "ByRank" (XO k) [] (Jc (Ja 12) Jd)) (Jc (eCB (on1 Q9) (Jc (Ja 15) Jd)) Jd))) (JD Jd)) tru))))
def Jqg:S1:=Jf (Ji 14 (Js (iRg JV (Jc (Ja 3) Jd)) 1 [12,13] (gNm 0) JB (Jkj k))) (Jf (sIf (Jh asB (Jb cNe (Jm (Jgp k) [] (Jc (Ja 12) (Jc (eCB (on1 Q9) (Jc (Ja 13) Jd)) Jd))) (eCB (on1 allI) (Jc (Ja 14) Jd)))) (Jk (eC (.bl Zk))) Jr) (Jf (Ji 15 (Jm (Jgo k) [] (Jc (eSl slI (Ja 0) (Qs (Jb Jj (eC (.int 1)) (Ja 3))) (Qs (Jb Jj (eC (.int 15)) (Ja 3)))) (Jc (Ja 4) Jd)))) (Jf (sIf (Jh asB (Jb cEq (Jb Jq (Jb J7 (Ja 1) (eC (.int 40))) (eC (.int 2))) (eC (.int 0)))) (Ji 15 (Jm (Jbv k) [] (Jc (eSl slI (Ja 0) (Qs (Jb Jj (eC (.int 1)) (Ja 3))) (Qs (Jb Jj (eC (.int 15)) (Ja 3)))) (Jc (Ja 4) Jd)))) Jr) (Jm8 k))))
def Jqf:S1:=Jf (Ji 13 (Jm (Jdj k) [] (Jc (Ja 12) (Jc (Ja 4) (Jc (Jb Jq (Jb J7 (Ja 1) (eC (.int 80))) (Jb JL (eC (.int 10)) (eC (.int 30)))) Jd))))) (Jqg k)
def Jqe:S1:=Jf (Ji 4 (Js (iRg JV (Jc (Ja 3) Jd)) 1 [3,0,2] (gNm 0) JB (Jki k))) (Jf (Ji 5 (JD Jd)) (Jf (sFor (iRg JV (Jc (Ja 3) Jd)) (gNm 6) (Jf (sAsg (Jb Jg (Ja 4) (Ja 6)) (gTp 5 (gC (gNm 7) (gC (gNm 8) (gC (gNm 9) (gC (gNm 10) (gC (gNm 11) gN))))))) (JG (Jn (pg k) "append" 1 (Ja 5) (Jc (QN "Work" (Jbs k) [] (Jc (Jb Jg (eC (.str "abcde")) (Ja 6)) (Jc (Ja 7) (Jc (Ja 8) (Jc (Ja 9) (Jc (Ja 10) (Jc (eCB (on1 Q9) (Jc (Ja 11) Jd)) Jd))))))) Jd))))) (Jf (Ji 12 (QN "Duty" (Jbr k) [] (Jc (Ja 5) Jd))) (Jqf k))))
def Jw3:S1:=Jf (Ji 1 (Jm (Jaq k) [] (Jc (Ja 0) (Jc (eC (.int 0)) Jd)))) (Jf (Ji 2 (Jb Jj (eC (.int 1)) (Jb Jq (Jb J7 (Ja 1) (eC (.int 4))) (Jb Jg (JD (Jc (eC (.int 3)) (Jc (Jb JL (eC (.int 10)) (eC (.int 15))) Jd))) (Jb Jq (Ja 1) (eC (.int 2))))))) (Jf (Ji 3 (Jb Jj (eC (.int 1)) (Jb Jq (Jb J7 (Ja 1) (eC (.int 8))) (eC (.int 5))))) (Jqe k)))
theorem Jz5:Xm (k+1) [x0] h=(Jw3 k [Za x0,Zc,Zc,Zc,Zc,Zc,Zc,Zc,Zc,Zc,Zc,Zc,Zc,Zc,Zc,Zc,Zc,Zc,Zc,Zc,Zc] h).fin:=02
end
theorem Jbg (k:Nat):Qd (pg k) "held" 0 "Work"=Za (Jdg k,[]):=02
theorem Jdp (k:Nat):Qd (pg k) "next_ready" 0 "Bench"=Za (Jae k,[]):=02
theorem Jg5 (k:Nat):Qd (pg k) "let_in" 0 "Bench"=Za (Jbh k,[]):=02
theorem Jeu (k:Nat):Qd (pg k) "turns_for" 1 "Bench"=Za (Jah k,[]):=02
theorem Jjc (k:Nat):Qd (pg k) "tell" 2 "Bench"=Za (Jci k,[]):=02
theorem Jhx (k:Nat):Qd (pg k) "go_on" 0 "Bench"=Za (Jbq k,[]):=02
theorem Jbf (k:Nat):Qd (pg k) "size" 0 "Duty"=Za (Jde k,[]):=02
theorem Jcz (k:Nat):Qd (pg k) "work" 1 "Duty"=Za (Jdf k,[]):=02
theorem Jfc (k:Nat):Qd (pg k) "rank_of" 2 "ByRank"=Za (Jan k,[]):=02
theorem Jg6 (k:Nat):Qd (pg k) "holds" 2 "ByRank"=Za (Jbi k,[]):=02
theorem Jhy (k:Nat):Qd (pg k) "pick" 3 "ByRank"=Za (Ja4 k,[]):=02
theorem Jev (k:Nat):Qd (pg k) "standing" 2 "ByRank"=Za (Jao k,[]):=02
end LW
section
open PySem L2 L3 L4
local macro_rules | `(tactic| simp! [$xs,*]) => `(tactic| simp (implicitDefEqProofs := Zk) only [Nb, YZ, Jj7, Nc, YY, Nd, Jj8, YX, QF, Jon, Jj6, Joo, XM, Qq, Jv, Vh, Qo, Yh, Jtk, Vs, Jvq, Job, Jvn, YH, YU, Jom, Jj4, YV, YD, Jj1, XL, YW, YN, Q2, VQ, Jvc, YR, YI, Jgj, Jgk, Xj, YG, YC, Jol, Joi, YQ, YE, YO, V7, Jj0, Jvk, Jvi, Jvg, Jvf, Jve, Jvl, Joe, Joj, Joc, Jj5, Jok, YF, Jvm, QD, QE, V8, YS, Jof, Joh, Jog, YT, Jgi, Zcv, Zbw, Zay, ZS, Zaz, exists_eq_left, exists_eq_left', IV.bl.injEq, IV.int.injEq, IV.ref.injEq, IV.str.injEq, IX.lst.injEq, IV.tup.injEq, Zbc, Zcn, ZbX, reduceCtorEq, eq_self, true_implies, false_implies, implies_true, and_true, true_and, and_false, false_and, ZbG, Zbx, ZX, Y8, Y4, Y9, Y5, Y6, Y7, VA, V9, VC, QK, VB, Vy, Xh, YJ, JS, JY, QL, VD, YM, YK, YL, $xs,*])
local macro_rules | `(tactic| simp_all! [$xs,*]) => `(tactic| try simp (implicitDefEqProofs := Zk) only [Nb, YZ, Jj7, Nc, YY, Nd, Jj8, YX, QF, Jon, Jj6, Joo, XM, Qq, Jv, Vh, Qo, Yh, Jtk, Vs, Jvq, Job, Jvn, YH, YU, Jom, Jj4, YV, YD, Jj1, XL, YW, YN, Q2, VQ, Jvc, YR, YI, Jgj, Jgk, Xj, YG, YC, Jol, Joi, YQ, YE, YO, V7, Jj0, Jvk, Jvi, Jvg, Jvf, Jve, Jvl, Joe, Joj, Joc, Jj5, Jok, YF, Jvm, QD, QE, V8, YS, Jof, Joh, Jog, YT, Jgi, Zcv, Zbw, Zay, ZS, Zaz, exists_eq_left, exists_eq_left', IV.bl.injEq, IV.int.injEq, IV.ref.injEq, IV.str.injEq, IX.lst.injEq, IV.tup.injEq, Zbc, Zcn, ZbX, reduceCtorEq, eq_self, true_implies, false_implies, implies_true, and_true, true_and, and_false, false_and, ZbG, Zbx, ZX, Y8, Y4, Y9, Y5, Y6, Y7, VA, V9, VC, QK, VB, Vy, Xh, YJ, JS, JY, QL, VD, YM, YK, YL, $xs,*])
local macro_rules | `(tactic| dsimp! [$xs,*]) => `(tactic| simp (implicitDefEqProofs := Zk) only [Nb, YZ, Jj7, Nc, YY, Nd, Jj8, YX, QF, Jon, Jj6, Joo, XM, Qq, Jv, Vh, Qo, Yh, Jtk, Vs, Jvq, Job, Jvn, YH, YU, Jom, Jj4, YV, YD, Jj1, XL, YW, YN, Q2, VQ, Jvc, YR, YI, Jgj, Jgk, Xj, YG, YC, Jol, Joi, YQ, YE, YO, V7, Jj0, Jvk, Jvi, Jvg, Jvf, Jve, Jvl, Joe, Joj, Joc, Jj5, Jok, YF, Jvm, QD, QE, V8, YS, Jof, Joh, Jog, YT, Jgi, Zcv, Zbw, Zay, ZS, Zaz, $xs,*])
namespace LW
open PySem L2 L3 L4
section
variable {k:Nat}{h:IH}
theorem J8:1000000<sizeLine:=01
theorem XE (o o':IX):List.set (h++[o]) h.length o'=h++[o']:=by
 rw[ZcA _ _ (Zp _),Zes];rfl
theorem XF (o o':IX)(g:IH):List.set (h++o::g) h.length o'=h++o'::g:=by
 rw[ZcA _ _ (Zp _),Zes];rfl
end
section
seal L4.run
section
variable {α β:Type}{σ:ISt}{h h1:IH}{N:ISt->IH->Prop}{R:IV->IH->Prop}{P:IV->IH->Prop}
theorem xb {f:α->IH->Res β}(x:WR r λ a h=>WR (f a h) Q):WR (r.bind f) Q:=(Jv ..).mpr x
theorem xseq (x:WS (a σ h) (λ σ1 h1=>WS (b σ1 h1) N R) R):WS (Jf a b σ h) N R:=(Nb ..).mpr x
theorem xfin {r:SRes}(x:WS r (λ _ h=>P .non h) P):WR r.fin P:=(YF ..).mpr x
theorem xset (x:WR (e σ h) λ v h1=>N (σ.set i (Za v)) h1):WS (Ji i e σ h) N R:=(Nc ..).mpr x
theorem xret (x:WR (e σ h) R):WS (Jk e σ h) N R:=(Nd ..).mpr x
theorem Qr {e:E1}(x:WR (e σ h) λ _ h1=>N σ h1):WS (JG e σ h) N R:=(YX ..).mpr x
theorem xif (x:WR (t σ h) λ c h1=>(c=Zi->WS (a σ h1) N R)/\(c=Zk->WS (b σ h1) N R)):WS (sIf t a b σ h) N R:=(YY ..).mpr x
theorem xeif (x:WR (t σ h) λ c h1=>(c=Zi->WR (a σ h1) P)/\(c=Zk->WR (b σ h1) P)):WR (eIf t a b σ h) P:=(YH ..).mpr x
theorem Xk (x:WR (a σ h) λ c h1=>(c=Zi->WR (b σ h1) Q)/\(c=Zk->Q Zk h1)):WR (Qm a b σ h) Q:=(YU ..).mpr x
theorem xdec [Decidable p](x:p->a)(y:¬p->b):(decide p=Zi->a)/\(decide p=Zk->b):=⟨λ e=>x (of_decide_eq_true e),λ e=>y (of_decide_eq_false e)⟩
theorem xnil (x:N σ h):WS (Jr σ h) N R:=x
theorem xtup (x:WR (a σ h) λ xs h1=>xs.length<=sizeLine/\P (.tup xs) h1):WR (eTup a σ h) P:=(YW ..).mpr x
theorem xlst (x:WR (a σ h) λ xs h1=>xs.length<=sizeLine/\P (.ref h1.length) (h1++[.lst xs])):WR (JD a σ h) P:=(YN ..).mpr x
theorem xixl (g:h[i]?=Za (.lst xs))(e:atI xs n=Za x)(q:P x h):WR (Jg (.ref i) (.int n) h) P:=(Js1 ..).mpr ⟨_,g,_,e,q⟩
theorem xixt (e:atI xs n=Za x)(q:P x h):WR (Jg (.tup xs) (.int n) h) P:=(Xh ..).mpr ⟨_,e,q⟩
theorem J4k (g:h[i]?=Za (.lst xs))(q:P (.int xs.length) h):WR (lenI (.ref i) h) P:=(Jm2 ..).mpr ⟨_,g,q⟩
theorem xmod (l:0<j)(q:P (.int (i%j)) h):WR (Jq (.int i) (.int j) h) P:=(YO ..).mpr ⟨l,q⟩
theorem J4j (l:0<j/\j.natAbs.log2<9000)(q:P (.int (i/j)) h):WR (J7 (.int i) (.int j) h) P:=(YE ..).mpr ⟨l,q⟩
theorem xmul (l:Vj i j)(q:P (.int (i*j)) h):WR (JQ (.int i) (.int j) h) P:=(YQ ..).mpr ⟨l,q⟩
theorem fldE (ho:o σ h=.ok (.ref i) h1)(g:h1[i]?=Za (.ins c fs))(l:fs.lookup f=Za x):Jo f o σ h=.ok x h1:=by
 refine Ju ?_
 rw[YG,ho]
 exact⟨x,(JT g).trans l,rfl,rfl⟩
theorem binE (ea:a σ h=.ok x h1)(eb:b σ h1=.ok y h2):Jb f a b σ h=f x y h2:=by unfold Jb;rw[ea];dsimp only[Res.bind];rw[eb]
theorem arg1 (ea:a σ h=.ok x h1):Jc a Jd σ h=.ok [x] h1:=by unfold Jc;rw[ea];rfl
theorem arg2 (ea:a σ h=.ok x h1)(eb:b σ h1=.ok y h2):Jc a (Jc b Jd) σ h=.ok [x,y] h2:=by unfold Jc;rw[ea];dsimp only[Res.bind];rw[eb];rfl
theorem cbE (ea:a σ h=.ok xs h1):eCB f a σ h=f xs h1:=by unfold eCB;rw[ea];rfl
theorem JO (ea:a σ h=.ok xs h1)(ef:f (xs++d) h1=.ok v h2):Jm f d a σ h=.ok v h2:=by unfold Jm;rw[ea];exact ef
theorem tofE (ea:a σ h=.ok (.bl c) h1):Jh asB a σ h=.ok c h1:=by unfold Jh;rw[ea];rfl
theorem lenE (ea:a σ h=.ok (.ref i) h1)(g:h1[i]?=Za (.lst xs)):eCB (on1 lenI) (Jc a Jd) σ h=.ok (.int xs.length) h1:=by
 rw[cbE (arg1 ea)]
 exact Ju (J4k g ⟨rfl,rfl⟩)
theorem ixlE (ea:a σ h=.ok (.ref i) h1)(eb:b σ h1=.ok (.int n) h2)(g:h2[i]?=Za (.lst xs))(e:atI xs n=Za x):Jb Jg a b σ h=.ok x h2:=by
 rw[binE ea eb]
 exact Ju (xixl g e ⟨rfl,rfl⟩)
theorem ixtE (ea:a σ h=.ok (.tup xs) h1)(eb:b σ h1=.ok (.int n) h2)(e:atI xs n=Za x):Jb Jg a b σ h=.ok x h2:=by
 rw[binE ea eb]
 exact Ju (xixt e ⟨rfl,rfl⟩)
theorem gtE (ea:a σ h=.ok (.int i) h1)(eb:b σ h1=.ok (.int j) h2):Jh asB (Jb cGt a b) σ h=.ok (decide (j<i)) h2:=tofE (binE ea eb)
theorem leE (ea:a σ h=.ok (.int i) h1)(eb:b σ h1=.ok (.int j) h2):Jh asB (Jb cLe a b) σ h=.ok (decide (i<=j)) h2:=tofE (binE ea eb)
theorem ltE (ea:a σ h=.ok (.int i) h1)(eb:b σ h1=.ok (.int j) h2):Jh asB (Jb cLt a b) σ h=.ok (decide (i<j)) h2:=tofE (binE ea eb)
theorem geE (ea:a σ h=.ok (.int i) h1)(eb:b σ h1=.ok (.int j) h2):Jh asB (Jb cGe a b) σ h=.ok (decide (j<=i)) h2:=tofE (binE ea eb)
theorem eqE (ea:a σ h=.ok (.int i) h1)(eb:b σ h1=.ok (.int j) h2):Jh asB (Jb cEq a b) σ h=.ok (decide (i=j)) h2:=tofE (binE ea eb)
theorem addE (ea:a σ h=.ok (.int i) h1)(eb:b σ h1=.ok (.int j) h2):Jb Jj a b σ h=.ok (.int (i+j)) h2:=binE ea eb
theorem subE (ea:a σ h=.ok (.int i) h1)(eb:b σ h1=.ok (.int j) h2):Jb JJ a b σ h=.ok (.int (i-j)) h2:=binE ea eb
theorem arg3 (ea:a σ h=.ok x h1)(eb:b σ h1=.ok y h2)(ec:c σ h2=.ok z h3):Jc a (Jc b (Jc c Jd)) σ h=.ok [x,y,z] h3:=by
 rw[show Jc a (Jc b (Jc c Jd)) σ h=(a σ h).bind λ x h1=>(Jc b (Jc c Jd) σ h1).bind λ xs h2=>.ok (x::xs) h2 from rfl,ea]
 show(Jc b (Jc c Jd) σ h1).bind _=_
 rw[arg2 eb ec]
 rfl
theorem arg4 (ea:a σ h=.ok x h1)(eb:b σ h1=.ok y h2)(ec:c σ h2=.ok z h3)(ed:d σ h3=.ok u h4):Jc a (Jc b (Jc c (Jc d Jd))) σ h=.ok [x,y,z,u] h4:=by
 rw[show Jc a (Jc b (Jc c (Jc d Jd))) σ h=(a σ h).bind λ x h1=>(Jc b (Jc c (Jc d Jd)) σ h1).bind λ xs h2=>.ok (x::xs) h2 from rfl,ea]
 show(Jc b (Jc c (Jc d Jd)) σ h1).bind _=_
 rw[arg3 eb ec ed]
 rfl
theorem modE (ea:a σ h=.ok (.int i) h1)(eb:b σ h1=.ok (.int j) h2)(l:0<j):Jb Jq a b σ h=.ok (.int (i%j)) h2:=(binE ea eb).trans (Ju (xmod l ⟨rfl,rfl⟩))
theorem JI (ea:a σ h=.ok (.int i) h1)(eb:b σ h1=.ok (.int j) h2)(l:0<j)(z:j.natAbs.log2<9000):Jb J7 a b σ h=.ok (.int (i/j)) h2:=(binE ea eb).trans (Ju (J4j ⟨l,z⟩ ⟨rfl,rfl⟩))
theorem mulE (ea:a σ h=.ok (.int i) h1)(eb:b σ h1=.ok (.int j) h2)(l:Vj i j):Jb JQ a b σ h=.ok (.int (i*j)) h2:=(binE ea eb).trans (Ju (xmul l ⟨rfl,rfl⟩))
theorem lstE (ea:a σ h=.ok xs h1)(l:Nat.ble xs.length 1000=Zi):JD a σ h=.ok (.ref h1.length) (h1++[.lst xs]):=Ju (xlst (Je ea ⟨Zak (ZdJ l) (Zak 01 (Zcb J8)),rfl,rfl⟩))
theorem tupE (ea:a σ h=.ok xs h1)(l:Nat.ble xs.length 1000=Zi):eTup a σ h=.ok (.tup xs) h1:=Ju (xtup (Je ea ⟨Zak (ZdJ l) (Zak 01 (Zcb J8)),rfl,rfl⟩))
theorem pkE (ea:a σ h=.ok xs h1)(l:Nat.ble xs.length 1000=Zi)(eb:b σ (h1++[.lst xs])=.ok (.int n) (h1++[.lst xs]))(e:atI xs n=Za x):Jb Jg (JD a) b σ h=.ok x (h1++[.lst xs]):=ixlE (lstE ea l) eb Jp e
theorem maxE (ea:a σ h=.ok (.int i) h1)(eb:b σ h1=.ok (.int j) h2):eCB (on2 maxI) (Jc a (Jc b Jd)) σ h=.ok (.int (if j>i then j else i)) h2:=cbE (arg2 ea eb)
theorem minE (ea:a σ h=.ok (.int i) h1)(eb:b σ h1=.ok (.int j) h2):eCB (on2 minI) (Jc a (Jc b Jd)) σ h=.ok (.int (if j<i then j else i)) h2:=cbE (arg2 ea eb)
theorem dotE {Pg:Pg}{m c:Str}{n i:Nat}{o:E1}{a:A1}{fs:List (Str×IV)}{f:List IV->IH->Res IV}{d xs:List IV}{h2 h3:IH}{v:IV}(e:o σ h=.ok (.ref i) h1)(hi:h1[i]?=Za (.ins c fs))(hf:fs.lookup m=Zc)(hd:Qd Pg m n c=Za (f,d))(ha:a σ h1=.ok xs h2)(hx:f (.ref i::(xs++d)) h2=.ok v h3):Jn Pg m n o a σ h=.ok v h3:=by
 refine Ju ((VP e hi hf hd).mpr (Je ha (Je hx ⟨rfl,rfl⟩)))
theorem xifd [Decidable p](e:t σ h=.ok (decide p) h1)(x:p->WS (a σ h1) N R)(y:¬p->WS (b σ h1) N R):WS (sIf t a b σ h) N R:=xif (Je e (xdec x y))
theorem xiff (e:t σ h=.ok Zk h1)(x:WS (b σ h1) N R):WS (sIf t a b σ h) N R:=xif (Je e ⟨(λ z=>by cases z),λ _=>x⟩)
theorem xift (e:t σ h=.ok Zi h1)(x:WS (a σ h1) N R):WS (sIf t a b σ h) N R:=xif (Je e ⟨λ _=>x,λ z=>by cases z⟩)
theorem xnx (e:r=.next σ1 h1)(x:N σ1 h1):WS r N R:=by rw[e];exact x
theorem xfor (x:WR (it σ h) λ J h1=>WS (Ql J.chk g b J.xs σ h1) N R):WS (sFor it g b σ h) N R:=(XM ..).mpr x
theorem okc {α:Type}{r:Res α}{c d:α}(e:r=.ok c h)(q:c=d):r=.ok d h:=q▸e
theorem isiE (ea:a σ h=.ok v h1)(t:(tyI v h1).bind ans=Za b):eIsi ans a σ h=.ok (.bl b) h1:=Ju ((YI ..).mpr (Je ea ⟨b,t,rfl,rfl⟩))
theorem notE (e:a σ h=.ok c h1):JF a σ h=.ok (!c) h1:=by unfold JF;rw[e];rfl
theorem truE (e:a σ h=.ok (.bl c) h1):Jh tru a σ h=.ok c h1:=by unfold Jh;rw[e];rfl
theorem orF (e:a σ h=.ok Zk h1)(eb:b σ h1=r):tOrI a b σ h=r:=by unfold tOrI;rw[e];exact eb
theorem andT (e:a σ h=.ok Zi h1)(eb:b σ h1=r):Qm a b σ h=r:=by unfold Qm;rw[e];exact eb
theorem andF (e:a σ h=.ok Zk h1):Qm a b σ h=.ok Zk h1:=by unfold Qm;rw[e];rfl
theorem J2t (e:a σ h=.ok (.bl Zi) h1)(eb:b σ h1=r):eAnd a b tru σ h=r:=by unfold eAnd;rw[e];exact eb
theorem chT (ea:a σ h=.ok (.int i) h1)(eb:b σ h1=.ok (.int j) h2)(ec:c σ h2=.ok (.int l) h3)(t1:i<=j)(t2:j<l):Qa cLe cLt a b c σ h=.ok (.bl Zi) h3:=by
 unfold Qa
 rw[ea]
 dsimp only[Res.bind]
 rw[eb]
 show(match IV.bl (decide (i<=j)) with|.bl Zi=>_|.bl Zk=>_|_=>_)=_
 rw[decide_eq_true t1]
 show(c σ h2).bind _=_
 rw[ec]
 show Res.ok (IV.bl (decide (j<l))) h3=_
 rw[decide_eq_true t2]
theorem xrng {e:E1}{g:G1}{b:S1}{n:Nat}(ee:e σ h=.ok (.int (n:Int)) h1)(l:n<1000000)(x:WS (Ql (λ _=>True) g b (rngI 0 (n:Int)) σ h1) N R):WS (sFor (iRg JV (Jc e Jd)) g b σ h) N R:=by
 rw[XM,QE]
 refine Je (arg1 ee) ?_
 rw[V8]
 exact⟨00,x⟩
theorem Jxz (ea:a σ h=.ok (.ref i) h1)(g:h1[i]?=Za (.lst xs)):eCB (on1 Q9) (Jc a Jd) σ h=.ok (.ref h1.length) (h1++[.lst xs]):=by
 rw[cbE (arg1 ea)]
 exact Ju ((Jvj ..).mpr ⟨_,g,rfl,rfl⟩)
theorem Vt (ev:e σ h=.ok v h1)(eo:o σ h1=.ok (.ref i) h1)(g:h1[i]?=Za (.ins c fs))(l:fs.length<1000)(q:N σ (h1.set i (.ins c (putI f v fs)))):WS (JR f o e σ h) N R:=by
 rw[VR]
 exact Je ev (Je eo ⟨i,c,fs,rfl,g,l,q⟩)
theorem J4g (eo:o σ h=.ok (.ref i) h1)(g:h1[i]?=Za (.ins c fs))(l:fs.lookup f=Za (.int a))(ee:e σ h1=.ok (.int b) h2)(g2:h2[i]?=Za (.ins c gs))(z:gs.length<1000)(q:N σ (h2.set i (.ins c (putI f (.int (a+b)) gs)))):WS (XB .Add f o e σ h) N R:=by
 unfold XB
 rw[eo]
 simp only[rS,g,l,ee,L4.ipI,g2,z,if_true]
 exact q
theorem J4h (eo:o σ h=.ok (.ref i) h1)(ek:k σ h1=.ok (.int n) h2)(g:h2[i]?=Za (.lst xs))(ea:atI xs n=Za (.int a))(n0:0<=n)(ee:e σ h2=.ok (.int b) h3)(g3:h3[i]?=Za (.lst ys))(ej:ixN ys.length n=Za j)(q:N σ (h3.set i (.lst (ys.set j (.int (a+b)))))):WS (XC .Add o k e σ h) N R:=by
 unfold XC
 rw[eo]
 simp only[rS,ek,ixL,g,ea,n0,if_true,ee,L4.ipI,setI,g3,ej]
 exact q
theorem XN {Pg:Pg}{m c:Str}{n i:Nat}{o:E1}{a:A1}{fs:List (Str×IV)}{f:List IV->IH->Res IV}{d:List IV}(e:o σ h=.ok (.ref i) h1)(hi:h1[i]?=Za (.ins c fs))(hf:fs.lookup m=Zc)(hd:Qd Pg m n c=Za (f,d))(x:WR (a σ h1) λ vs h2=>WR (f (.ref i::(vs++d)) h2) P):WR (Jn Pg m n o a σ h) P:=(VP e hi hf hd).mpr x
theorem Q3 {Pg:Pg}{m:Str}{n i:Nat}{o:E1}{a:A1}{xs:List IV}{g:IV->List IV->IH->Res IV}(e:o σ h=.ok (.ref i) h1)(hl:h1[i]?=Za (.lst xs))(hg:bmOf "list" m n=Za g)(x:WR (a σ h1) λ vs h2=>WR (g (.ref i) vs h2) P):WR (Jn Pg m n o a σ h) P:=(Jzb e hl hg).mpr x
theorem xapp (g:h[i]?=Za (.lst xs))(l:xs.length<sizeLine)(q:P .non (h.set i (.lst (xs++[y])))):WR (VS (.ref i) [y] h) P:=(Jsx ..).mpr ⟨_,g,l,q⟩
theorem xpop (g:h[i]?=Za (.lst xs))(l:xs[xs.length-1]?=Za y)(q:P y (h.set i (.lst xs.dropLast))):WR (X7 (.ref i) [] h) P:=by
 have e:VH (.ref i) h=Za (i,xs):=by unfold VH;simp only[g]
 unfold X7
 rw[e]
 dsimp only
 rw[l]
 exact q
theorem xrem {i j:Nat}{k:Int}{ns:List Int}(g:h[i]?=Za (.lst (ns.map .int)))(l:ns.findIdx? (· ==k)=Za j)(q:P .non (h.set i (.lst ((ns.map IV.int).eraseIdx j)))):WR (X8 (.ref i) [.int k] h) P:=by
 have e:VH (.ref i) h=Za (i,ns.map .int):=by unfold VH;simp only[g]
 unfold X8
 rw[e]
 dsimp only
 rw[V0]
 dsimp only
 rw[l]
 exact q
theorem Jqj:bmOf "list" "pop" 0=Za X7:=02
theorem Jqk:bmOf "list" "remove" 1=Za X8:=02
end
end
section
variable {k:Nat}{h:IH}
theorem Jqp (ns:List Int)(n:Int)(hn:0<=n):Jaq (k+1) [.rol (ns.map .int),.int n] h=.ok (.int (ns.getD n.toNat 0)) h:=by
 refine Ju ?_
 rw[Jh3]
 simp! [Jcq,Jcr,Zm,decide_eq_true_eq,decide_eq_false_iff_not]
 refine⟨λ hl=>⟨.int (ns.getD n.toNat 0),Jqc hn ?_,rfl⟩,λ hl=>?_⟩
 ·rw[Zt,Ze,Zb (show n.toNat<ns.length by omega)]
  rfl
 ·rw[Ze,Zaw 00]
  rfl
end
section
seal L4.run
section
variable {k:Nat}{h:IH}
theorem Jfr (i:Int):Jc1 (k+1) [.int i] h=.ok (.bl Zi) h:=by rw[Jmh];rfl
theorem Jfi (i j:Int):Vu (k+2) [.int i,.int j] h=.ok (.bl (decide (j<=i))) h:=by
 refine Ju ?_
 rw[Jfx]
 simp! [Jbl,Jfr]
def IsNm (x:Str):Prop:=1<=x.length/\x.length<=8/\∀c∈x.cps.toList,97<=c/\c<=122
theorem J2j:(Zax "a").cps.toList=[97]:=by decide +kernel
theorem J4l:(Zax "z").cps.toList=[122]:=by decide +kernel
theorem Jyw (hc:97<=c/\c<=122):Jbx k [Za (.str ⟨#[c]⟩)] h=.ok (.bl Zi) h:=by
 refine Ju ?_
 have h1:¬([c]<[97]):=λ q=>by
  cases q with
  | rel q=>omega
  | cons q=>cases q
 have h2:¬([122]<[c]):=λ q=>by
  cases q with
  | rel q=>omega
  | cons q=>cases q
 simp only[Jbx,YD,Qo,Yh,Vh,J2d,J2j,J4l,h1,h2,decide_false,exists_eq_left,exists_eq_left',IV.bl.injEq,IV.int.injEq,IV.ref.injEq,IV.str.injEq,IX.lst.injEq,IV.tup.injEq,Zbc,Zcn,ZbX,reduceCtorEq,eq_self,true_implies,false_implies,implies_true,and_true,true_and,and_false,false_and,ZbG,Zbx,ZX,Y8,Y4,Y9,Y5,Y6,Y7,VA,V9,VC,QK,VB,Vy,Xh,YJ,JS,JY,QL,VD,YM,YK,YL]
theorem Jir (hx:IsNm x):WR (Jdt (k+1) [.str x] h) λ v h'=>v=.bl Zi/\Ex h h':=by
 obtain⟨h1,h2,h3⟩:=hx
 have hb:=J8
 have hz:x.length<=sizeLine:=00
 have a1:(1:Int)<=x.length:=00
 have a2:(x.length:Int)<=8:=00
 rw[Jo2]
 simp! [Jgw,Jgx,hz,a1,a2,decide_true]
 refine WR.mono (QC (xs:=Vq x) (chk:=λ _=>True) (f:=λ _=>.bl Zi) (h:=h) ?_ ?_ (λ _ _=>trivial) ?_) ?_
 ·exact⟨rfl,rfl,rfl⟩
 ·have:(Vq x).length=x.length:=by simp[Vq,Str.length]
  omega
 ·intro v hv h2 _
  obtain⟨c,hc,rfl⟩:=ZE.mp hv
  exact Je (Jyw (h3 c hc)) ⟨rfl,.refl _⟩
 ·rintro v h' ⟨rfl,g,rfl⟩
  refine Je (all_map (f:=λ _=>Zi) J1) ⟨?_,.cons ..⟩
  simp
abbrev Hd:=Str×Int×Int
def tupH (a:Hd):IV:=.tup [.str a.1,.int a.2.1,.int a.2.2]
def HdOk (len:Int)(a:Hd):Prop:=IsNm a.1/\0<=a.2.1/\a.2.1<a.2.2/\a.2.2<len
def Tog (a b:Hd):Prop:=a.2.2<=b.2.1∨b.2.2<=a.2.1∨(a.1≠b.1/\((b.2.1<=a.2.1/\a.2.2<=b.2.2)∨(a.2.1<=b.2.1/\b.2.2<=a.2.2)))
theorem Jpb (ha:HdOk len a):WR (Jgn (k+3) [tupH a,.int len] h) λ v h'=>v=.bl Zi/\Ex h h':=by
 obtain⟨h1,h2,h3,h4⟩:=ha
 rw[Jo1]
 have h5:a.2.1+1<=a.2.2:=00
 simp! [Jgt,Jgu,Jgv,tupH,ZD,ZaQ,Jfi]
 refine⟨λ q=>absurd q 01,λ _=>WR.mono (Jir h1) ?_⟩
 rintro v h' ⟨rfl,x⟩
 simp! [decide_eq_true h2,decide_eq_true h4,decide_eq_true h5]
 exact x
theorem Jla (a b:Hd):Jdl (k+1) [tupH a,tupH b] h=.ok (.bl (decide (a.2.2<=b.2.1)||decide (b.2.2<=a.2.1))) h:=by
 refine Ju ?_
 rw[Jk2]
 simp! [Jd6,tupH]
 cases decide (a.2.2<=b.2.1)<;>simp
theorem Jpd (a b:Hd):Jdu (k+1) [tupH a,tupH b] h=.ok (.bl (decide (b.2.1<=a.2.1)&&decide (a.2.2<=b.2.2))) h:=by
 refine Ju ?_
 rw[Jo5]
 simp! [Jgz,tupH]
 cases decide (b.2.1<=a.2.1)<;>simp
theorem Jh6 (t:Tog a b):Jbu (k+2) [tupH a,tupH b] h=.ok (.bl Zi) h:=by
 refine Ju ?_
 rw[Jh2]
 have ix:∀a:Hd,WR (Jg (tupH a) (.int 0) h)=λ P=>P (.str a.1) h:=λ a=>by
  funext P
  simp only[tupH,Xh,exists_eq_left,exists_eq_left',IV.bl.injEq,IV.int.injEq,IV.ref.injEq,IV.str.injEq,IX.lst.injEq,IV.tup.injEq,Zbc,Zcn,ZbX,reduceCtorEq,eq_self,true_implies,false_implies,implies_true,and_true,true_and,and_false,false_and,ZbG,Zbx,ZX,Y8,Y4,Y9,Y5,Y6,Y7,VA,V9,VC,QK,VB,Vy,Xh,YJ,JS,JY,QL,VD,YM,YK,YL]
 simp! [Jcn,Jco,Jcp,Jla,Jpd,ix]
 unfold Tog at t
 simp only[ZaF,ZcK,Zr,Bool.and_eq_false_iff,decide_eq_true_eq,decide_eq_false_iff_not]
 grind
theorem Jm1 {hs:List Hd}{i:Nat}(hi:h[i]?=Za (.lst (hs.map tupH)))(hl:hs.length<=6)(ht:∀m n (hm:m<n)(hn:n<hs.length),Tog hs[n] hs[m]) :
  WR (Jai (k+3) [.ref i] h) λ v h'=>v=.bl Zi/\Ex h h':=by
 have hb:=J8
 rw[Jez]
 simp! [Ja0,Ja1,Jj3,hi]
 refine QG (λ n σ h'=>(∃a b,σ=[Za (.ref i),a,b])/\Ex h h') (λ n σ h' ⟨_,x⟩=>x.get hi) ?_ ?_ ⟨⟨_,_,rfl⟩,.refl h⟩
 ·rintro n hn _ h' ⟨⟨a,b,rfl⟩,x⟩
  have hn':n<hs.length:=by rw[QW,Zm] at hn;exact hn
  rw[Yi]
  simp! [ZP,J2f,J4c,J4d,ZD,ZaQ,Jap]
  have hi':=x.get hi
  refine WR.mono (QC (xs:=(hs.map tupH).take n) (chk:=λ h2=>h2[h'.length]?=Za (.lst ((hs.map tupH).take n))) (f:=λ _=>.bl Zi) (h:=h'++[.lst ((hs.map tupH).take n)]) ?_ ?_ ?_ ?_) ?_
  ·simp! [Js5,hi',Qp,Jtg,Jp]
  ·simp only[Za6,Zm];omega
  ·exact λ h2 q=>q _ _ Jp
  ·intro v hv h2 q
   obtain⟨j,hj,rfl⟩:=ZA.mp hv
   have hj':j<n:=by simp at hj;omega
   simp! [List.getElem_take,ZP,Jam,Z5,Zbv,ZaB,ZaC,ZbH]
   exact Je (Jh6 (ht j n hj' hn')) ⟨rfl,.refl _⟩
  ·rintro v h3 ⟨rfl,g,rfl⟩
   refine Je (all_map (f:=λ _=>Zi) J1) ?_
   have:(((hs.map tupH).take n).all λ _=>Zi)=Zi:=03
   simp! [this]
   exact⟨⟨_,_,rfl⟩,x.trans ((Ex.one _ _).trans (.cons ..))⟩
 ·rintro _ h' ⟨⟨a,b,rfl⟩,x⟩
  exact x
structure HsOk (len:Int)(hs:List Hd):Prop where
 few:hs.length<=6
 each:∀a∈hs,HdOk len a
 tog:∀m n (hm:m<n)(hn:n<hs.length),Tog hs[n] hs[m]
theorem Jld {hs:List Hd}(hi:h[i]?=Za (.lst (hs.map tupH)))(ok:HsOk len hs) :
  WR (XR (k+4) [.ref i,.int len] h) λ v h'=>v=.tup (hs.map tupH)/\Ex h h':=by
 have hb:=J8
 have hl:=ok.few
 have h6:¬(6:Int)<(hs.length:Int):=00
 rw[Jk4]
 simp! [Jd7,Jd8,Jd9,Jea,J2c,isR,isD,Jss hi,Jm2,hi,Zm,h6,decide_false]
 refine WR.mono (QC (xs:=hs.map tupH) (chk:=λ h2=>h2[i]?=Za (.lst (hs.map tupH))) (f:=λ _=>.bl Zi) (h:=h) ?_ ?_ ?_ ?_) ?_
 ·simp! [Qp,hi]
 ·simp only[Zm];omega
 ·exact λ h2 q=>q _ _ hi
 ·intro v hv h2 q
  obtain⟨a,ha,rfl⟩:=ZE.mp hv
  simp! [Jct,Z5,Zbv,ZaB,ZaC,ZbH]
  exact Jpb (ok.each a ha)
 ·rintro v h1 ⟨rfl,g,rfl⟩
  refine Je (all_map (f:=λ _=>Zi) J1) ?_
  have:((hs.map tupH).all λ _=>Zi)=Zi:=03
  simp! [this,Jeb,Jec]
  have x1:Ex h (h++IX.lst (List.map (λ x=>IV.bl Zi) (hs.map tupH))::g):=.cons ..
  refine WR.mono (Jm1 (x1.get hi) hl ok.tog) ?_
  rintro v h2 ⟨rfl,x2⟩
  simp! [true_and]
  have hi2:=x2.get (x1.get hi)
  refine WR.mono (QC (xs:=hs.map tupH) (chk:=λ h3=>h3[i]?=Za (.lst (hs.map tupH))) (f:=λ x=>x) (h:=h2) ?_ ?_ ?_ ?_) ?_
  ·simp! [Qp,hi2]
  ·simp only[Zm];omega
  ·exact λ h2 q=>q _ _ hi2
  ·intro v hv h3 q
   obtain⟨a,ha,rfl⟩:=ZE.mp hv
   simp! [Jcu,tupH,ZD,ZaQ]
   exact⟨00,.refl _⟩
  ·rintro v h3 ⟨rfl,g3,rfl⟩
   simp only[Js7,J1,exists_eq_left,exists_eq_left',IV.bl.injEq,IV.int.injEq,IV.ref.injEq,IV.str.injEq,IX.lst.injEq,IV.tup.injEq,Zbc,Zcn,ZbX,reduceCtorEq,eq_self,true_implies,false_implies,implies_true,and_true,true_and,and_false,false_and,ZbG,Zbx,ZX,Y8,Y4,Y9,Y5,Y6,Y7,VA,V9,VC,QK,VB,Vy,Xh,YJ,JS,JY,QL,VD,YM,YK,YL,List.map_id']
   exact x1.trans (x2.trans (.cons ..))
theorem Jpl (h1:1<=due)(h2:due<=gap):XQ (k+3) [.int due,.int gap] h=.ok (.int due) h:=by
 refine Ju ?_
 rw[Jo6]
 have:¬gap<due:=00
 simp! [Jg0,Jg1,Jg2,J2c,isR,isD,Jfi,decide_eq_true h1,decide_eq_false this]
def wfs (name:Str)(gap len due late:Int)(hs:List IV):List (Str×IV):=[("name",.str name),("gap",.int gap),("length",.int len),("due",.int due),("late",.int late),("hold_tuples",.tup hs)]
section
variable (a b c d e f:IV)
theorem put0:putI "name" a ([]:List (Str×IV))=([("name",a)]:List (Str×IV)):=02
theorem put1:putI "gap" b ([("name",a)]:List (Str×IV))=([("name",a),("gap",b)]:List (Str×IV)):=02
theorem put2:putI "length" c ([("name",a),("gap",b)]:List (Str×IV))=([("name",a),("gap",b),("length",c)]:List (Str×IV)):=02
theorem put3:putI "due" d ([("name",a),("gap",b),("length",c)]:List (Str×IV))=([("name",a),("gap",b),("length",c),("due",d)]:List (Str×IV)):=02
theorem put4:putI "late" e ([("name",a),("gap",b),("length",c),("due",d)]:List (Str×IV))=([("name",a),("gap",b),("length",c),("due",d),("late",e)]:List (Str×IV)):=02
theorem put5:putI "hold_tuples" f ([("name",a),("gap",b),("length",c),("due",d),("late",e)]:List (Str×IV))=([("name",a),("gap",b),("length",c),("due",d),("late",e),("hold_tuples",f)]:List (Str×IV)):=02
variable {name:Str}{gap len due late:Int}{hs:List IV}
theorem fl0:(wfs name gap len due late hs).lookup ("name":Str)=Za (.str name):=02
theorem fl1:(wfs name gap len due late hs).lookup ("gap":Str)=Za (.int gap):=02
theorem fl2:(wfs name gap len due late hs).lookup ("length":Str)=Za (.int len):=02
theorem fl3:(wfs name gap len due late hs).lookup ("due":Str)=Za (.int due):=02
theorem fl4:(wfs name gap len due late hs).lookup ("late":Str)=Za (.int late):=02
theorem fl5:(wfs name gap len due late hs).lookup ("hold_tuples":Str)=Za (.tup hs):=02
theorem flh:(wfs name gap len due late hs).lookup ("held":Str)=Zc:=02
end
theorem Jsv {gap len due late:Int}{dv hv:IV}{hs:List IV}(hw:h[w]?=Za (.ins "Work" []))(hn:IsNm name)(hg:1<=gap)(hl:1<=len)(ht:0<=late) 
  (hd:∀h1,XQ (k+4) [dv,.int gap] h1=.ok (.int due) h1)(hh:∀h1:IH,(∀(j:Nat)(o:IX),j≠w->h[j]?=Za o->h1[j]?=Za o)->WR (XR (k+4) [hv,.int len] h1) λ v h2=>v=.tup hs/\Ex h1 h2) :
  WR (Jbs (k+5) [.ref w,.str name,.int gap,.int len,dv,.int late,hv] h) λ v h'=>v=.non/\∃g,h'=h.set w (.ins "Work" (wfs name gap len due late hs))++g:=by
 rw[Jkx]
 refine xfin (xseq (xif (xb (xb (xb (Je (arg1 rfl) (WR.mono (Jir hn) ?_)))))))
 rintro v h1 ⟨rfl,g1,rfl⟩
 have lw:=J4 hw
 have s1:∀{o:IX},(h++g1).set w o=h.set w o++g1:=by intro o;rw[Za3 (h:=lw)]
 have at1:∀{o:IX},(h.set w o++g1)[w]?=Za o:=by
  intro o
  rw[ZC (by rw[Zbf];exact lw),ZW lw]
 have s2:∀{o o':IX},(h.set w o++g1).set w o'=h.set w o'++g1:=by intro o o';rw[Za3 (h:=by rw[Zbf];exact lw),ZdA]
 have ok:∀{σ:ISt}{e1 e2:E1}{a b:Int}{hh:IH},e1 σ hh=.ok (.int a) hh->e2 σ hh=.ok (.int b) hh->b<=a->JF (Jh tru (Jm (Vu (k+4)) [] (Jc e1 (Jc e2 Jd)))) σ hh=.ok Zk hh:=λ h1 h2 l=>okc (notE (truE (JO (arg2 h1 h2) (Jfi _ _)))) (by rw[decide_eq_true l];rfl)
 refine Je rfl (Je rfl ⟨(λ z=>by cases z),λ _=>xnil (xseq (xiff (ok rfl rfl hg) (xnil (xseq (xiff (ok rfl rfl hl) (xnil (xseq (xiff (ok rfl rfl ht) (xnil (xseq (Vt rfl rfl (grow hw) 01 ?_)))))))))))⟩)
 rw[s1,put0]
 refine xseq (Vt rfl rfl at1 (by show(1:Nat)<1000;decide) ?_)
 rw[s2,put1]
 refine xseq (Vt rfl rfl at1 (by show(2:Nat)<1000;decide) ?_)
 rw[s2,put2]
 refine xseq (Vt (JO (arg2 rfl rfl) (hd _)) rfl at1 (by show(3:Nat)<1000;decide) ?_)
 rw[s2,put3]
 refine xseq (Vt rfl rfl at1 (by show(4:Nat)<1000;decide) ?_)
 rw[s2,put4]
 unfold Jd4
 rw[VR]
 refine xb (Je (arg2 rfl rfl) (WR.mono (hh _ λ j o hj e=>?_) ?_))
 ·refine grow ?_
  rw[Zaa (ZR hj)]
  exact e
 ·rintro v h2 ⟨rfl,g2,rfl⟩
  refine Je rfl ⟨w,_,_,rfl,grow at1,by show(5:Nat)<1000;decide,rfl,g1++g2,?_⟩
  rw[Za3 (h:=J4 at1),s2,put5,ZZ]
  rfl
theorem Jx1 {gap len due late:Int}{dv hv:IV}{hs:List IV}(hn:IsNm name)(hg:1<=gap)(hl:1<=len)(ht:0<=late) 
  (hd:∀h1,XQ (k+4) [dv,.int gap] h1=.ok (.int due) h1)(hh:∀h1:IH,(∀(j:Nat)(o:IX),h[j]?=Za o->h1[j]?=Za o)->WR (XR (k+4) [hv,.int len] h1) λ v h2=>v=.tup hs/\Ex h1 h2) :
  WR (Jbs (k+5) [.ref h.length,.str name,.int gap,.int len,dv,.int late,hv] (h++[.ins "Work" []])) λ v h'=>v=.non/\∃g,h'=h++.ins "Work" (wfs name gap len due late hs)::g:=by
 refine WR.mono (Jsv Jp hn hg hl ht hd λ h1 q=>hh h1 λ j o e=>q j o (by have:=J4 e;omega) (grow e)) ?_
 rintro v h' ⟨rfl,g,rfl⟩
 exact⟨rfl,g,by rw[XE];simp⟩
end
end
section
variable {k:Nat}{h:IH}
theorem Je6 (hw:h[w]?=Za (.ins "Work" (wfs name gap len due late hs))):Jdg (k+1) [.ref w] h=.ok (.ref h.length) (h++[.lst hs]):=by
 refine Ju ?_
 rw[Jkw]
 simp! [Jd3,JT hw,fl5]
end
structure WD where
 name:Str
 gap:Int
 len:Int
 due:Int
 late:Int
def IsW (h:IH)(v:IV)(d:WD):Prop:=∃i hs,v=.ref i/\h[i]?=Za (.ins "Work" (wfs d.name d.gap d.len d.due d.late hs))
theorem IsW.kp (k:Kp h h')(w:IsW h v d):IsW h' v d:=by
 obtain⟨i,hs,e,q⟩:=w
 exact⟨i,hs,e,k _ _ q⟩
structure AllW (h:IH)(vs:List IV)(ds:List WD):Prop where
 len:vs.length=ds.length
 at_:∀(i:Nat) v d,vs[i]?=Za v->ds[i]?=Za d->IsW h v d
theorem AllW.kp (k:Kp h h')(w:AllW h vs ds):AllW h' vs ds:=⟨w.len,λ i v d a b=>(w.at_ i v d a b).kp k⟩
theorem AllW.of (w:AllW h vs ds)(hv:v∈vs):∃d∈ds,IsW h v d:=by
 obtain⟨i,hi,rfl⟩:=ZA.mp hv
 have hi':i<ds.length:=by rw[<- w.len];exact hi
 exact⟨ds[i],Zz hi',w.at_ i _ _ (Zb hi) (Zb hi')⟩
def fOf (f:Str)(h:IH)(v:IV):IV:=(QX f v h).getD .non
theorem AllW.mapF (w:AllW h vs ds){F:IV->IV}{g:WD->IV}(hf:∀(i:Nat) (d:WD) hs,h[i]?=Za (.ins "Work" (wfs d.name d.gap d.len d.due d.late hs))->F (.ref i)=g d):vs.map F=ds.map g:=by
 refine Zbq λ i=>?_
 rw[Zt,Zt]
 by_cases hi:i<vs.length
 ·have hi':i<ds.length:=by rw[<- w.len];exact hi
  rw[Zb hi,Zb hi']
  obtain⟨j,hs,e,q⟩:=w.at_ i _ _ (Zb hi) (Zb hi')
  simp only[ZdC,Zbc]
  rw[e,hf j _ hs q]
 ·have hi':¬i<ds.length:=by rw[<- w.len];exact hi
  rw[Zaw 00,Zaw 00]
  rfl
section
variable {k:Nat}{h:IH}
theorem Juo:Jvs ["Work"] (.ins "Work")=Za Zi:=02
theorem Jle {vs:List IV}{ds:List WD}{i:Nat}(hi:h[i]?=Za (.lst vs))(w:AllW h vs ds)(nd:(ds.map (·.name)).Nodup)(hl:ds.length<=20) :
  WR (Jdn (k+1) [.ref i] h) λ v h'=>v=.tup vs/\Ex h h':=by
 have hb:=J8
 have wl:=w.len
 rw[Jk5]
 simp! [Jed,Jee,Jss hi]
 refine WR.mono (QC (h:=h) (xs:=vs) (chk:=λ h'=>h'[i]?=Za (.lst vs)) (f:=λ _=>.bl Zi) ?_ 00 (λ h2 q=>q _ _ hi) ?_) ?_
 ·simp! [Qp,hi]
 ·intro v hv h2 q
  obtain⟨d,_,j,hs,rfl,e⟩:=w.of hv
  have ty:tyI (.ref j) h2=Za (.ins "Work"):=by simp[tyI,q _ _ e]
  simp! [Jcv,ty,Juo]
  exact .refl _
 ·rintro _ _ ⟨rfl,g,rfl⟩
  have x1:Ex h (h++IX.lst (vs.map λ _=>.bl Zi)::g):=.cons _ _ _
  rw[all_map (f:=λ _=>Zi) J1]
  generalize h++IX.lst (vs.map λ _=>.bl Zi)::g=h1 at x1
  have at1:(vs.all λ _=>Zi)=Zi:=03
  simp! [at1,Jef,Js3]
  have w1:=w.kp x1.kp
  have nm:=w1.mapF (F:=fOf "name" h1) (g:=λ d=>.str d.name) λ j d hs e=>by rw[fOf,JT e,fl0];rfl
  refine WR.mono (QC (h:=h1) (xs:=vs) (chk:=λ h'=>h'[i]?=Za (.lst vs)) (f:=fOf "name" h1) ?_ 00 (λ h2 q=>q _ _ (x1.get hi)) ?_) ?_
  ·simp! [Qp,x1.get hi]
  ·intro v hv h2 q
   obtain⟨d,_,j,hs,rfl,e⟩:=w1.of hv
   simp! [Jcw,JT (q _ _ e),fl0,fOf,JT e,Zdx]
   exact .refl _
  ·rintro _ _ ⟨rfl,g2,rfl⟩
   rw[nm]
   have em:ds.map (λ d=>IV.str d.name)=(ds.map (·.name)).map IV.str:=03
   rw[em]
   have x2:Ex h1 (h1++IX.lst ((ds.map (·.name)).map IV.str)::g2):=.cons _ _ _
   refine⟨_,rfl,_,J1,ds.map (·.name),Jn5 _,by rw[Zm];unfold Zcc;omega,?_⟩
   rw[Jkl nd _ (Zp _)]
   simp! [Jm2,x2.get (x1.get hi),Zm,wl,decide_true,Jeg,Js7]
   exact x1.trans x2
def rup (top bottom:Int):Int:=(top+bottom-1)/bottom
def topD (ds:List WD):Int:=if ds.map (·.due)=[] then 0 else JX (λ i=>(ds.map (·.due)).getD i 0) (ds.map (·.due)).length
def Jne (ds:List WD):Int:=(ds.map λ d=>rup (topD ds+d.late) d.gap).sum
def rOf (T:Int)(h:IH)(v:IV):IV:=match QX "late" v h,QX "gap" v h with
 | some (.int l),Za (.int g)=>.int (rup (T+l) g)
 | _,_=>.non
theorem Jlg (hb:0<b)(hl:b.natAbs.log2<9000):Jbw (k+1) [.int a,.int b] h=.ok (.int (rup a b)) h:=by
 refine Ju ?_
 rw[Jk6]
 simp! [Jeh,hb,hl,rup]
theorem Jtf (w:AllW h vs ds)(hl:ds.length<=20)(hg:∀d∈ds,0<d.gap/\d.gap.natAbs.log2<9000) :
  WR (Je7 (k+2) [.tup vs] h) λ v h'=>v=.int (Jne ds)/\Ex h h':=by
 have hb:=J8
 have wl:=w.len
 rw[Jmg]
 simp! [Jfn,Jzd]
 have dm:=w.mapF (F:=fOf "due" h) (g:=λ d=>.int d.due) λ j d hs e=>by rw[fOf,JT e,fl3];rfl
 refine WR.mono (QC (h:=h) (xs:=vs) (chk:=λ _=>True) (f:=fOf "due" h) ?_ 00 (λ _ _=>trivial) ?_) ?_
 ·simp! [true_and]
 ·intro v hv h2 q
  obtain⟨d,_,j,hs,rfl,e⟩:=w.of hv
  simp! [Jdc,JT (q _ _ e),fl3,fOf,JT e,Zdx]
  exact .refl _
 ·rintro _ _ ⟨rfl,g,rfl⟩
  rw[dm]
  have em:ds.map (λ d=>IV.int d.due)=(ds.map (·.due)).map IV.int:=03
  rw[em]
  have x1:Ex h (h++IX.lst ((ds.map (·.due)).map IV.int)::g):=.cons _ _ _
  refine⟨_,rfl,_,J1,_,V0 _,?_⟩
  have et:maxD (ds.map (·.due)) (.int 0)=.int (topD ds):=by
   unfold maxD topD
   split<;>rfl
  rw[et]
  generalize h++IX.lst ((ds.map (·.due)).map IV.int)::g=h1 at x1
  have w1:=w.kp x1.kp
  simp! [Jfo]
  have rm:=w1.mapF (F:=rOf (topD ds) h1) (g:=λ d=>.int (rup (topD ds+d.late) d.gap)) λ j d hs e=>by rw[rOf,JT e,JT e,fl4,fl1]
  refine WR.mono (QC (h:=h1) (xs:=vs) (chk:=λ _=>True) (f:=rOf (topD ds) h1) ?_ 00 (λ _ _=>trivial) ?_) ?_
  ·simp! [true_and]
  ·intro v hv h2 q
   obtain⟨d,hd,j,hs,rfl,e⟩:=w1.of hv
   have e2:=q _ _ e
   simp only[Z5,Zbv,ZaB,ZaC,ZbH]
   simp! [Jdd,JT e2,fl4,fl1,Jlg (hg d hd).1 (hg d hd).2]
   exact⟨by rw[rOf,JT e,JT e,fl4,fl1],.refl _⟩
  ·rintro _ _ ⟨rfl,g2,rfl⟩
   rw[rm]
   have em2:ds.map (λ d=>IV.int (rup (topD ds+d.late) d.gap))=(ds.map λ d=>rup (topD ds+d.late) d.gap).map IV.int:=03
   rw[em2]
   simp! [Js6,J1,V0]
   exact⟨rfl,x1.trans (.cons _ _ _)⟩
abbrev dfs (vs:List IV):List (Str×IV):=[("works",.tup vs)]
theorem dp0:putI "works" a ([]:List (Str×IV))=([("works",a)]:List (Str×IV)):=02
theorem dl0:(([("works",a)]:List (Str×IV))).lookup ("works":Str)=Za a:=02
theorem dlw:(([("works",a)]:List (Str×IV))).lookup ("work":Str)=Zc:=02
theorem Jqw {vs:List IV}{ds:List WD}{i:Nat}(hi:h[i]?=Za (.lst vs))(w:AllW h vs ds)(nd:(ds.map (·.name)).Nodup)(hl:ds.length<=12)(hg:∀d∈ds,0<d.gap/\d.gap.natAbs.log2<9000)(hc:Jne ds<=80) :
  WR (Jbr (k+3) [.ref h.length,.ref i] (h++[.ins "Duty" []])) λ v h'=>v=.non/\∃g,h'=h++.ins "Duty" (dfs vs)::g:=by
 have wl:=w.len
 rw[Jkt]
 simp! [Jdy,VR]
 refine WR.mono (Jle (grow hi) (w.kp (Ex.one h _).kp) nd 00) ?_
 rintro _ _ ⟨rfl,g1,rfl⟩
 refine⟨_,_,_,rfl,grow Jp,01,?_⟩
 rw[dp0,ZZ,ZS,Zaz,XF]
 simp! [Jdz,JT (J1 (h:=h)),dl0,wl]
 refine⟨λ q=>?_,λ _=>?_⟩
 ·rw[decide_eq_true_eq] at q
  omega
 simp! [Jd0,JT (J1 (h:=h)),dl0]
 refine WR.mono (Jtf (w.kp (Ex.cons h _ _).kp) 00 hg) ?_
 rintro _ _ ⟨rfl,g2,rfl⟩
 simp! [true_and]
 refine⟨λ q=>?_,λ _=>⟨g1++g2,03⟩⟩
 rw[decide_eq_true_eq] at q
 omega
theorem Jg7 (hD:h[D]?=Za (.ins "Duty" (dfs vs)))(hx:atI vs n=Za x):Jdf (k+1) [.ref D,.int n] h=.ok x h:=by
 refine Ju ?_
 rw[Jkv]
 simp! [Jd2,JT hD,dl0,hx]
end
theorem Jsc (hb:0<b)(h:a<=m*b):rup a b<=m:=by
 unfold rup
 have:(a+b-1)/b<m+1:=by
  rw[Int.ediv_lt_iff_lt_mul hb,ZdR]
  omega
 omega
theorem Jsq (m:Int):∀l:List Int,(∀x∈l,x<=m)->l.sum<=l.length*m
 | [],_=>03
 | x::l,q=>by
  have:=Jsq m l λ y hy=>q y (Zl _ hy)
  have:=q x (Zx ..)
  rw[Zbl,ZD,Int.natCast_add,ZdR]
  simp
  omega
theorem Jt8 {a b K:Nat}(h:a<=b)(hb:b.log2<K):a.log2<K:=by
 by_cases ha:a=0
 ·subst ha
  exact Nat.lt_of_le_of_lt (Zac _) hb
 ·have hb0:b≠0:=00
  rw[Nat.log2_lt ha]
  exact Nat.lt_of_le_of_lt h ((Nat.log2_lt hb0).mp hb)
theorem Jmm {x:Int}(h0:0<=x)(h:x<=10^60):x.natAbs.log2<9000:=by
 refine Jt8 (b:=10^60) ?_ (by decide +kernel)
 have e:((10^60:Nat):Int)=10^60:=by decide +kernel
 generalize (10^60:Int)=y at *
 generalize (10^60:Nat)=z at *
 omega
theorem half {a b g:Int}(h:0<g):0<=a%2*(b%g)/\a%2*(b%g)<g:=by
 have b1:=Zan b (b:=g) 00
 have b2:=ZY b h
 have:a%2=0∨a%2=1:=00
 rcases this with e|e<;>rw[e]
 ·omega
 ·omega
theorem at_x {xs:List Int}{n:Nat}(hn:n<xs.length):∃x,atI (xs.map IV.int) (n:Int)=Za (.int x):=⟨xs[n],JC (by rw[Zt,Zb hn];rfl)⟩
abbrev RH:=WD×List Hd
def rd:RH:=⟨⟨⟨#[]⟩,0,0,0,0⟩,[]⟩
abbrev wo (r:RH):IX:=.ins "Work" (wfs r.1.name r.1.gap r.1.len r.1.due r.1.late (r.2.map tupH))
structure AllH (h:IH)(vs:List IV)(rs:List RH):Prop where
 len:vs.length=rs.length
 at_:∀(i:Nat) v r,vs[i]?=Za v->rs[i]?=Za r->∃j,v=.ref j/\h[j]?=Za (wo r)
theorem AllH.kp (k:Kp h h')(w:AllH h vs rs):AllH h' vs rs:=⟨w.len,λ i v r a b=>let ⟨j,e,g⟩:=w.at_ i v r a b;⟨j,e,k _ _ g⟩⟩
theorem AllH.w {h:IH}{vs:List IV}{rs:List RH}(w:AllH h vs rs):AllW h vs (rs.map (·.1)):=by
 refine⟨by rw[Zm];exact w.len,λ i v d a b=>?_⟩
 rw[Zt] at b
 cases er:rs[i]? with
 | none=>rw[er] at b;cases b
 | some r =>
  rw[er] at b
  cases b
  obtain⟨j,e,g⟩:=w.at_ i v r a er
  exact⟨j,_,e,g⟩
theorem AllH.get (w:AllH h vs rs){n:Nat}(e:rs[n]?=Za r):∃j,vs[n]?=Za (.ref j)/\h[j]?=Za (wo r):=by
 have hn:n<vs.length:=by rw[w.len];exact(Zq.mp e).1
 obtain⟨j,e1,g⟩:=w.at_ n _ r (Zb hn) e
 exact⟨j,by rw[Zb hn,e1],g⟩
structure F8 (unit:Int)(r:RH):Prop where
 g1:unit<=r.1.gap
 g2:r.1.gap<=8*unit+4
 l1:1<=r.1.len
 l2:r.1.len<=2*r.1.gap+1
 d1:1<=r.1.due
 d2:r.1.due<=r.1.gap
 t1:0<=r.1.late
 t2:r.1.late<=r.1.gap+r.1.gap/2
 ok:HsOk r.1.len r.2
structure Gd (unit:Int)(rs:List RH):Prop where
 u1:1<=unit
 u2:unit<=1000000000000000
 few:rs.length<=5
 f:∀r∈rs,F8 unit r
 nd:(rs.map λ r=>r.1.name).Nodup
theorem Jzq {unit:Int}{rs:List RH}(G:Gd unit rs):Jne (rs.map (·.1))<=80:=by
 have hu:=G.u1
 have hf:=G.f
 have hl:=G.few
 have ht:topD (rs.map (·.1))<=8*unit+4:=by
  unfold topD
  split
  ·omega
  ·rename_i hne
   refine Jwm _ _ _ (by rw[Zm,Zm];cases rs with|nil=>exact absurd rfl hne|cons _ _=>simp) λ j hj=>?_
   rw[Zm,Zm] at hj
   have e:((rs.map (·.1)).map (·.due)).getD j 0=(rs[j]).1.due:=by
    rw[Ze,Zt,Zt,Zb hj];rfl
   have f:=hf _ (Zz hj)
   have f1:=f.d2
   have f2:=f.g2
   show((rs.map (·.1)).map (·.due)).getD j 0<=_
   rw[e]
   omega
 have:=Jsq 14 ((rs.map (·.1)).map λ d=>rup (topD (rs.map (·.1))+d.late) d.gap) λ x hx=>by
  obtain⟨d,hd,rfl⟩:=ZE.mp hx
  obtain⟨r,hr,rfl⟩:=ZE.mp hd
  have f:=hf r hr
  have f1:=f.g1
  have f2:=f.t2
  exact Jsc 00 00
 rw[Zm,Zm] at this
 unfold Jne
 omega
theorem Gd.gl {unit:Int}{rs:List RH}(G:Gd unit rs):∀d∈rs.map (·.1),0<d.gap/\d.gap.natAbs.log2<9000:=λ d hd=>by
 obtain⟨r,hr,rfl⟩:=ZE.mp hd
 have f:=G.f r hr
 have f1:=f.g1
 have f2:=f.g2
 have u1:=G.u1
 have u2:=G.u2
 have t60:(9000000000000000:Int)<=10^60:=by decide +kernel
 exact⟨00,Jmm 00 00⟩
def IsDu (h:IH)(D:Nat)(rs:List RH):Prop:=∃vs,h[D]?=Za (.ins "Duty" (dfs vs))/\AllH h vs rs
theorem IsDu.kp (k:Kp h h')(w:IsDu h D rs):IsDu h' D rs:=let ⟨vs,a,b⟩:=w;⟨vs,k _ _ a,b.kp k⟩
section
variable {k:Nat}{h:IH}
theorem J2s (hi:h[i]?=Za (.lst vs))(w:AllH h vs rs)(G:Gd unit rs) :
  WR (Jbr (k+3) [.ref h.length,.ref i] (h++[.ins "Duty" []])) λ v h'=>v=.non/\Ex h h'/\IsDu h' h.length rs:=by
 have hl:=G.few
 refine WR.mono (Jqw hi w.w (by have:=G.nd;rwa [Zbm]) (by rw[Zm];omega) G.gl (Jzq G)) ?_
 rintro _ _ ⟨rfl,g,rfl⟩
 exact⟨rfl,.cons _ _ _,vs,J1,w.kp (Ex.cons _ _ _).kp⟩
end
theorem Yj {h h':IH}(k:Kp h h'):Ex h h':=by
 refine⟨h'.drop h.length,Zbq λ i=>?_⟩
 by_cases hi:i<h.length
 ·rw[ZC hi,Zb hi]
  exact k i _ (Zb hi)
 ·rw[Z9 00,List.getElem?_drop]
  congr 1
  omega
structure Cm where
 at_:Nat
 come:Int
 late:Int
 len:Int
abbrev tupC (c:Cm):IV:=.tup [.int c.at_,.int c.come,.int c.late,.int c.len]
structure COk (rs:List RH)(c:Cm):Prop where
 at_:c.at_<rs.length
 come:0<=c.come
 l0:0<=c.late
 l1:c.late<=(rs[c.at_]).1.late
 n1:1<=c.len
 n2:c.len<=(rs[c.at_]).1.len
structure Legal (rs:List RH)(cs:List Cm):Prop where
 ok:∀c∈cs,COk rs c
 far:∀(i j:Nat)(a b:Cm),i<j->cs[i]?=Za a->cs[j]?=Za b->a.at_=b.at_->∀r,rs[a.at_]?=Za r->a.come+r.1.gap<=b.come
abbrev tp5 (r:RH)(q:Nat):List IV:=[.int r.1.gap,.int r.1.len,.int r.1.due,.int r.1.late,.ref q]
structure RowsH (h:IH)(ys:List IV)(rs:List RH):Prop where
 len:ys.length=rs.length
 at_:∀(i:Nat) y r,ys[i]?=Za y->rs[i]?=Za r->∃q,y=.tup (tp5 r q)/\h[q]?=Za (.lst (r.2.map tupH))
theorem RowsH.kp (k:Kp h h')(w:RowsH h ys rs):RowsH h' ys rs:=⟨w.len,λ i y r a b=>let ⟨q,e,g⟩:=w.at_ i y r a b;⟨q,e,k _ _ g⟩⟩
theorem RowsH.get (w:RowsH h ys rs)(hn:n<rs.length):∃q,atI ys (n:Int)=Za (.tup (tp5 rs[n] q))/\h[q]?=Za (.lst (rs[n].2.map tupH)):=by
 have hn':n<ys.length:=by rw[w.len];exact hn
 obtain⟨q,e,g⟩:=w.at_ n _ _ (Zb hn') (Zb hn)
 exact⟨q,JC (by rw[Zb hn',e]),g⟩
section
seal L4.run L4.WS
section
variable {k:Nat}{h:IH}
theorem e45 (σ:ISt)(h:IH):Jb JL (eC (.int 10)) (eC (.int 45)) σ h=.ok (.int (10^45)) h:=Ju (by
 rw[Vs,Qo,Qo,V7]
 exact⟨01,rfl,rfl⟩)
theorem e30 (σ:ISt)(h:IH):Jb JL (eC (.int 10)) (eC (.int 30)) σ h=.ok (.int (10^30)) h:=Ju (by
 rw[Vs,Qo,Qo,V7]
 exact⟨01,rfl,rfl⟩)
theorem e18 (σ:ISt)(h:IH):Jb Jj (Jb JL (eC (.int 10)) (eC (.int 18))) (eC (.int 9)) σ h=.ok (.int 1000000000000000009) h:=Ju (by
 rw[Vs,Vs,Qo,Qo,V7]
 refine⟨01,?_⟩
 rw[Qo,YC]
 exact⟨congrArg IV.int (by decide +kernel),rfl⟩)
theorem Jl0 (c:Int)(m:Nat)(hm:m<=40):WR (Ja5 (k+1) [.int c,.int m] h) λ v h'=>∃(i:Nat)(xs:List Int),v=.ref i/\h.length<=i/\h'[i]?=Za (.lst (xs.map .int))/\xs.length=m/\(∀x∈xs,(0:Int)<=x/\x<10^45)/\Ex h h':=by
 have hb:=J8
 have p45:(0:Int)<10^45:=by decide +kernel
 have le:(1000000000000000009:Int)<=10^45:=by decide +kernel
 obtain⟨T,eT⟩:∃T:Int,∀σ h,Jb JL (eC (.int 10)) (eC (.int 30)) σ h=.ok (.int T) h:=⟨_,e30⟩
 obtain⟨G,eG,gG⟩:∃G:Int,(∀σ h,Jb Jj (Jb JL (eC (.int 10)) (eC (.int 18))) (eC (.int 9)) σ h=.ok (.int G) h)/\G=1000000000000000009:=⟨_,e18,rfl⟩
 obtain⟨F,eF,F0,Fl,Fe⟩:∃F:Int,(∀σ h,Jb JL (eC (.int 10)) (eC (.int 45)) σ h=.ok (.int F) h)/\0<F/\F.natAbs.log2<9000/\F=10^45:=⟨_,e45,p45,by decide +kernel,rfl⟩
 rw[<- Fe] at le ⊢
 clear Fe p45
 rw[Jjj]
 refine xfin (xseq (xset (Je (lstE rfl rfl) (xseq (xifd (geE rfl (eT _ _)) (λ _=>xseq (xset (Je (subE rfl (eT _ _)) (xseq (xrng rfl 00 ?_))))) λ _=>xnil (xseq (xset (Je (addE (modE rfl (eG _ _) 00) rfl) (xseq (xrng (n:=m+2) (okc (addE rfl rfl) rfl) 00 ?_))))))))))
 ·refine QG (λ n σ h'=>∃xs rest a b,h'=h++[.lst (xs.map IV.int)]/\σ=[Za (.int c),Za (.int (m:Int)),Za (.ref h.length),Za (.int rest),a,b]/\xs.length=n/\∀x∈xs,(0:Int)<=x/\x<F)
   (λ _ _ _ _=>trivial) ?_ ?_ ⟨[],_,_,_,rfl,rfl,rfl,03⟩
  ·rintro n hn _ _ ⟨xs,rest,a,b,rfl,rfl,lx,hx⟩
   rw[JA] at hn
   have e1:=Zan rest (b:=F) 00
   have e2:=ZY rest F0
   refine xnx rfl (xseq (Qr (Q3 rfl Jp Vm (Je (arg1 (modE rfl (eF _ _) F0)) (xapp Jp (by rw[Zm];omega) (xset (Je (JI rfl (eF _ _) F0 Fl) ⟨xs++[rest%F],_,_,_,?_,rfl,by simp[lx],λ x hxx=>?_⟩)))))))
   ·rw[XE]
    simp
   ·rw[ZV,Zv] at hxx
    rcases hxx with hxx|rfl
    ·exact hx x hxx
    ·exact⟨e1,e2⟩
  ·rintro _ _ ⟨xs,rest,a,b,rfl,rfl,lx,hx⟩
   rw[JA] at lx
   exact xret (Je rfl ⟨_,xs,rfl,Zp _,Jp,00,hx,.one _ _⟩)
 ·have s0:=Zan c (b:=G) 00
  have s1:=ZY c (b:=G) 00
  refine QG (λ n σ h'=>∃xs num a b,h'=h++[.lst (xs.map IV.int)]/\σ=[Za (.int c),Za (.int (m:Int)),Za (.ref h.length),a,b,Za (.int num)]/\(0<=num/\num<2000000000000000000)/\xs.length=n/\∀x∈xs,(0:Int)<=x/\x<G)
   (λ _ _ _ _=>trivial) ?_ ?_ ⟨[],_,_,_,rfl,rfl,00,rfl,03⟩
  ·rintro n hn _ _ ⟨xs,num,a,b,rfl,rfl,hnum,lx,hx⟩
   rw[Qk]
   rw[JA] at hn
   have e1:=Zan (num*num+48271*num+(0+(n:Int))) (b:=G) 00
   have e2:=ZY (num*num+48271*num+(0+(n:Int))) (b:=G) 00
   refine xnx rfl (xseq (xset (Je (modE (addE (addE (mulE rfl rfl (.inl 00)) (mulE rfl rfl (.inl 01))) rfl) (eG _ _) 00) (Qr (Q3 rfl Jp Vm (Je (arg1 rfl) (xapp Jp (by rw[Zm];omega) ⟨xs++[(num*num+48271*num+(0+(n:Int)))%G],_,_,_,?_,rfl,00,by simp[lx],λ x hxx=>?_⟩)))))))
   ·rw[XE]
    simp
   ·rw[ZV,Zv] at hxx
    rcases hxx with hxx|rfl
    ·exact hx x hxx
    ·exact⟨e1,e2⟩
  ·rintro _ _ ⟨xs,num,a,b,rfl,rfl,hnum,lx,hx⟩
   rw[JA] at lx
   refine xret ((Xj ..).mpr (Je rfl (Je rfl (Je rfl ((Js5 ..).mpr ⟨_,Jp,?_⟩)))))
   rw[show(Za (2:Int))=Za ((2:Nat):Int) from rfl,Jnf,<-Zec]
   refine⟨_,xs.drop 2,rfl,03,Jp,by simp;omega,λ x hxx=>?_,(Ex.one _ _).trans (.one _ _)⟩
   have:=hx x (List.mem_of_mem_drop hxx)
   omega
end
end
section
variable {k:Nat}{h:IH}
theorem Jm0 (e:h[i]?=Za (.lst xs)):toD h (n+1) (.ref i)=(xs.mapM (toD h n)).map ZcJ:=by
 show(match h[i]? with|some (.lst xs)=>(xs.mapM (toD h n)).map ZcJ|_=>Zc)=_
 rw[e]
end
section
seal L4.run L4.WS
theorem HsOk.nil:HsOk len []:=⟨01,λ x hx=>(by cases hx),λ m n _ hn=>(by rw[ZaQ] at hn;omega)⟩
theorem HsOk.one (ha:HdOk len a):HsOk len [a]:=⟨03,λ x hx=>(Zv.mp hx)▸ha,λ m n hm hn=>by rw[Za9] at hn;omega⟩
theorem HsOk.two (ha:HdOk len a)(hb:HdOk len b)(t:a.2.2<=b.2.1):HsOk len [a,b]:=by
 refine⟨03,λ x hx=>?_,λ m n hm hn=>?_⟩
 ·rcases Z6.mp hx with rfl|hx
  ·exact ha
  ·rw[Zv.mp hx]
   exact hb
 ·have hn:n<2:=hn
  have e1:n=1:=00
  have e2:m=0:=00
  subst e1 e2
  exact .inr (.inl t)
section
variable {k:Nat}{h:IH}
theorem Jzi (n:Int)(h0:0<=n)(h1:n<2):∃w,IsNm w/\atI [IV.str "ink",IV.str "oven"] n=Za (.str w):=by
 have:n=0∨n=1:=00
 rcases this with rfl|rfl
 ·exact⟨_,by unfold IsNm;decide +kernel,JS⟩
 ·exact⟨_,by unfold IsNm;decide +kernel,JY⟩
theorem neI (ea:a σ h=.ok (.int i) h1)(eb:b σ h1=.ok (.int j) h2):Jh asB (Jb cNe a b) σ h=.ok (!decide (i=j)) h2:=tofE (binE ea eb)
theorem Jtr {X:Nat}{xs:List Int}{len:Int}(hX:h[X]?=Za (.lst (xs.map .int)))(lx:5<=xs.length) :
  WR (Jdi (k+1) [.ref X,.int len] h) λ v h'=>∃q hs,v=.ref q/\h.length<=q/\h'[q]?=Za (.lst (hs.map tupH))/\HsOk len hs/\Ex h h':=by
 have hb:=J8
 have at_:∀n:Nat,n<5->∃x,atI (xs.map IV.int) (n:Int)=Za (.int x):=λ n hn=>at_x 00
 obtain⟨y0,e0⟩:=at_ 0 01
 obtain⟨y1,e1⟩:=at_ 1 01
 obtain⟨y2,e2⟩:=at_ 2 01
 obtain⟨y3,e3⟩:=at_ 3 01
 obtain⟨y4,e4⟩:=at_ 4 01
 clear at_
 obtain⟨w1,hw1,ew1⟩:=Jzi (y0/3%2) 00 00
 obtain⟨w2,hw2,ew2⟩:=Jzi (y3/2%2) 00 00
 have hX1:(h++[IX.lst []])[X]?=_:=grow hX
 rw[Jkz]
 refine xfin (xseq (xset (Je (lstE rfl rfl) (xseq (xif (Xk (Je (gtE rfl rfl) (xdec (λ q1=>Je (neI (modE (ixlE rfl rfl hX1 e0) rfl 01) rfl) ⟨λ _=>?_,λ _=>xnil (xret (Je rfl ⟨_,[],rfl,Zp _,Jp,.nil,.one _ _⟩))⟩) λ _=>⟨(λ z=>by cases z),λ _=>xnil (xret (Je rfl ⟨_,[],rfl,Zp _,Jp,.nil,.one _ _⟩))⟩))))))))
 have s0:=Zan y1 (b:=len-1) 00
 have s1:=ZY y1 (b:=len-1) 00
 obtain⟨st,est,s0,s1⟩:∃st,y1%(len-1)=st/\0<=st/\st<len-1:=⟨_,rfl,s0,s1⟩
 have v0:=Zan y2 (b:=len-1-st) 00
 have v1:=ZY y2 (b:=len-1-st) 00
 obtain⟨en,een,v0,v1⟩:∃en,st+1+y2%(len-1-st)=en/\st<en/\en<len:=⟨_,rfl,00,00⟩
 refine xseq (xset (Je (okc (modE (ixlE rfl rfl hX1 e1) (subE rfl rfl) 00) (congrArg IV.int est)) (xseq (xset (Je (okc (addE (addE rfl rfl) (modE (ixlE rfl rfl hX1 e2) (subE (subE rfl rfl) rfl) 00)) (congrArg IV.int een)) (xseq (Qr (Q3 rfl Jp Vm (Je (arg1 (tupE (arg3 (pkE (arg2 rfl rfl) rfl (modE (JI (ixlE rfl rfl (grow hX1) e0) rfl 01 01) rfl 01) ew1) rfl rfl) rfl)) (xapp (grow Jp) (by show 0<sizeLine;omega) ?_))))))))))
 rw[ZZ,ZS,XF]
 have gX:(h++IX.lst [IV.tup [IV.str w1,IV.int st,IV.int en]]::([]++[IX.lst [IV.str "ink",IV.str "oven"]]))[X]?=Za (.lst (xs.map .int)):=(Ex.cons _ _ _).get hX
 have d1:HdOk len (w1,st,en):=⟨hw1,s0,v0,v1⟩
 refine xif (Xk (Je (eqE (modE (ixlE rfl rfl gX e3) rfl 01) rfl) (xdec (λ _=>Je (ltE rfl (subE rfl rfl)) (xdec (λ q4=>?_) λ _=>xnil (xret (Je rfl ⟨_,[(w1,st,en)],rfl,Zp _,J1,.one d1,.cons _ _ _⟩)))) λ _=>⟨(λ z=>by cases z),λ _=>xnil (xret (Je rfl ⟨_,[(w1,st,en)],rfl,Zp _,J1,.one d1,.cons _ _ _⟩))⟩)))
 have u0:=Zan y4 (b:=len-1-en) 00
 have u1:=ZY y4 (b:=len-1-en) 00
 refine Qr (Q3 rfl J1 Vm (Je (arg1 (tupE (arg3 (pkE (arg2 rfl rfl) rfl (modE (JI (ixlE rfl rfl (grow gX) e3) rfl 01 01) rfl 01) ew2) rfl (addE (addE rfl rfl) (modE (ixlE rfl rfl (grow gX) e4) (subE (subE rfl rfl) rfl) 00))) rfl)) (xapp (grow J1) (by show 1<sizeLine;omega) ?_)))
 rw[ZZ,ZS,XF]
 exact xret (Je rfl ⟨_,[(w1,st,en),(w2,en,en+1+y4%(len-1-en))],rfl,Zp _,J1,.two d1 ⟨hw2,by show 0<=en;omega,by show en<en+1+y4%(len-1-en);omega,by show en+1+y4%(len-1-en)<len;omega⟩ (ZG _),.cons _ _ _⟩)
theorem J3a {g f m x:Int}(hg:1<=g)(hf:1<=f/\f<=3)(hm:1<=m):0<g*f/(2*m)+1/\1<=1+x%(g*f/(2*m)+1)/\1+x%(g*f/(2*m)+1)<=2*g+1:=by
 have p0:0<=g*f:=Int.mul_nonneg 00 00
 have p1:g*f<=g*3:=ZaN hf.2 00
 have p3:2*g*2<=2*g*(2*m):=ZaN 00 00
 have d0:0<=g*f/(2*m):=Int.ediv_nonneg p0 00
 have d1:g*f/(2*m)<=2*g:=by
  have:=Int.ediv_le_ediv (a:=g*f) (b:=2*g*(2*m)) (c:=2*m) 00 00
  rwa [Int.mul_ediv_cancel _ 00] at this
 have q1:=Zan x (b:=g*f/(2*m)+1) 00
 have q2:=ZY x (b:=g*f/(2*m)+1) 00
 omega
theorem e17 (σ:ISt)(h:IH):Jb JL (eC (.int 10)) (eC (.int 17)) σ h=.ok (.int 100000000000000000) h:=Ju (by
 rw[Vs,Qo,Qo,V7]
 exact⟨01,congrArg IV.int (by decide +kernel),rfl⟩)
theorem Jup {c unit:Int}{many:Nat}(hu:1<=unit)(hu2:unit<=1000000000000000)(hm:1<=many)(hm2:many<=5) :
  WR (Jdk (k+2) [.int c,.int unit,.int (many:Int)] h) λ v h'=>Ex h h'/\∃r q,F8 unit r/\v=.tup (tp5 r q)/\h.length<=q/\h'[q]?=Za (.lst (r.2.map tupH)):=by
 have hb:=J8
 rw[Jk1]
 refine xfin (xseq (xset (xb (Je (arg2 rfl rfl) (WR.mono (Jl0 (k:=k) (h:=h) c 12 01) ?_)))))
 rintro _ h1 ⟨i,xs,rfl,_,hi,lx,hx,x1⟩
 clear hx
 have at_:∀n:Nat,n<12->∃x,atI (xs.map IV.int) (n:Int)=Za (.int x):=λ n hn=>at_x 00
 obtain⟨y0,e0⟩:=at_ 0 01
 obtain⟨y1,e1⟩:=at_ 1 01
 obtain⟨y2,e2⟩:=at_ 2 01
 obtain⟨y3,e3⟩:=at_ 3 01
 obtain⟨y4,e4⟩:=at_ 4 01
 obtain⟨y5,e5⟩:=at_ 5 01
 obtain⟨y6,e6⟩:=at_ 6 01
 clear at_
 have b1:unit*1<=unit*(1+y0%8):=ZaN 00 00
 have b2:unit*(1+y0%8)<=unit*8:=ZaN 00 00
 refine xseq (xset (Je (addE (mulE rfl (addE rfl (modE (ixlE rfl rfl hi e0) rfl 01)) (.inr (.inl 00))) (modE (ixlE rfl rfl hi e1) rfl 01)) ?_))
 obtain⟨g,eg,g1,g2⟩:∃g,unit*(1+y0%8)+y1%5=g/\unit<=g/\g<=8*unit+4:=⟨_,rfl,00,00⟩
 rw[eg]
 clear eg b1 b2
 obtain⟨f,hf,ef⟩:∃f:Int,(1<=f/\f<=3)/\atI [IV.int 2,IV.int 3,IV.int 1] (y2/100000000000000000%3)=Za (.int f):=by
  have:y2/100000000000000000%3=0∨y2/100000000000000000%3=1∨y2/100000000000000000%3=2:=00
  rcases this with q|q|q<;>rw[q]
  ·exact⟨_,01,JS⟩
  ·exact⟨_,01,JY⟩
  ·exact⟨_,01,QL⟩
 have t60:(100:Int)<=10^60:=by decide +kernel
 have lm:(2*(many:Int)).natAbs.log2<9000:=Jmm 00 00
 obtain⟨w0,w1,w2⟩:=J3a (g:=g) (f:=f) (m:=(many:Int)) (x:=y2) 00 hf 00
 refine xseq (xset (Je (addE rfl (modE (ixlE rfl rfl hi e2) (addE (JI (mulE rfl (pkE (arg3 rfl rfl rfl) rfl (modE (JI (ixlE rfl rfl (grow hi) e2) (e17 _ _) 01 (by decide +kernel)) rfl 01) ef) (.inr (.inl 00))) (mulE rfl rfl (.inl 01)) 00 lm) rfl) w0)) ?_))
 generalize 1+y2%(g*f/(2*(many:Int))+1)=len at w1 w2
 generalize IX.lst _=o
 have xA:Ex h1 (h1++[o]):=.one _ _
 generalize h1++[o]=hA at xA ⊢
 have hiA:=xA.get hi
 have u:=half (a:=y3) (b:=y4) (g:=g/2+1) 00
 have t:=half (a:=y5) (b:=y6) (g:=g/4+1) 00
 refine xseq (xset (Je (subE rfl (mulE (modE (ixlE rfl rfl hiA e3) rfl 01) (modE (ixlE rfl rfl hiA e4) (addE (JI rfl rfl 01 01) rfl) 00) (.inl 00))) ?_))
 obtain⟨due,ed,u1,u2⟩:∃due,g-y3%2*(y4%(g/2+1))=due/\1<=due/\due<=g:=⟨_,rfl,00,00⟩
 rw[ed]
 clear ed u
 have fin:∀(late:Int){N:ISt->IH->Prop},0<=late->late<=g+g/2->WS (Jd5 (k+1) [Za (.int c),Za (.int unit),Za (.int (many:Int)),Za (.ref i),Za (.int g),Za (.int len),Za (.int due),Za (.int late)] hA) N
   λ v h'=>Ex h h'/\∃r q,F8 unit r/\v=.tup (tp5 r q)/\h.length<=q/\h'[q]?=Za (.lst (r.2.map tupH)):=by
  intro late N t1 t2
  have xc:∀{a:E1}{r:A1}{σ:ISt}{h:IH}{Q:List IV->IH->Prop},WR (a σ h) (λ x h1=>WR (r σ h1) λ xs h2=>Q (x::xs) h2)->WR (Jc a r σ h) Q:=λ x=>(XL ..).mpr x
  refine xret (xtup (xc (Je rfl (xc (Je rfl (xc (Je rfl (xc (Je rfl (xc ((Q2 ..).mpr (xc ((Xj ..).mpr (Je rfl (Je rfl (Je rfl ((Js5 ..).mpr ⟨_,hiA,?_⟩)))))))))))))))))
  rw[show(Za (7:Int))=Za ((7:Nat):Int) from rfl,Jnf,<-Zec]
  have xB:Ex hA (hA++[IX.lst ((xs.drop 7).map IV.int)]):=.one _ _
  refine Je (arg1 rfl) (WR.mono (Jtr (k:=k) Jp (by rw[List.length_drop];omega)) ?_)
  rintro _ h3 ⟨q,hs,rfl,hq,gq,ok,x3⟩
  have x1B:=(x1.trans xA).trans xB
  have l1:=x1B.len
  exact Je rfl ⟨by show 5<=sizeLine;omega,x1B.trans x3,⟨⟨⟨#[]⟩,g,len,due,late⟩,hs⟩,q,⟨g1,g2,w1,w2,u1,u2,t1,t2,ok⟩,rfl,00,gq⟩
 have t3:=Zan y6 (b:=g+g/2+1) 00
 have t4:=ZY y6 (b:=g+g/2+1) 00
 exact xseq (xset (Je (mulE (modE (ixlE rfl rfl hiA e5) rfl 01) (modE (ixlE rfl rfl hiA e6) (addE (JI rfl rfl 01 01) rfl) 00) (.inl 00)) (xseq (xif (Je (eqE (modE (JI (ixlE rfl rfl hiA e5) rfl 01 01) rfl 01) rfl) (xdec (λ _=>xset (Je (modE (ixlE rfl rfl hiA e6) (addE (addE rfl (JI rfl rfl 01 01)) rfl) 00) (fin _ 00 00))) λ _=>xnil (fin _ 00 00)))))))
end
end
section
variable {k:Nat}{h h1:IH}{σ:ISt}
theorem Jy9:WR (VW σ h) Q=Q (.ref h.length) (h++[.dct []]):=rfl
theorem Jza (e:o σ h=.ok (.ref i) h1)(hl:h1[i]?=Za (.dct kvs))(hg:bmOf "dict" m n=Za g):WR (Jn P m n o a σ h) Q=WR (a σ h1) λ vs h2=>WR (g (.ref i) vs h2) Q:=by
 unfold Jn
 rw[e]
 have hi:VZ (.ref i) h1=Zk:=by simp[VZ,hl]
 have ht:tyS (.ref i) h1="dict":=by simp[tyS,hl]
 dsimp only
 rw[hi,ht,hg]
 dsimp only
 rw[if_neg Zu]
 unfold eBm
 rw[e,Jv,Vh]
 have:tyOk "dict" (.ref i) h1=Zi:=by simp[tyOk,hl]
 rw[if_pos this,Jv]
theorem Jql:bmOf "dict" "setdefault" 2=Za VL:=02
theorem Jvp (hi:h[i]?=Za (.dct kvs))(e:valI kvs (.inr x)=Za w):WR (VL (.ref i) [.str x,v] h) Q=Q w h:=by
 unfold VL
 simp only[hi,keyI,e]
 rfl
theorem Jvo (hi:h[i]?=Za (.dct kvs))(e:valI kvs (.inr x)=Zc)(hl:kvs.length<sizeLine):WR (VL (.ref i) [.str x,v] h) Q=Q v (h.set i (.dct (kvs++[(.inr x,v)]))):=by
 unfold VL
 simp only[hi,keyI,e,hl,if_true]
 rfl
end
theorem Jsu (kvs:List (Key×IV))(k k':Key)(v:IV):valI (kvs++[(k,v)]) k'=match valI kvs k' with
  | some w=>Za w
  | none=>if k=k' then Za v else Zc:=by
 induction kvs with
 | nil =>
  by_cases e:k=k'
  ·rw[Zaz,QT e,if_pos e];rfl
  ·rw[Zaz,QB e,if_neg e];rfl
 | cons p r ih =>
  by_cases e:p.1=k'
  ·rw[ZS,QT e,QT e]
  ·rw[ZS,QB e,QB e,ih]
def has (x:Str)(hs:List Hd):Bool:=hs.any λ a=>decide (a.1=x)
def fstK (hss:List (List Hd))(x:Str):Option Nat:=hss.findIdx? (has x)
def fV (o:Option Nat):IV:=match o with
 | some i=>.int (i:Int)
 | none=>.non
theorem Jq3 (hss:List (List Hd))(hs:List Hd)(x:Str):fstK (hss++[hs]) x=match fstK hss x with
  | some i=>Za i
  | none=>if has x hs=Zi then Za hss.length else Zc:=by
 unfold fstK
 rw[List.findIdx?_append]
 cases hss.findIdx? (has x) with
 | some i=>rfl
 | none =>
  by_cases e:has x hs=Zi
  ·simp[Zdb,e]
  ·simp[Zdb,e]
theorem Jnn (x:Str)(hs:List Hd)(a:Hd):has x (hs++[a])=(has x hs||decide (a.1=x)):=by simp[has]
section
variable {k:Nat}{h:IH}
theorem dls:(([("works",a)]:List (Str×IV))).lookup ("size":Str)=Zc:=02
theorem Jew (hD:h[D]?=Za (.ins "Duty" (dfs vs))):Jde (k+1) [.ref D] h=.ok (.int vs.length) h:=by
 refine Ju ?_
 rw[Jku]
 simp! [Jd1,JT hD,dl0]
def Told (kvs:List (Key×IV))(hss:List (List Hd))(n:Nat)(hs:List Hd):Prop:=∀x,valI kvs (.inr x)=match fstK hss x with
 | some i=>Za (.int (i:Int))
 | none=>if has x hs=Zi then Za (.int (n:Int)) else Zc
theorem Told.next (t:Told kvs hss n hs)(hn:hss.length=n):Told kvs (hss++[hs]) (n+1) []:=λ x=>by
 subst hn
 rw[t x,Jq3]
 cases fstK hss x with
 | some i=>rfl
 | none =>
  by_cases e:has x hs=Zi
  ·simp only[e,if_true]
  ·simp only[e];rfl
theorem Told.old {a:Hd}(t:Told kvs hss n hs)(e:valI kvs (.inr a.1)=Za w):Told kvs hss n (hs++[a]):=λ x=>by
 rw[t x]
 cases ef:fstK hss x with
 | some i=>rfl
 | none =>
  dsimp only
  rw[Jnn]
  by_cases ea:a.1=x
  ·have:=t x
   rw[<- ea,e,ea,ef] at this
   dsimp only at this
   by_cases q:has x hs=Zi
   ·simp[q]
   ·rw[if_neg q] at this
    cases this
  ·simp[ea]
theorem Told.new {a:Hd}(t:Told kvs hss n hs)(e:valI kvs (.inr a.1)=Zc):Told (kvs++[(.inr a.1,.int (n:Int))]) hss n (hs++[a]):=λ x=>by
 rw[Jsu,t x]
 cases ef:fstK hss x with
 | some i=>rfl
 | none =>
  dsimp only
  rw[Jnn]
  by_cases q:has x hs=Zi
  ·simp[q]
  ·by_cases ea:a.1=x
   ·simp[q,ea]
   ·have:¬((.inr a.1:Key)=.inr x):=λ z=>ea (Sum.inr.inj z)
    simp[q,ea]
theorem Jg4 {vs:List IV}{rs:List RH}{D:Nat}(hD:h[D]?=Za (.ins "Duty" (dfs vs)))(w:AllH h vs rs)(hl:rs.length<=12)(h6:∀r∈rs,r.2.length<=6) :
  WR (Jc0 (k+2) [.ref D] h) λ v h'=>∃i kvs,v=.ref i/\h'[i]?=Za (.dct kvs)/\(∀x,(valI kvs (.inr x)).getD .non=fV (fstK (rs.map (·.2)) x))/\Ex h h':=by
 have hb:=J8
 have wl:=w.len
 rw[Jmf]
 simp! [Jfk,Jfl,Jy9]
 rw[VP (i:=D) (h1:=h++[.dct []]) rfl (grow hD) dls (Jbf _)]
 simp! [Jew (grow hD)]
 refine⟨00,?_⟩
 refine QG (λ n σ h'=>∃kvs g a b,h'=h++IX.dct kvs::g/\σ=[Za (.ref D),Za (.ref h.length),a,b]/\kvs.length<=6*n/\Told kvs ((rs.map (·.2)).take n) n []) (λ _ _ _ _=>trivial) ?_ ?_ ⟨[],[],Zc,Zc,rfl,rfl,03,λ x=>by simp[valI,fstK,has]⟩
 ·rintro n hn _ _ ⟨kvs,g,a,b,rfl,rfl,ln,td⟩
  rw[Qk]
  rw[JA] at hn
  have hn':n<rs.length:=00
  have en:(0:Int)+(n:Int)=n:=00
  obtain⟨j,ej,gj⟩:=w.at_ n _ _ (Zb 00) (Zb hn')
  have av:atI vs (n:Int)=Za (.ref j):=JC (by rw[Zb 00,ej])
  have hl6:=h6 _ (Zz hn')
  have hm:n<(rs.map (·.2)).length:=by rw[Zm];exact hn'
  have tk:(rs.map (·.2)).take (n+1)=(rs.map (·.2)).take n++[(rs[n]).2]:=by rw[Zat hm,ZP]
  rw[tk]
  generalize rs[n]=r at gj hl6
  simp! [en,Je1]
  have x1:Ex h (h++IX.dct kvs::g):=.cons _ _ _
  have ed:Jn (pg (k+1)) "work" 1 (Ja 0) (Jc (Ja 2) Jd) [Za (IV.ref D),Za (IV.ref h.length),Za (IV.int (n:Int)),b] (h++IX.dct kvs::g)=.ok (.ref j) (h++IX.dct kvs::g):=by
   refine Ju ?_
   rw[VP (i:=D) (h1:=h++IX.dct kvs::g) rfl (x1.get hD) dlw (Jcz _)]
   simp! [Jg7 (x1.get hD) av]
  rw[VP (i:=j) (h1:=h++IX.dct kvs::g) ed (x1.get gj) flh (Jbg _)]
  simp! [Je6 (x1.get gj),Qp,Jp]
  generalize r.2=hs at hl6
  refine QG (λ m σ h'=>∃kvs' b',h'=h++IX.dct kvs'::(g++[IX.lst (hs.map tupH)])/\σ=[Za (.ref D),Za (.ref h.length),Za (.int (n:Int)),b']/\kvs'.length<=6*n+m/\Told kvs' ((rs.map (·.2)).take n) n (hs.take m)) ?_ ?_ ?_ ⟨kvs,b,by rw[ZZ,ZS],rfl,00,td⟩
  ·rintro _ _ _ ⟨kvs',b',rfl,_⟩
   rw[show h++IX.dct kvs'::(g++[IX.lst (hs.map tupH)])=(h++IX.dct kvs'::g)++[IX.lst (hs.map tupH)] by rw[ZZ,ZS],
    show(h++IX.dct kvs::g).length=(h++IX.dct kvs'::g).length by simp]
   exact Jp
  ·rintro m hm _ _ ⟨kvs',b',rfl,rfl,lm,tm⟩
   have hm':m<hs.length:=by simpa using hm
   rw[ZP,Zat hm']
   generalize hs[m]=a at *
   simp! [Je0]
   rw[Jza (i:=h.length) (h1:=h++IX.dct kvs'::(g++[IX.lst (hs.map tupH)])) rfl J1 Jql]
   simp! [tupH]
   cases ev:valI kvs' (.inr a.1) with
   | some w' =>
    rw[Jvp J1 ev]
    exact⟨kvs',_,rfl,rfl,00,tm.old ev⟩
   | none =>
    rw[Jvo J1 ev 00,XF]
    exact⟨_,_,rfl,rfl,by rw[Z0,Za9];omega,tm.new ev⟩
  ·rintro _ _ ⟨kvs',b',rfl,rfl,lm,tm⟩
   rw[Zm] at lm tm
   rw[ZaY (Zp _)] at tm
   have ltn:((rs.map (·.2)).take n).length=n:=by rw[Za6];omega
   exact⟨kvs',_,_,_,rfl,rfl,00,tm.next ltn⟩
 ·rintro _ _ ⟨kvs,g,a,b,rfl,rfl,ln,td⟩
  simp! [Jfm]
  refine⟨_,kvs,rfl,J1,λ x=>?_,.cons _ _ _⟩
  have:=td x
  rw[JA,ZaY (by rw[Zm];omega)] at this
  rw[this]
  cases fstK (rs.map (·.2)) x with
  | some i=>rfl
  | none=>simp[has,fV]
theorem Jgf (kvs:List (Key×IV))(k k':Key)(v:IV):valI (putD kvs k v) k'=if k=k' then Za v else valI kvs k':=by
 unfold putD
 have any_iff:∀l:List (Key×IV),(l.any λ kv=>decide (kv.1=k))=(valI l k).isSome:=by
  intro l
  induction l with
  | nil=>rfl
  | cons p r ih =>
   rw[Zcl,ih]
   by_cases e:p.1=k
   ·rw[QT e];simp[e]
   ·rw[QB e];simp[e]
 split
 ·rename_i ha
  have key:∀l:List (Key×IV),valI (l.map λ kv=>if kv.1=k then(kv.1,v) else kv) k'=if k=k' then(if (valI l k).isSome then Za v else Zc) else valI l k':=by
   intro l
   induction l with
   | nil=>by_cases e:k=k'<;>simp[valI]
   | cons p r ih =>
    rw[Z5]
    by_cases e:p.1=k
    ·rw[if_pos e]
     by_cases e2:k=k'
     ·rw[QT (by rw[<- e2];exact e),if_pos e2,QT e];rfl
     ·rw[QB (by rw[e];exact e2),ih,if_neg e2,if_neg e2,QB (by rw[e];exact e2)]
    ·rw[if_neg e]
     by_cases e2:p.1=k'
     ·have:¬k=k':=λ z=>e (e2.trans z.symm)
      rw[QT e2,if_neg this,QT e2]
     ·rw[QB e2,ih,QB e,QB e2]
  rw[key,<-any_iff,ha]
  simp
 ·rename_i ha
  have hn:valI kvs k=Zc:=by
   have:=any_iff kvs
   cases q:valI kvs k with
   | none=>rfl
   | some z=>rw[q] at this;exact absurd this ha
  have key:∀l:List (Key×IV),valI (l++[(k,v)]) k'=match valI l k' with
    | some w=>Za w
    | none=>if k=k' then Za v else Zc:=by
   intro l
   induction l with
   | nil =>
    by_cases e:k=k'
    ·rw[Zaz,QT e,if_pos e];rfl
    ·rw[Zaz,QB e,if_neg e];rfl
   | cons p r ih =>
    by_cases e:p.1=k'
    ·rw[ZS,QT e,QT e]
    ·rw[ZS,QB e,QB e,ih]
  rw[key]
  by_cases e:k=k'
  ·subst e;rw[hn,if_pos rfl]
  ·rw[if_neg e,if_neg e];cases valI kvs k'<;>rfl
theorem Jwt (hi:h[i]?=Za (.dct kvs)):WR (cInD (.int x) (.ref i) h) Q=Q (.bl (valI kvs (.inl x)).isSome) h:=by
 unfold cInD
 simp only[hi,keyI]
 rfl
theorem Jsz (hi:h[i]?=Za (.dct kvs))(e:valI kvs (.inl x)=Za v):WR (QR (.ref i) (.int x) h) Q=Q v h:=by
 unfold QR
 simp only[hi,keyI,e]
 rfl
theorem Jm3 (o i:E1)(v:IV):WS (gSbD o i v σ h) N R=WR (o σ h) λ ov h1=>WR (i σ h1) λ iv h2=>WS (Y1 ov iv v σ h2) N R:=by
 unfold gSbD
 rw[Qq]
 congr 1
 funext ov h1
 rw[Qq]
theorem Jj9 (hi:h[i]?=Za (.dct kvs))(hl:kvs.length<sizeLine):WS (Y1 (.ref i) (.int x) v σ h) N R=N σ (h.set i (.dct (putD kvs (.inl x) v))):=by
 unfold Y1
 simp only[hi,keyI,hl,if_true]
 rfl
end
theorem J0x (q:IsNm x):ZbI (.str x)=Zi:=by
 rw[ZbI]
 unfold PyData.strOk
 rw[<- Array.all_toList,ZaG]
 intro c hc
 have:=q.2.2 c hc
 simp only[decide_eq_true_eq]
 omega
section
variable {k:Nat}{h:IH}
end
def actv (d:Int)(a:Hd):Bool:=decide (a.2.1<d)&&decide (d<a.2.2)
def act (hs:List Hd)(d:Int):List Str:=(hs.filter (actv d)).map (·.1)
def avV (d:Int)(v:IV):Bool:=match v with
 | .tup [.str _,.int s,.int e]=>decide (s<d)&&decide (d<e)
 | _=>Zk
def frs (v:IV):IV:=match v with
 | .tup (x::_)=>x
 | _=>.non
theorem Jp2 (d:Int):∀hs:List Hd,((hs.map tupH).filter (avV d)).map frs=(act hs d).map IV.str
 | []=>rfl
 | a::hs=>by
  have ih:=Jp2 d hs
  unfold act at *
  rw[Z5]
  by_cases q:actv d a=Zi
  ·have q':avV d (tupH a)=Zi:=q
   rw[Zdz q',Zdz q,Z5,Z5,Z5,ih]
   rfl
  ·have q':¬avV d (tupH a)=Zi:=q
   rw[Zd0 q',Zd0 q,ih]
theorem Jwy (hs:List Hd)(d:Int):(act hs d).length<=hs.length:=by
 unfold act
 rw[Zm]
 exact Zb0 ..
theorem Jwz (h:x∈act hs d):∃a∈hs,a.1=x:=by
 unfold act at h
 obtain⟨a,ha,rfl⟩:=ZE.mp h
 exact⟨a,(Za4.mp ha).1,rfl⟩
theorem XY (f:Nat->Int):∀(n j:Nat),j<n->JZ f n<=f j
 | 0,j,h=>00
 | 1,j,h=>by
  have:j=0:=00
  subst this
  exact ZG _
 | n+2,j,h=>by
  rw[Jfb f (by omega:0<n+1)]
  by_cases e:j=n+1
  ·subst e
   split<;>omega
  ·have:=XY f (n+1) j 00
   split<;>omega
theorem Jmb (f:Nat->Int):∀(n:Nat),0<n->∃j,j<n/\JZ f n=f j
 | 0,h=>00
 | 1,_=>⟨0,00,rfl⟩
 | n+2,_=>by
  rw[Jfb f (by omega:0<n+1)]
  obtain⟨j,hj,e⟩:=Jmb f (n+1) 00
  split
  ·exact⟨n+1,00,rfl⟩
  ·exact⟨j,00,e⟩
def fZ (hss:List (List Hd))(x:Str):Int:=match fstK hss x with
 | some j=>(j:Int)
 | none=>0
def rkNs (hss:List (List Hd))(zs:List Str)(a:Nat):List Int:=(a:Int)::zs.map (fZ hss)
def rk (hss:List (List Hd))(zs:List Str)(a:Nat):Int:=JZ (λ i=>(rkNs hss zs a).getD i 0) (rkNs hss zs a).length
def fstV (hss:List (List Hd))(v:IV):IV:=match v with
 | .str t=>.int (fZ hss t)
 | _=>.non
noncomputable def stT (v:IV):ISt:=match v with
 | .tup [x,y,z]=>[Za x,Za y,Za z]
 | _=>[Zc,Zc,Zc]
section
variable {k:Nat}{h:IH}
theorem Js4 {ns:List Int}(hi:h[i]?=Za (.lst (ns.map .int)))(hn:ns≠[]):WR (Xc (.ref i) h) Q=Q (.int (JZ (λ i=>ns.getD i 0) ns.length)) h:=by
 unfold Xc
 simp only[hi,V0]
 rw[if_neg hn]
 rfl
theorem Js0 (hi:h[i]?=Za (.dct kvs))(e:valI kvs (.inr x)=Za v):WR (QR (.ref i) (.str x) h) Q=Q v h:=by
 unfold QR
 simp only[hi,keyI,e]
 rfl
theorem Jl1 {gap len due late d:Int}{hs:List Hd}(hw:h[w]?=Za (.ins "Work" (wfs name gap len due late (hs.map tupH))))(l6:hs.length<=6) :
  WR (Jar (k+2) [.ref w,.int d] h) λ v h'=>∃i,v=.ref i/\h.length<=i/\h'[i]?=Za (.lst ((act hs d).map .str))/\Ex h h':=by
 have hb:=J8
 rw[Jh5]
 simp! [Jcs]
 refine WR.mono (Jj2 (h:=h++[IX.lst (hs.map tupH)]) (xs:=hs.map tupH) (chk:=λ h'=>h'[h.length]?=Za (.lst (hs.map tupH))) (p:=avV d) (f:=frs) ?_ (by rw[Zm];omega) (λ h2 q=>q _ _ Jp) ?_ ?_) ?_
 ·rw[QD,VP (i:=w) (h1:=h) rfl hw flh (Jbg _)]
  simp! [Je6 hw,Qp,Jp]
 ·intro v hv h2 q
  obtain⟨a,_,rfl⟩:=ZE.mp hv
  simp only[Z5,Zbv,ZaB,ZaC,ZbH]
  simp! [Jbo,tupH,avV,decide_eq_true_eq,decide_eq_false_iff_not]
  exact⟨λ z=>⟨by simp[z],.refl _⟩,λ z=>⟨by simp[z],.refl _⟩⟩
 ·intro v hv _ h2 q
  obtain⟨a,_,rfl⟩:=ZE.mp hv
  simp! [Jbn,tupH,frs]
  exact .refl _
 ·rintro _ _ ⟨rfl,g,rfl⟩
  rw[Jp2]
  exact⟨_,rfl,by rw[Z0];omega,J1,(Ex.one _ _).trans (.cons _ _ _)⟩
theorem Jrs {a i t:Nat}{zs:List Str}(gi:h[i]?=Za (.lst (zs.map .str)))(gt:h[t]?=Za (.dct kvs))(tv:∀x,(valI kvs (.inr x)).getD .non=fV (fstK hss x))(hz:∀z∈zs,fstK hss z≠Zc)(la:zs.length<=6) :
  WR (Jiv (k+1) [.int (a:Int),.ref i,.ref t] h) λ v h'=>v=.int (rk hss zs a)/\Ex h h':=by
 have hb:=J8
 rw[Jq6]
 simp! [Jij,ZD,ZaQ]
 refine⟨00,?_⟩
 have x3:Ex h (h++[IX.lst [IV.int (a:Int)]]):=.one _ _
 have gA:(h++[IX.lst [IV.int (a:Int)]])[h.length]?=Za (.lst ([(a:Int)].map IV.int)):=Jp
 generalize h.length=A at gA
 generalize h++[IX.lst [IV.int (a:Int)]]=h3 at x3 gA
 refine WR.mono (QC (h:=h3) (xs:=zs.map IV.str) (chk:=λ h'=>h'[i]?=Za (.lst (zs.map IV.str))) (f:=fstV hss) ?_ (by rw[Zm];omega) (λ h4 q=>q _ _ (x3.get gi)) ?_) ?_
 ·simp! [Qp,x3.get gi]
 ·intro v hv h4 q
  obtain⟨x,hx,rfl⟩:=ZE.mp hv
  have e1:=tv x
  have ne:=hz x hx
  cases ef:fstK hss x with
  | none=>exact absurd ef ne
  | some jj =>
   rw[ef] at e1
   have e2:valI kvs (.inr x)=Za (.int (jj:Int)):=by
    cases ev:valI kvs (.inr x) with
    | none=>rw[ev] at e1;cases e1
    | some v=>rw[ev] at e1;rw[show v=.int (jj:Int) from e1]
   simp only[Z5,Zbv,ZaB,ZaC,ZbH]
   simp! [Jfp]
   rw[Js0 (q _ _ (x3.get gt)) e2]
   exact⟨by simp only[fstV,fZ,ef],.refl _⟩
 ·rintro _ _ ⟨rfl,g,rfl⟩
  have em:(zs.map IV.str).map (fstV hss)=(zs.map (fZ hss)).map IV.int:=by
   rw[Zbm,Zbm]
   rfl
  rw[em]
  have x4:Ex h3 (h3++IX.lst ((zs.map (fZ hss)).map IV.int)::g):=.cons _ _ _
  simp! [Jsw,x4.get gA,J1,Zm,ZD,ZaQ]
  refine⟨00,?_⟩
  rw[<- Zbt]
  rw[show[(a:Int)]++zs.map (fZ hss)=rkNs hss zs a from rfl,Js4 (ns:=rkNs hss zs a) Jp (by simp[rkNs])]
  exact⟨rfl,(x3.trans x4).trans (.one _ _)⟩
theorem Jwx {rs:List RH}{a:Nat}(ha:a<rs.length){d:Int}:∀z∈act (rs[a]).2 d,fstK (rs.map (·.2)) z≠Zc:=λ z q=>by
 obtain⟨b,hb',rfl⟩:=Jwz q
 intro e
 unfold fstK at e
 rw[Zcg] at e
 have:=e (rs[a]).2 (ZE.mpr ⟨rs[a],Zz ha,rfl⟩)
 unfold has at this
 have t2:((rs[a]).2.any λ x=>decide (x.1=b.1))=Zi:=Zdy.mpr ⟨b,hb',03⟩
 rw[t2] at this
 cases this
abbrev ofs (D T:Nat):List (Str×IV):=[("duty",.ref D),("tops",.ref T)]
abbrev ofs1 (D:Nat):List (Str×IV):=[("duty",.ref D)]
theorem op0:putI "duty" a ([]:List (Str×IV))=([("duty",a)]:List (Str×IV)):=02
theorem op1:putI "tops" b ([("duty",a)]:List (Str×IV))=([("duty",a),("tops",b)]:List (Str×IV)):=02
theorem ol0 {D T:Nat}:(ofs D T).lookup ("duty":Str)=Za (.ref D):=02
theorem ol1 {D T:Nat}:(ofs D T).lookup ("tops":Str)=Za (.ref T):=02
theorem olr {D T:Nat}:(ofs D T).lookup ("rank_of":Str)=Zc:=02
theorem olh {D T:Nat}:(ofs D T).lookup ("holds":Str)=Zc:=02
def IsOr (h:IH)(O:Nat)(rs:List RH):Prop:=∃D,IsDu h D rs/\∃T kvs,h[O]?=Za (.ins "ByRank" (ofs D T))/\h[T]?=Za (.dct kvs)/\∀x,(valI kvs (.inr x)).getD .non=fV (fstK (rs.map (·.2)) x)
theorem IsOr.kp (k:Kp h h')(o:IsOr h O rs):IsOr h' O rs:=by
 obtain⟨D,d,T,kvs,b,c,e⟩:=o
 exact⟨D,d.kp k,T,kvs,k _ _ b,k _ _ c,e⟩
theorem Jpk (hO:h[O]?=Za (.ins c [])):Jcj (k+1) [.ref O,.ref D] h=.ok .non (h.set O (.ins c (ofs1 D))):=by
 refine Ju ?_
 rw[Jjg]
 simp! [Jda,VR]
 refine⟨_,_,_,rfl,hO,01,?_⟩
 rw[op0]
theorem Jr8 (d:IsDu h D rs)(hl:rs.length<=12)(h6:∀r∈rs,r.2.length<=6):WR (XO (k+4) [.ref h.length,.ref D] (h++[.ins "ByRank" []])) λ v h'=>v=.non/\Ex h h'/\IsOr h' h.length rs:=by
 rw[Jh0]
 simp! [Jcl,Jcm,Jpk (k:=k+2) (h:=h++[.ins "ByRank" []]) Jp,XE,VR]
 have x1:Ex h (h++[IX.ins "ByRank" (ofs1 D)]):=.one _ _
 have d1:=d.kp x1.kp
 obtain⟨vs,gD,w⟩:=id d1
 refine WR.mono (Jg4 (k:=k+1) gD w hl h6) ?_
 rintro _ _ ⟨t,kvs,rfl,gt,tv,g,rfl⟩
 refine⟨_,_,_,rfl,grow Jp,by show(1:Nat)<1000;decide,?_⟩
 rw[op1]
 have e:(h++[IX.ins "ByRank" (ofs1 D)]++g).set h.length (.ins "ByRank" (ofs D t))=h++.ins "ByRank" (ofs D t)::g:=by
  rw[ZZ,ZS,Zaz,XF]
 rw[e]
 have kb:KpB h.length (h++[IX.ins "ByRank" (ofs1 D)]++g) (h++IX.ins "ByRank" (ofs D t)::g):=λ j o hj z=>by
  rw[<- e,Zaa (ZR hj)]
  exact z
 have ht:t≠h.length:=λ z=>by
  rw[z] at gt
  have:(h++[IX.ins "ByRank" (ofs1 D)]++g)[h.length]?=Za (.ins "ByRank" (ofs1 D)):=grow Jp
  rw[this] at gt
  cases gt
 exact⟨.cons _ _ _,D,d.kp (Ex.cons _ _ _).kp,t,kvs,J1,kb _ _ ht gt,tv⟩
end
section
seal L4.run L4.WS
section
variable {k:Nat}{h:IH}
theorem wkE (hD:h[D]?=Za (.ins "Duty" (dfs vs)))(eo:o σ h=.ok (.ref D) h)(ee:e σ h=.ok (.int n) h)(av:atI vs n=Za (.ref j)):Jn (pg (k+1)) "work" 1 o (Jc e Jd) σ h=.ok (.ref j) h:=dotE eo hD dlw (Jcz _) (arg1 ee) (Jg7 hD av)
theorem Jqm {O D T:Nat}{rs:List RH}{kvs:List (Key×IV)}{c:Cm}{d:Int}(hd:IsDu h D rs)(gO:h[O]?=Za (.ins "ByRank" (ofs D T)))(gT:h[T]?=Za (.dct kvs))(tv:∀x,(valI kvs (.inr x)).getD .non=fV (fstK (rs.map (·.2)) x))(ha:c.at_<rs.length)(l6:∀r∈rs,r.2.length<=6) :
  WR (Jan (k+3) [.ref O,tupC c,.int d] h) λ v h'=>v=.int (rk (rs.map (·.2)) (act (rs[c.at_]).2 d) c.at_)/\Ex h h':=by
 obtain⟨vs,gD,w⟩:=hd
 obtain⟨j,ej,gj⟩:=w.get (Zb ha)
 have av:atI vs (c.at_:Int)=Za (.ref j):=JC ej
 have hz:=Jwx ha (d:=d)
 have l:=l6 _ (Zz ha)
 generalize rs[c.at_]=r at gj hz l
 rw[Jfd]
 refine xfin (xret (xb (xb ?_)))
 refine Je (ixtE rfl rfl JS) (xb (xb (xb (Je (arg2 (wkE gD (fldE rfl gO ol0) (ixtE rfl rfl JS) av) rfl) (WR.mono (Jl1 (k:=k) gj l) ?_)))))
 rintro _ h1 ⟨i,rfl,li,gi,x1⟩
 have la:=Jwy r.2 d
 refine xb (Je (arg1 (fldE rfl (x1.get gO) ol1)) (Je rfl (Je rfl (WR.mono (Jrs (k:=k+1) gi (x1.get gT) tv hz 00) ?_))))
 rintro _ h2 ⟨rfl,x2⟩
 exact⟨rfl,x1.trans x2⟩
theorem Jkh {O D T:Nat}{c:Cm}{d:Int}(hd:IsDu h D rs)(gO:h[O]?=Za (.ins "ByRank" (ofs D T)))(ha:c.at_<rs.length)(l6:∀r∈rs,r.2.length<=6) :
  WR (Jbi (k+3) [.ref O,tupC c,.int d] h) λ v h'=>v=.bl (!(act (rs[c.at_]).2 d).isEmpty)/\Ex h h':=by
 obtain⟨vs,gD,w⟩:=hd
 obtain⟨j,ej,gj⟩:=w.get (Zb ha)
 have av:atI vs (c.at_:Int)=Za (.ref j):=JC ej
 have l:=l6 _ (Zz ha)
 generalize rs[c.at_]=r at gj l
 rw[Jg9]
 obtain⟨_,h1,e1,i,rfl,li,gi,x1⟩:=(Jl1 (k:=k) (d:=d) gj l).eq
 refine xfin (xret (Je ((binE (lenE (JO (arg2 (wkE gD (fldE rfl gO ol0) (ixtE rfl rfl JS) av) rfl) e1) gi) rfl).trans rfl) ⟨?_,x1⟩))
 rw[Zm]
 cases act r.2 d<;>simp
def XU (rs:List RH)(c:Cm)(d:Int):Int:=rk (rs.map (·.2)) (act (rs.getD c.at_ rd).2 d) c.at_
def Xo (rs:List RH)(c:Cm)(d:Int):Bool:=!(act (rs.getD c.at_ rd).2 d).isEmpty
theorem VX {rs:List RH}(hn:n<rs.length):rs.getD n rd=rs[n]:=by rw[Ze,Zb hn];rfl
theorem Jmp (o:IsOr h O rs):∃Du,IsDu h Du rs/\∀(e:E1) (σ:ISt),e σ h=.ok (.ref O) h->Jo "duty" e σ h=.ok (.ref Du) h:=by
 obtain⟨D,hd,T,kvs,gO,_⟩:=o
 exact⟨D,hd,λ e σ he=>fldE he gO ol0⟩
theorem Joq {O:Nat}{d:Int}{oe e1 e2:E1}(o:IsOr h O rs)(ho:oe σ h=.ok (.ref O) h)(h1:e1 σ h=.ok (tupC c) h)(h2:e2 σ h=.ok (.int d) h)(ha:c.at_<rs.length)(l6:∀r∈rs,r.2.length<=6) :
  WR (Jn (pg (k+3)) "rank_of" 2 oe (Jc e1 (Jc e2 Jd)) σ h) λ v h'=>v=.int (XU rs c d)/\Ex h h':=by
 obtain⟨D,hd,T,kvs,gO,gT,tv⟩:=o
 refine XN ho gO olr (Jfc _) (Je (arg2 h1 h2) (WR.mono (Jqm (k:=k) hd gO gT tv ha l6) ?_))
 rintro _ h3 ⟨rfl,x3⟩
 exact⟨by rw[XU,VX ha],x3⟩
theorem Jl5 (o:IsOr h O rs)(ho:oe σ h=.ok (.ref O) h)(h1:e1 σ h=.ok (tupC c) h)(h2:e2 σ h=.ok (.int d) h)(ha:c.at_<rs.length)(l6:∀r∈rs,r.2.length<=6) :
  WR (Jn (pg (k+3)) "holds" 2 oe (Jc e1 (Jc e2 Jd)) σ h) λ v h'=>v=.bl (Xo rs c d)/\Ex h h':=by
 obtain⟨D,hd,T,kvs,gO,gT,tv⟩:=o
 refine XN ho gO olh (Jg6 _) (Je (arg2 h1 h2) (WR.mono (Jkh (k:=k) hd gO ha l6) ?_))
 rintro _ h3 ⟨rfl,x3⟩
 exact⟨by rw[Xo,VX ha],x3⟩
end
end
def cd:Cm:=⟨0,0,0,0⟩
def keyN (rs:List RH)(cs:List Cm)(ds:List Int)(n:Nat):List Int:=[XU rs (cs.getD n cd) (ds.getD n 0),if Xo rs (cs.getD n cd) (ds.getD n 0)=Zi then 0 else 1,(n:Int)]
def keyV (rs:List RH)(cs:List Cm)(ds:List Int)(v:IV):List Int:=match v with
 | .int x=>keyN rs cs ds x.toNat
 | _=>[0,0,0]
theorem Jv7:∀{a b:List Int},a.length=b.length->ltL a b=Zk->ltL b a=Zk->a=b
 | [],[],_,_,_=>rfl
 | a::as,b::bs,l,h1,h2=>by
  unfold ltL at h1 h2
  by_cases e:a=b
  ·subst e
   rw[if_pos rfl] at h1 h2
   rw[Jv7 (by simpa using l) h1 h2]
  ·rw[if_neg e,decide_eq_false_iff_not] at h1
   rw[if_neg (ZR e),decide_eq_false_iff_not] at h2
   omega
 | [],_::_,l,_,_=>by simp at l
 | _::_,[],l,_,_=>by simp at l
section
variable {k:Nat}{h:IH}
theorem Jy8 (hx:xs≠[])(hy:ys≠[])(hl:xs.length+ys.length<=sizeLine):WR (Jj (.tup xs) (.tup ys) h) Q=Q (.tup (xs++ys)) h:=by
 unfold Jj
 dsimp only
 rw[if_pos ⟨hx,hy,hl⟩]
 rfl
theorem ols {D T:Nat}:(ofs D T).lookup ("standing":Str)=Zc:=02
theorem olp {D T:Nat}:(ofs D T).lookup ("pick":Str)=Zc:=02
abbrev stv (rs:List RH)(c:Cm)(d:Int):IV:=.tup [.int (XU rs c d),.int (if Xo rs c d=Zi then 0 else 1)]
theorem Jmy {c:Cm}{d:Int}(o:IsOr h O rs)(ha:c.at_<rs.length)(l6:∀r∈rs,r.2.length<=6) :
  WR (Jao (k+4) [.ref O,tupC c,.int d] h) λ v h'=>v=stv rs c d/\Ex h h':=by
 have hb:=J8
 rw[Jfe]
 dsimp! [Ja7]
 refine WR.mono (Joq (k:=k) (c:=c) (d:=d) o rfl rfl rfl ha l6) ?_
 rintro _ h1 ⟨rfl,x1⟩
 try simp(implicitDefEqProofs:=Zk) only[Nb,YZ,Jj7,Nc,YY,Nd,Jj8,YX,QF,Jon,Jj6,Joo,XM,Qq,Jv,Vh,Qo,Yh,Jtk,Vs,Jvq,Job,Jvn,YH,YU,Jom,Jj4,YV,YD,Jj1,XL,YW,YN,Q2,VQ,Jvc,YR,YI,Jgj,Jgk,Xj,YG,YC,Jol,Joi,YQ,YE,YO,V7,Jj0,Jvk,Jvi,Jvg,Jvf,Jve,Jvl,Joe,Joj,Joc,Jj5,Jok,YF,Jvm,QD,QE,V8,YS,Jof,Joh,Jog,YT,Jgi,Krz,Ksz,Kvz,Ktz,Kuz]
 refine WR.mono (Jl5 (k:=k) (c:=c) (d:=d) (o.kp x1.kp) rfl rfl rfl ha l6) ?_
 rintro _ h2 ⟨rfl,x2⟩
 have x:=x1.trans x2
 simp! [ZD,ZaQ,stv]
 cases Xo rs c d with
 | true=>exact⟨λ _=>⟨00,rfl,x⟩,λ z=>by cases z⟩
 | false=>exact⟨(λ z=>by cases z),λ _=>⟨00,rfl,x⟩⟩
theorem Jhq {O:Nat}{d:Int}{oe e1 e2:E1}(o:IsOr h O rs)(ho:oe σ h=.ok (.ref O) h)(h1:e1 σ h=.ok (tupC c) h)(h2:e2 σ h=.ok (.int d) h)(ha:c.at_<rs.length)(l6:∀r∈rs,r.2.length<=6) :
  WR (Jn (pg (k+4)) "standing" 2 oe (Jc e1 (Jc e2 Jd)) σ h) λ v h'=>v=stv rs c d/\Ex h h':=by
 have so:=Jmy (k:=k) (d:=d) o ha l6
 obtain⟨D,hd,T,kvs,gO,gT,tv⟩:=o
 rw[VP (i:=O) (h1:=h) ho gO ols (Jev _)]
 dsimp! [h1,h2]
 exact so
theorem Jyg {O R W N:Nat}{ps:List Nat}{ds:List Int}(h0:h[0]?=Za (.tab "Order.pick"))(o:IsOr h O rs)(l6:∀r∈rs,r.2.length<=6)(hc:∀c∈cs,c.at_<rs.length) 
  (gR:h[R]?=Za (.lst (cs.map tupC)))(gW:h[W]?=Za (.lst (ps.map λ p:Nat=>.int p)))(gN:h[N]?=Za (.lst (ds.map .int)))(ld:ds.length=cs.length)(ne:ps≠[])(hp:∀p∈ps,p<cs.length) :
  WR (Ja4 (k+5) [.ref O,.ref R,.ref W,.ref N] h) λ v h'=>∃p∈ps,v=.int (p:Int)/\(∀p'∈ps,ltL (keyN rs cs ds p') (keyN rs cs ds p)=Zk)/\Ex h h':=by
 have hb:=J8
 rw[Jjh]
 dsimp! [Jdb]
 rw[Jze h0 rfl]
 refine WR.mono (Js2 (kf:=keyV rs cs ds) (n:=3) gW (by simpa using ne) ?_ ?_) ?_
 ·intro y hy h1 x1
  obtain⟨p,hp',rfl⟩:=ZE.mp hy
  have lp:=hp p hp'
  have ac:atI (cs.map tupC) (p:Int)=Za (tupC cs[p]):=JC (by rw[Zt,Zb lp];rfl)
  have ad:atI (ds.map IV.int) (p:Int)=Za (.int (ds[p]' 00)):=JC (by rw[Zt,Zb];rfl)
  have ek:keyV rs cs ds (.int (p:Int))=[XU rs cs[p] (ds[p]' 00),if Xo rs cs[p] (ds[p]' 00)=Zi then 0 else 1,(p:Int)]:=by
   show keyN rs cs ds (Zcz (p:Int))=_
   rw[Za1]
   unfold keyN
   rw[Ze,Ze,Zb lp,Zb (show p<ds.length by omega)]
   rfl
  have hc':=hc _ (Zz lp)
  rw[ek]
  generalize cs[p]=c at ac hc'
  generalize ds[p]' 00=d at ad
  simp only[Z5,Zbv,ZaB,ZaC,ZbH]
  generalize hσ:([Za (.int (p:Int)),Za (.ref N),Za (.ref R),Za (.ref O)]:ISt)=σ
  have e1:Jb Jg (Ja 2) (Ja 0) σ h1=.ok (tupC c) h1:=Ju (by subst hσ;simp! [Js1,x1.get gR,ac])
  have e2:Jb Jg (Ja 1) (Ja 0) σ h1=.ok (.int d) h1:=Ju (by subst hσ;simp! [Js1,x1.get gN,ad])
  dsimp! [Jcg]
  refine WR.mono (Jhq (k:=k) (o.kp x1.kp) (by subst hσ;rfl) e1 e2 hc' l6) ?_
  rintro _ h2 ⟨rfl,x2⟩
  subst hσ
  simp! [stv,ZD,ZaQ]
  refine⟨00,?_⟩
  rw[Jy8 03 03 (by simp;omega)]
  exact⟨rfl,x2⟩
 ·intro y hy
  obtain⟨p,hp',rfl⟩:=ZE.mp hy
  rfl
 ·rintro v h1 ⟨hv,le,x1⟩
  obtain⟨p,hp',rfl⟩:=ZE.mp hv
  refine⟨p,hp',rfl,λ p' q=>?_,x1⟩
  have:=le _ (ZE.mpr ⟨p',q,rfl⟩)
  simpa only[keyV,Za1] using this
theorem Jop {O:Nat}{oe:E1}{a:A1}{v1 v2 v3:IV}(o:IsOr h O rs)(ho:oe σ h=.ok (.ref O) h)(h1:a σ h=.ok [v1,v2,v3] h)(q:WR (Ja4 k [.ref O,v1,v2,v3] h) P) :
  WR (Jn (pg k) "pick" 3 oe a σ h) P:=by
 obtain⟨D,hd,T,kvs,gO,gT,tv⟩:=o
 rw[VP (i:=O) (h1:=h) ho gO olp (Jhy _),h1]
 dsimp! [YZ]
 exact q
end
section
seal L4.run L4.WS
def rdC (c:Cm):Int:=c.come+c.late
def duC (rs:List RH)(c:Cm):Int:=c.come+(rs.getD c.at_ rd).1.due
section
variable {k:Nat}{h:IH}
theorem chL (ea:a σ h=.ok (.int i) h1)(eb:b σ h1=.ok (.int j) h2)(ec:c σ h2=.ok (.int l) h3)(t1:i<=j)(t2:j<=l):Qa cLe cLe a b c σ h=.ok (.bl Zi) h3:=by
 unfold Qa
 rw[ea]
 dsimp only[Res.bind]
 rw[eb]
 show(match IV.bl (decide (i<=j)) with|.bl Zi=>_|.bl Zk=>_|_=>_)=_
 rw[decide_eq_true t1]
 show(c σ h2).bind _=_
 rw[ec]
 show Res.ok (IV.bl (decide (j<=l))) h3=_
 rw[decide_eq_true t2]
theorem Jt3 (hd:IsDu h D rs)(ok:COk rs c):WR (Jdh (k+3) [.ref D,tupC c] h) λ v h'=>v=.bl Zi/\Ex h h':=by
 have hb:=J8
 obtain⟨vs,hD,w⟩:=hd
 have wl:=w.len
 obtain⟨a,b,c,d⟩:=c
 obtain⟨q1,q2,q3,q4,q5,q6⟩:=ok
 have q1:a<rs.length:=q1
 obtain⟨j,ev,gj⟩:=w.get (Zb q1)
 have av:=JC ev
 have q4:c<=(rs[a]).1.late:=q4
 have q6:d<=(rs[a]).1.len:=q6
 generalize rs[a]=r at gj q4 q6
 rw[Jky]
 refine xfin (xseq (xiff rfl (xnil (xseq ?_))))
 obtain⟨_,_,ec,rfl,g,rfl⟩:=(QC (it:=J6 (Ja 1)) (e:=Ja2 (k+2)) (js:=[]) (σ:=[Za (.ref D),Za (tupC ⟨a,b,c,d⟩),Zc]) (h0:=h) (h:=h) (xs:=[IV.int (a:Int),IV.int b,IV.int c,IV.int d]) (chk:=λ _=>True) (f:=λ _=>.bl Zi) ⟨rfl,rfl,rfl⟩ (by simp;omega) (λ _ _=>trivial) (by
  intro v hv h2 q
  obtain⟨i,rfl⟩:∃i,v=.int i:=by
   simp only[Z6,Zal,or_false] at hv
   rcases hv with rfl|rfl|rfl|rfl<;>exact⟨_,rfl⟩
  unfold Ja2
  exact Je (JO (arg1 rfl) (Jfr _)) ⟨rfl,.refl _⟩)).eq
 refine xiff (notE (c:=Zi) (truE ((cbE (arg1 ec)).trans (all_map (f:=λ _=>Zi) J1)))) (xnil ?_)
 have x1:Ex h (h++IX.lst ([IV.int (a:Int),IV.int b,IV.int c,IV.int d].map λ _=>.bl Zi)::g):=.cons _ _ _
 generalize h++IX.lst ([IV.int (a:Int),IV.int b,IV.int c,IV.int d].map λ _=>.bl Zi)::g=h1 at x1
 have D1:=x1.get hD
 refine xseq (xiff (orF (notE (tofE (chT rfl (ixtE rfl rfl JS) (dotE rfl D1 dls (Jbf _) rfl (Jew D1)) (Int.natCast_nonneg a) (by rw[wl];omega)))) (okc (ltE (ixtE rfl rfl JY) rfl) (decide_eq_false (Int.not_lt.mpr q2)))) (xnil (xseq (xset (Je (wkE D1 rfl (ixtE rfl rfl JS) av) ?_)))))
 exact xret (Je (J2t (chL rfl (ixtE rfl rfl QL) (fldE rfl (x1.get gj) fl4) q3 q4) (chL rfl (ixtE rfl rfl VD) (fldE rfl (x1.get gj) fl2) q5 q6)) ⟨rfl,x1⟩)
theorem Jxh {cs:List Cm}(hd:IsDu h D rs)(gR:h[R]?=Za (.lst (cs.map tupC)))(L:Legal rs cs)(hl:cs.length<=1000) :
  WR (Jbt (k+4) [.ref D,.ref R] h) λ v h'=>v=.non/\Ex h h':=by
 have hb:=J8
 obtain⟨vs,hD,w⟩:=id hd
 rw[Jh1]
 refine xfin (xseq (xset (Je rfl (xseq (xfor ?_)))))
 rw[QE]
 refine Je (arg1 rfl) ((Jj3 _).mpr ⟨_,grow gR,?_⟩)
 refine QG (λ n σ h'=>∃kvs g a b c,h'=h++IX.dct kvs::g/\σ=[Za (.ref D),Za (.ref R),Za (.ref h.length),a,b,c]/\kvs.length<=n/\∀(a:Nat) v,valI kvs (.inl (a:Int))=Za v->∃i c,i<n/\cs[i]?=Za c/\c.at_=a/\v=.int c.come) ?_ ?_ ?_ ⟨[],[],Zc,Zc,Zc,rfl,rfl,Zp _,λ a v e=>by cases e⟩
 ·rintro _ _ _ ⟨kvs,g,a,b,c,rfl,_⟩
  exact grow gR
 ·rintro n hn _ _ ⟨kvs,g,a,b,c,rfl,rfl,ln,td⟩
  rw[Yi]
  have hc:n<cs.length:=by simpa [QW] using hn
  have x1:Ex h (h++IX.dct kvs::g):=.cons _ _ _
  rw[ZP]
  have ec:cs[n]?=Za cs[n]:=Zb hc
  have ok:=L.ok _ (Zz hc)
  generalize cs[n]=ci at ec ok
  obtain⟨_,_,e2,rfl,g2,rfl⟩:=(Jt3 (k:=k) (c:=ci) (hd.kp x1.kp) ok).eq
  refine xnx rfl (xseq (xiff (notE (truE (JO (arg2 rfl rfl) e2))) (xnil (xseq (xset (Je (ixtE rfl rfl JS) (xseq ?_)))))))
  have eh:h++IX.dct kvs::g++g2=h++IX.dct kvs::(g++g2):=by rw[ZZ,ZS]
  rw[eh]
  have x2:Ex h (h++IX.dct kvs::(g++g2)):=.cons _ _ _
  have hat:=ok.at_
  have er:=Zb hat
  obtain⟨j,ev,gj⟩:=w.get er
  have av:=JC ev
  generalize rs[ci.at_]=r at er gj
  have fin:∀{σ:ISt}(a b c),σ=[Za (.ref D),Za (.ref R),Za (.ref h.length),a,b,c]->∃kvs_1 g_1 a b c,List.set (h++IX.dct kvs::(g++g2)) h.length (IX.dct (putD kvs (.inl (ci.at_:Int)) (.int ci.come)))=h++IX.dct kvs_1::g_1/\σ=[Za (.ref D),Za (.ref R),Za (.ref h.length),a,b,c]/\kvs_1.length<=n+1/\∀(a:Nat) v,valI kvs_1 (.inl (a:Int))=Za v->∃i c,i<n+1/\cs[i]?=Za c/\c.at_=a/\v=.int c.come:=by
   intro σ a b c hσ
   refine⟨_,_,_,_,_,XF _ _ _,hσ,?_,λ a v e=>?_⟩
   ·unfold putD
    split
    ·rw[Zm];omega
    ·rw[Z0,Za9];omega
   ·rw[Jgf] at e
    split at e
    ·rename_i z
     cases e
     exact⟨n,ci,00,ec,by have:=Sum.inl.inj z;omega,rfl⟩
    ·obtain⟨i,c,h1,h2⟩:=td a v e
     exact⟨i,c,00,h2⟩
  have key:∀{σ:ISt}(a b:Option IV),σ=[Za (.ref D),Za (.ref R),Za (.ref h.length),a,Za (tupC ci),Za (.int (ci.at_:Int))]->∀P,WS (sAsg (Jb Jg (Ja 4) (eC (.int 1))) (gSbD (Ja 2) (Ja 5)) σ (h++IX.dct kvs::(g++g2))) (λ σ h'=>∃kvs g a b c,h'=h++IX.dct kvs::g/\σ=[Za (.ref D),Za (.ref R),Za (.ref h.length),a,b,c]/\kvs.length<=n+1/\∀(a:Nat) v,valI kvs (.inl (a:Int))=Za v->∃i c,i<n+1/\cs[i]?=Za c/\c.at_=a/\v=.int c.come) P:=by
   rintro σ a b rfl P
   refine(QF ..).mpr (Je (ixtE rfl rfl JY) ?_)
   rw[Jm3]
   refine Je rfl (Je rfl ?_)
   rw[Jj9 (J1 (h:=h)) (show kvs.length<sizeLine by omega)]
   exact fin _ _ _ rfl
  have ei:∀{σ:ISt}(a b:Option IV),σ=[Za (.ref D),Za (.ref R),Za (.ref h.length),a,Za (tupC ci),Za (.int (ci.at_:Int))]->Jh asB (Jb cInD (Ja 5) (Ja 2)) σ (h++IX.dct kvs::(g++g2))=.ok (valI kvs (.inl (ci.at_:Int))).isSome (h++IX.dct kvs::(g++g2)):=by
   rintro σ a b rfl
   exact tofE ((binE rfl rfl).trans (Ju (by rw[Jwt J1];exact⟨rfl,rfl⟩)))
  cases el:valI kvs (.inl (ci.at_:Int)) with
  | none=>exact xiff (andF ((ei _ Zc rfl).trans (by rw[el];rfl))) (xnil (key _ Zc rfl _))
  | some l =>
   obtain⟨i,c0,hi,e0,ea,rfl⟩:=td _ _ el
   have far:=L.far i n c0 ci hi e0 ec ea r (by rw[ea];exact er)
   exact xiff (andT ((ei _ Zc rfl).trans (by rw[el];rfl)) (okc (ltE (subE (ixtE rfl rfl JY) ((binE rfl rfl).trans (Ju (by rw[Jsz J1 el];exact⟨rfl,rfl⟩)))) (fldE (wkE (x2.get hD) rfl rfl av) (x2.get gj) fl1)) (decide_eq_false 00))) (xnil (key _ Zc rfl _))
 ·rintro _ _ ⟨kvs,g,a,b,c,rfl,rfl,_⟩
  exact xret (Je rfl ⟨rfl,.cons _ _ _⟩)
theorem Jzm {cs:List Cm}(hd:IsDu h D rs)(gR:h[R]?=Za (.lst (cs.map tupC)))(L:Legal rs cs)(hl:cs.length<=200) :
  WR (Jgl (k+5) [.ref D,.ref R] h) λ v h'=>v=.non/\Ex h h':=by
 rw[Joy]
 refine xfin (xseq (xiff (okc (gtE (lenE rfl gR) rfl) (decide_eq_false (by rw[Zm];omega))) (xnil (xseq (xset (xb (Je (arg2 rfl rfl) (WR.mono (Jxh (k:=k) hd gR L 00) ?_))))))))
 rintro _ h1 ⟨rfl,x1⟩
 exact xiff rfl (xnil ⟨rfl,x1⟩)
theorem Jnt:Jix (k+1) [tupC c] h=.ok (.int (rdC c)) h:=Ju (by rw[Jtp];exact xfin (xret (Je (addE (ixtE rfl rfl JY) (ixtE rfl rfl QL)) ⟨rfl,rfl⟩)))
end
end
theorem Jka {t:T1}{b:S1}{σ:ISt}{h:IH}{N:ISt->IH->Prop}{R:IV->IH->Prop}(I:Nat->ISt->IH->Prop) 
  (turn:∀m σ h,I m σ h->WR (t σ h) λ c h1=>(c=Zi->∃m',m=m'+1/\WS (b σ h1) (I m') R)/\(c=Zk->N σ h1)){m:Nat}(hm:m<1000000)(start:I m σ h):WS (XD t b σ h) N R:=by
 have key:∀(n m:Nat)(σ:ISt)(h:IH),m<n->I m σ h->WS (Vr t b n σ h) N R:=by
  intro n
  induction n with
  | zero=>intro m σ h hn _;omega
  | succ n ih =>
   intro m σ h hn hI
   obtain⟨c,h1,e,q1,q2⟩:=(turn m σ h hI).eq
   unfold Vr
   rw[e]
   cases c with
   | false=>exact q2 rfl
   | true =>
    obtain⟨m',rfl,w⟩:=q1 rfl
    simp only[if_true]
    cases eb:b σ h1 with
    | next σ2 h2=>rw[eb] at w;exact ih m' σ2 h2 00 w
    | ret v h2=>rw[eb] at w;exact w
    | _=>rw[eb] at w;exact w.elim
 have et:VN=1000000:=by unfold VN;rfl
 rw[Jlj]
 exact key _ m σ h (by rw[et];exact hm) start
structure Bs where
 ds:List Int
 lr:List Nat
 wa:List Nat
 t:Int
 sr:List (Nat×Int×Int)
def rdN (cs:List Cm)(p:Nat):Int:=rdC (cs.getD p cd)
def lnN (cs:List Cm)(p:Nat):Int:=(cs.getD p cd).len
def hsN (rs:List RH)(cs:List Cm)(p:Nat):List Hd:=(rs.getD (cs.getD p cd).at_ rd).2
def pops (cs:List Cm)(t:Int):List Nat->List Nat->List Nat×List Nat
 | [],wa=>([],wa)
 | p::lr,wa=>if rdN cs p<=t then pops cs t lr (wa++[p]) else(p::lr,wa)
def tIn (cs:List Cm)(s:Bs):Int:=match s.wa,s.lr with
 | [],p::_=>if rdN cs p>s.t then rdN cs p else s.t
 | _,_=>s.t
def letM (cs:List Cm)(s:Bs):Bs:=⟨s.ds,(pops cs (tIn cs s) s.lr s.wa).1,(pops cs (tIn cs s) s.lr s.wa).2,tIn cs s,s.sr⟩
def Vi (rs:List RH)(cs:List Cm)(ds:List Int)(wa:List Nat)(p:Nat):Prop:=p∈wa/\∀q∈wa,ltL (keyN rs cs ds q) (keyN rs cs ds p)=Zk
def X6 (rs:List RH)(cs:List Cm)(ds:List Int)(wa:List Nat):Nat:=(wa.find? λ p=>wa.all λ q=>!ltL (keyN rs cs ds q) (keyN rs cs ds p)).getD 0
theorem Vi.uniq (a:Vi rs cs ds wa p)(b:Vi rs cs ds wa q):p=q:=by
 have:=Jv7 (a:=keyN rs cs ds p) (b:=keyN rs cs ds q) rfl (b.2 p a.1) (a.2 q b.1)
 simp only[keyN,ZdD,and_true] at this
 omega
theorem Vi.eq (a:Vi rs cs ds wa p):X6 rs cs ds wa=p:=by
 unfold X6
 cases e:wa.find? λ p=>wa.all λ q=>!ltL (keyN rs cs ds q) (keyN rs cs ds p) with
 | none =>
  have:=List.find?_eq_none.mp e p a.1
  simp only[ZaG,ZaZ,Bool.not_eq_true] at this
  exact absurd a.2 this
 | some q =>
  have h1:=List.find?_some e
  simp only[ZaG,ZaZ] at h1
  exact Vi.uniq ⟨List.mem_of_find?_eq_some e,h1⟩ a
def Qt (hs:List Hd)(d len:Int):List Int:=len::(hs.filter λ a=>decide (d<a.2.2)).map (·.2.2)
def QA (hs:List Hd)(d len:Int):Int:=JZ (λ i=>(Qt hs d len).getD i 0) (Qt hs d len).length
def Qc (rs:List RH)(cs:List Cm)(s:Bs)(p:Nat):Int:=match s.lr with
 | []=>QA (hsN rs cs p) (s.ds.getD p 0) (lnN cs p)-s.ds.getD p 0
 | q::_=>if rdN cs q-s.t<QA (hsN rs cs p) (s.ds.getD p 0) (lnN cs p)-s.ds.getD p 0 then rdN cs q-s.t else QA (hsN rs cs p) (s.ds.getD p 0) (lnN cs p)-s.ds.getD p 0
def Vd (p:Nat)(t u:Int):List (Nat×Int×Int)->List (Nat×Int×Int)
 | []=>[(p,t,u)]
 | a::r=>if a.1=p then(p,a.2.1,u)::r else(p,t,u)::a::r
def doM (rs:List RH)(cs:List Cm)(s:Bs)(p:Nat)(n:Int):Bs:=⟨s.ds.set p (s.ds.getD p 0+n),s.lr,if s.ds.getD p 0+n=lnN cs p then s.wa.erase p else s.wa,s.t+n,Vd p s.t (s.t+n) s.sr⟩
def goM (rs:List RH)(cs:List Cm)(s:Bs):Bs:=doM rs cs s (X6 rs cs s.ds s.wa) (Qc rs cs s (X6 rs cs s.ds s.wa))
def Q0 (rs:List RH)(cs:List Cm)(s:Bs):Bs:=goM rs cs (letM cs s)
def runM (rs:List RH)(cs:List Cm):Nat->Bs->Bs
 | 0,s=>s
 | m+1,s=>if s.lr=[]/\s.wa=[] then s else runM rs cs m (Q0 rs cs s)
def lr0 (cs:List Cm):List Nat:=(ordK (cs.map rdC).reverse cs.length).map λ i=>cs.length-1-i
def s0 (cs:List Cm):Bs:=⟨cs.map λ _=>0,lr0 cs,[],0,[]⟩
def finM (rs:List RH)(cs:List Cm):Bs:=runM rs cs (8*cs.length) (s0 cs)
theorem Jn4 (hs:List Hd)(d len:Int):QA hs d len=len∨∃a∈hs,d<a.2.2/\QA hs d len=a.2.2:=by
 obtain⟨j,hj,e⟩:=Jmb (λ i=>(Qt hs d len).getD i 0) (Qt hs d len).length (by simp[Qt])
 unfold QA
 rw[e]
 cases j with
 | zero=>exact .inl rfl
 | succ j =>
  refine .inr ?_
  have hj':j<(hs.filter λ a=>decide (d<a.2.2)).length:=by simpa [Qt] using hj
  have m:=Zz hj'
  rw[Za4] at m
  refine⟨_,m.1,of_decide_eq_true m.2,?_⟩
  simp[Qt,Ze,Zb hj']
theorem Jmz (hs:List Hd)(d len:Int):QA hs d len<=len:=XY (λ i=>(Qt hs d len).getD i 0) _ 0 (by simp[Qt])
theorem Jy1 (h:d<len):d<QA hs d len:=by
 rcases Jn4 hs d len with e|⟨a,_,l,e⟩<;>omega
structure Wf (cs:List Cm)(s:Bs):Prop where
 ld:s.ds.length=cs.length
 mem:∀p∈s.lr++s.wa,p<cs.length
 nd:(s.lr++s.wa).Nodup
 srt:s.lr.Pairwise λ p q=>rdN cs p<=rdN cs q
 z:∀p∈s.lr++s.wa,0<=s.ds.getD p 0/\s.ds.getD p 0<lnN cs p
 dn:∀p,p<cs.length->p∉s.lr++s.wa->s.ds.getD p 0=lnN cs p
 z0:∀p∈s.lr,s.ds.getD p 0=0
 rw:∀p∈s.wa,rdN cs p<=s.t
theorem Je2 (cs:List Cm)(t:Int):∀(lr wa:List Nat),((pops cs t lr wa).1++(pops cs t lr wa).2).Perm (lr++wa)
 | [],wa=>.refl _
 | p::lr,wa=>by
  unfold pops
  split
  ·refine(Je2 cs t lr (wa++[p])).trans ?_
   rw[<- ZZ]
   exact List.perm_append_singleton p (lr++wa)
  ·exact .refl _
theorem Yz (cs:List Cm)(t:Int):∀(lr wa:List Nat),∃a,lr=a++(pops cs t lr wa).1/\(pops cs t lr wa).2=wa++a/\(∀p∈a,rdN cs p<=t)/\∀q r,(pops cs t lr wa).1=q::r->t<rdN cs q
 | [],wa=>⟨[],rfl,by simp[pops],03,by simp[pops]⟩
 | p::lr,wa=>by
  unfold pops
  split
  ·rename_i c
   obtain⟨a,e1,e2,e3,e4⟩:=Yz cs t lr (wa++[p])
   exact⟨p::a,congrArg (p:: ·) e1,by rw[e2];simp,λ q hq=>by rcases Z6.mp hq with rfl|hq;exact c;exact e3 q hq,e4⟩
  ·rename_i c
   exact⟨[],rfl,03,03,λ q r e=>by cases e;omega⟩
theorem Jn6 (cs:List Cm)(s:Bs):s.t<=tIn cs s:=by
 unfold tIn
 split
 ·split<;>omega
 ·omega
theorem Wf.let (w:Wf cs s):Wf cs (letM cs s):=by
 obtain⟨a,e1,e2,e3,e4⟩:=Yz cs (tIn cs s) s.lr s.wa
 have pm:=Je2 cs (tIn cs s) s.lr s.wa
 have tg:=Jn6 cs s
 refine⟨w.ld,λ p hp=>w.mem p (pm.mem_iff.mp hp),pm.nodup_iff.mpr w.nd,?_,λ p hp=>w.z p (pm.mem_iff.mp hp),λ p l hp=>w.dn p l λ z=>hp (pm.mem_iff.mpr z),λ p hp=>w.z0 p ?_,λ p hp=>?_⟩
 ·have:=w.srt
  rw[e1] at this
  exact(ZcN.mp this).2.1
 ·rw[e1]
  exact Zj _ hp
 ·have hp:p∈(pops cs (tIn cs s) s.lr s.wa).2:=hp
  rw[e2] at hp
  rcases ZV.mp hp with hp|hp
  ·have:=w.rw p hp
   exact Zcd this tg
  ·exact e3 p hp
theorem Jrr {s:Bs}(ne:¬(s.lr=[]/\s.wa=[])):(letM cs s).wa≠[]:=by
 obtain⟨a,e1,e2,e3,e4⟩:=Yz cs (tIn cs s) s.lr s.wa
 intro e
 have e:(pops cs (tIn cs s) s.lr s.wa).2=[]:=e
 rw[e2] at e
 obtain⟨ew,ea⟩:=List.append_eq_nil_iff.mp e
 cases el:s.lr with
 | nil=>exact ne ⟨el,ew⟩
 | cons p r =>
  have:=e4 p r (by rw[<- el];simpa [ea] using e1.symm)
  have ht:tIn cs s=if rdN cs p>s.t then rdN cs p else s.t:=by unfold tIn;rw[ew,el]
  rw[ht] at this
  split at this<;>omega
theorem Jrq (w:Wf cs s):∀q∈(letM cs s).lr,(letM cs s).t<rdN cs q:=by
 obtain⟨a,e1,e2,e3,e4⟩:=Yz cs (tIn cs s) s.lr s.wa
 have ws:=w.let.srt
 show ∀q∈(pops cs (tIn cs s) s.lr s.wa).1,tIn cs s<rdN cs q
 have ws:((pops cs (tIn cs s) s.lr s.wa).1).Pairwise _:=ws
 cases e:(pops cs (tIn cs s) s.lr s.wa).1 with
 | nil=>simp
 | cons p r =>
  have:=e4 p r e
  rw[e] at ws
  intro q hq
  rcases Z6.mp hq with rfl|hq
  ·exact this
  ·have:=(Zcw.mp ws).1 q hq
   omega
theorem Jho {s:Bs}(gt:∀q∈s.lr,s.t<rdN cs q)(l:s.ds.getD p 0<lnN cs p):0<Qc rs cs s p/\s.ds.getD p 0+Qc rs cs s p<=QA (hsN rs cs p) (s.ds.getD p 0) (lnN cs p):=by
 have:=Jy1 (hs:=hsN rs cs p) l
 unfold Qc
 split
 ·omega
 ·rename_i q r e
  have:=gt q (by rw[e];simp)
  split<;>omega
theorem Xv {α:Type}{l:List α}{i j:Nat}{x z:α}:(l.set i x).getD j z=if i=j/\j<l.length then x else l.getD j z:=by
 simp only[Ze,List.getElem?_set]
 by_cases e:i=j
 ·subst e
  by_cases l':i<l.length
  ·simp[l']
  ·simp[l',Zaw (ZcE l')]
 ·simp[e]
theorem Wf.do {rs:List RH}{cs:List Cm}{s:Bs}(w:Wf cs s){p:Nat}(hp:p∈s.wa){n:Int}(n0:0<n)(nl:s.ds.getD p 0+n<=lnN cs p):Wf cs (doM rs cs s p n):=by
 have lp:=w.mem p (Zj _ hp)
 have sub:(s.lr++(doM rs cs s p n).wa).Sublist (s.lr++s.wa):=by
  refine List.Sublist.append_left ?_ _
  show List.Sublist (if _ then _ else _) _
  split
  ·exact List.erase_sublist
  ·exact List.Sublist.refl _
 have nl':∀q∈s.lr,q≠p:=λ q hq e=>(ZcN.mp w.nd).2.2 q hq p hp e
 have nw:s.wa.Nodup:=(ZcN.mp w.nd).2.1
 have g:∀q,(doM rs cs s p n).ds.getD q 0=if p=q then s.ds.getD p 0+n else s.ds.getD q 0:=λ q=>by
  show(s.ds.set p _).getD q 0=_
  rw[Xv]
  by_cases e:p=q
  ·subst e;rw[if_pos ⟨rfl,by rw[w.ld];exact lp⟩,if_pos rfl]
  ·rw[if_neg λ z=>e z.1,if_neg e]
 refine⟨by show(s.ds.set _ _).length=_;rw[Zbf];exact w.ld,λ q hq=>w.mem q (sub.subset hq),w.nd.sublist sub,w.srt,λ q hq=>?_,λ q lq hq=>?_,λ q hq=>?_,λ q hq=>?_⟩
 ·have:=w.z q (sub.subset hq)
  rw[g]
  split
  ·rename_i e
   subst e
   refine⟨00,?_⟩
   rcases ZV.mp hq with hq|hq
   ·exact absurd rfl (nl' p hq)
   ·have hq:p∈if s.ds.getD p 0+n=lnN cs p then s.wa.erase p else s.wa:=hq
    split at hq
    ·exact absurd hq (List.Nodup.not_mem_erase nw)
    ·omega
  ·exact this
 ·rw[g]
  split
  ·rename_i e
   subst e
   have hq:p∉s.lr++if s.ds.getD p 0+n=lnN cs p then s.wa.erase p else s.wa:=hq
   split at hq
   ·assumption
   ·exact absurd (Zj _ hp) hq
  ·rename_i ne
   refine w.dn q lq λ z=>hq ?_
   show q∈s.lr++if s.ds.getD p 0+n=lnN cs p then s.wa.erase p else s.wa
   split
   ·rcases ZV.mp z with z|z
    ·exact Zaq _ z
    ·exact Zj _ ((List.mem_erase_of_ne (ZR ne)).mpr z)
   ·exact z
 ·rw[g,if_neg (ZR (nl' q hq))]
  exact w.z0 q hq
 ·have:=w.rw q (by
   have hq:q∈if s.ds.getD p 0+n=lnN cs p then s.wa.erase p else s.wa:=hq
   split at hq
   ·exact List.mem_of_mem_erase hq
   ·exact hq)
  show _<=s.t+n
  omega
theorem Jmq:∀{wa:List Nat},wa≠[]->∃p,Vi rs cs ds wa p
 | [],h=>absurd rfl h
 | [p],_=>⟨p,03,λ q hq=>by rw[Zv.mp hq];exact Yq _⟩
 | p::q::r,_=>by
  obtain⟨m,hm,lm⟩:=Jmq (rs:=rs) (cs:=cs) (ds:=ds) (wa:=q::r) 03
  cases c:ltL (keyN rs cs ds p) (keyN rs cs ds m) with
  | true =>
   refine⟨p,03,λ x hx=>?_⟩
   rcases Z6.mp hx with rfl|hx
   ·exact Yq _
   ·cases z:ltL (keyN rs cs ds x) (keyN rs cs ds p) with
    | false=>rfl
    | true=>exact absurd (Jhg z c) (by rw[lm x hx];exact Zu)
  | false =>
   refine⟨m,Zl _ hm,λ x hx=>?_⟩
   rcases Z6.mp hx with rfl|hx
   ·exact c
   ·exact lm x hx
def VE (rs:List RH)(cs:List Cm)(ds:List Int)(p:Nat):Nat:=((hsN rs cs p).filter λ a=>decide (ds.getD p 0<a.2.2)).length
def mea (rs:List RH)(cs:List Cm)(s:Bs):Nat:=(s.lr++s.wa).length+((ZT cs.length).map (VE rs cs s.ds)).sum+(s.lr.filter λ p=>decide (s.t<rdN cs p)).length
theorem Yk {α:Type}{f g:α->Bool}:∀{l:List α},(∀x∈l,f x=Zi->g x=Zi)->(l.filter f).length<=(l.filter g).length
 | [],_=>03
 | x::l,h=>by
  have ih:=Yk (l:=l) λ y hy=>h y (Zl _ hy)
  have:=h x 03
  simp only[Zbi]
  split
  ·rename_i c
   rw[if_pos (this c)]
   simpa using ih
  ·split
   ·simp only[ZD];omega
   ·exact ih
theorem Jme {α:Type}{f g:α->Bool}{a:α}:∀{l:List α},a∈l->f a=Zk->g a=Zi->(∀x∈l,f x=Zi->g x=Zi)->(l.filter f).length<(l.filter g).length
 | x::l,ha,fa,ga,h=>by
  have le:=Yk (l:=l) λ y hy=>h y (Zl _ hy)
  have hx:=h x 03
  rcases Z6.mp ha with rfl|ha
  ·simp only[Zbi,fa,ga,if_true,ZX,if_false,ZD];omega
  ·have ih:=Jme ha fa ga λ y hy=>h y (Zl _ hy)
   simp only[Zbi]
   split
   ·rename_i c
    rw[if_pos (hx c)]
    simpa using ih
   ·split
    ·simp only[ZD];omega
    ·exact ih
theorem Jn1 {f g:Nat->Nat}:∀{l:List Nat},(∀x∈l,f x<=g x)->(l.map f).sum<=(l.map g).sum
 | [],_=>Zp _
 | x::l,h=>by
  have:=h x 03
  have:=Jn1 (l:=l) λ y hy=>h y (Zl _ hy)
  simp only[Z5,Zbl]
  omega
theorem Jwi {f g:Nat->Nat}{a:Nat}:∀{l:List Nat},a∈l->f a<g a->(∀x∈l,f x<=g x)->(l.map f).sum<(l.map g).sum
 | x::l,ha,la,h=>by
  have hx:=h x 03
  have le:=Jn1 (l:=l) λ y hy=>h y (Zl _ hy)
  simp only[Z5,Zbl]
  rcases Z6.mp ha with rfl|ha
  ·omega
  ·have:=Jwi ha la λ y hy=>h y (Zl _ hy)
   omega
theorem Jx3 (rs:List RH)(cs:List Cm)(s:Bs):mea rs cs (letM cs s)<=mea rs cs s:=by
 obtain⟨a,e1,e2,e3,e4⟩:=Yz cs (tIn cs s) s.lr s.wa
 have pm:=(Je2 cs (tIn cs s) s.lr s.wa).length_eq
 have tg:=Jn6 cs s
 show((pops cs (tIn cs s) s.lr s.wa).1++(pops cs (tIn cs s) s.lr s.wa).2).length+_+((pops cs (tIn cs s) s.lr s.wa).1.filter λ p=>decide (tIn cs s<rdN cs p)).length<=_
 rw[pm]
 unfold mea
 have h1:=Yk (f:=λ p=>decide (tIn cs s<rdN cs p)) (g:=λ p=>decide (s.t<rdN cs p)) (l:=(pops cs (tIn cs s) s.lr s.wa).1) λ x _ c=>decide_eq_true (Int.lt_of_le_of_lt tg (of_decide_eq_true c))
 have h2:(s.lr.filter λ p=>decide (s.t<rdN cs p)).length=(a.filter λ p=>decide (s.t<rdN cs p)).length+((pops cs (tIn cs s) s.lr s.wa).1.filter λ p=>decide (s.t<rdN cs p)).length:=by
  conv=>lhs;rw[e1]
  rw[List.filter_append,Z0]
 have h3:((ZT cs.length).map (VE rs cs (letM cs s).ds)).sum=((ZT cs.length).map (VE rs cs s.ds)).sum:=rfl
 omega
theorem J01 (w:Wf cs s)(gt:∀q∈s.lr,s.t<rdN cs q){p:Nat}(hp:p∈s.wa):mea rs cs (doM rs cs s p (Qc rs cs s p))<mea rs cs s:=by
 have lp:=w.mem p (Zj _ hp)
 obtain⟨n0,nl⟩:=Jho (rs:=rs) gt (w.z p (Zj _ hp)).2
 have sl:=Jmz (hsN rs cs p) (s.ds.getD p 0) (lnN cs p)
 have hn:∀n,n=Qc rs cs s p->0<n/\s.ds.getD p 0+n<=lnN cs p:=λ n e=>by rw[e];exact⟨n0,00⟩
 have cases3:(s.ds.getD p 0+Qc rs cs s p=lnN cs p)∨(∃a∈hsN rs cs p,s.ds.getD p 0<a.2.2/\s.ds.getD p 0+Qc rs cs s p=a.2.2)∨∃q∈s.lr,s.t+Qc rs cs s p=rdN cs q:=by
  unfold Qc
  have:=Jn4 (hsN rs cs p) (s.ds.getD p 0) (lnN cs p)
  split
  ·rcases this with e|⟨a,ha,l,e⟩
   ·exact .inl 00
   ·exact .inr (.inl ⟨a,ha,l,00⟩)
  ·rename_i q r e
   split
   ·exact .inr (.inr ⟨q,by rw[e];simp,00⟩)
   ·rcases this with e|⟨a,ha,l,e⟩
    ·exact .inl 00
    ·exact .inr (.inl ⟨a,ha,l,00⟩)
 generalize Qc rs cs s p=n at n0 nl cases3
 have gd:∀q,(s.ds.set p (s.ds.getD p 0+n)).getD q 0=if p=q then s.ds.getD p 0+n else s.ds.getD q 0:=λ q=>by
  rw[Xv]
  by_cases e:p=q
  ·subst e;rw[if_pos ⟨rfl,by rw[w.ld];exact lp⟩,if_pos rfl]
  ·rw[if_neg λ z=>e z.1,if_neg e]
 have m2:∀q∈ZT cs.length,VE rs cs (s.ds.set p (s.ds.getD p 0+n)) q<=VE rs cs s.ds q:=λ q _=>Yk λ x _ c=>by
  have c:=of_decide_eq_true c
  rw[gd] at c
  refine decide_eq_true ?_
  split at c
  ·rename_i e;subst e;omega
  ·exact c
 have m3:∀x∈s.lr,decide (s.t+n<rdN cs x)=Zi->decide (s.t<rdN cs x)=Zi:=λ x _ c=>decide_eq_true (by have:=of_decide_eq_true c;omega)
 have l2:=Jn1 m2
 have l3:=Yk m3
 have lw:(s.lr++if s.ds.getD p 0+n=lnN cs p then s.wa.erase p else s.wa).length<=(s.lr++s.wa).length:=by
  rw[Z0,Z0]
  split
  ·have:=Zdl hp
   omega
  ·omega
 show(s.lr++if s.ds.getD p 0+n=lnN cs p then s.wa.erase p else s.wa).length+((ZT cs.length).map (VE rs cs (s.ds.set p (s.ds.getD p 0+n)))).sum+(s.lr.filter λ x=>decide (s.t+n<rdN cs x)).length<(s.lr++s.wa).length+((ZT cs.length).map (VE rs cs s.ds)).sum+(s.lr.filter λ x=>decide (s.t<rdN cs x)).length
 rcases cases3 with e|⟨a,ha,la,e⟩|⟨q,hq,e⟩
 ·rw[if_pos e,Z0,Z0]
  have:=Zdl hp
  have:=List.length_pos_of_mem hp
  omega
 ·have:=Jwi (ZaO.mpr lp) (Jme (a:=a) (f:=λ a=>decide ((s.ds.set p (s.ds.getD p 0+n)).getD p 0<a.2.2)) (g:=λ a=>decide (s.ds.getD p 0<a.2.2)) ha (decide_eq_false (by rw[gd,if_pos rfl];omega)) (decide_eq_true la) λ x _ c=>by
   have c:=of_decide_eq_true c
   rw[gd,if_pos rfl] at c
   exact decide_eq_true 00) m2
  omega
 ·have:=Jme (a:=q) (f:=λ x=>decide (s.t+n<rdN cs x)) (g:=λ x=>decide (s.t<rdN cs x)) hq (decide_eq_false 00) (decide_eq_true (gt q hq)) m3
  omega
section
seal L4.run
abbrev nI (n:Nat):IV:=.int (n:Int)
abbrev tupS (a:Nat×Int×Int):IV:=.tup [.int (a.1:Int),.int a.2.1,.int a.2.2]
def bfs (O R D L W:Nat)(t:Int)(S:Nat):List (Str×IV):=[("order",.ref O),("row",.ref R),("dones",.ref D),("later",.ref L),("waiting",.ref W),("turn",.int t),("stretches",.ref S)]
section
variable {O R D L W S:Nat}{t u:Int}
theorem bf0:(bfs O R D L W t S).lookup ("order":Str)=Za (.ref O):=02
theorem bf1:(bfs O R D L W t S).lookup ("row":Str)=Za (.ref R):=02
theorem bf2:(bfs O R D L W t S).lookup ("dones":Str)=Za (.ref D):=02
theorem bf3:(bfs O R D L W t S).lookup ("later":Str)=Za (.ref L):=02
theorem bf4:(bfs O R D L W t S).lookup ("waiting":Str)=Za (.ref W):=02
theorem bf5:(bfs O R D L W t S).lookup ("turn":Str)=Za (.int t):=02
theorem bf6:(bfs O R D L W t S).lookup ("stretches":Str)=Za (.ref S):=02
theorem bn0:(bfs O R D L W t S).lookup ("next_ready":Str)=Zc:=02
theorem bn1:(bfs O R D L W t S).lookup ("let_in":Str)=Zc:=02
theorem bn2:(bfs O R D L W t S).lookup ("turns_for":Str)=Zc:=02
theorem bn3:(bfs O R D L W t S).lookup ("tell":Str)=Zc:=02
theorem bn4:(bfs O R D L W t S).lookup ("go_on":Str)=Zc:=02
theorem bft:putI "turn" (.int u) (bfs O R D L W t S)=bfs O R D L W u S:=02
end
structure Bg (h0:IH)(rs:List RH)(cs:List Cm)(O R:Nat):Prop where
 o:IsOr h0 O rs
 r:h0[R]?=Za (.lst (cs.map tupC))
 c:∀c∈cs,c.at_<rs.length
 l6:∀r∈rs,r.2.length<=6
 p1:h0[0]?=Za (.tab "Order.pick")
 n:cs.length<=200
structure Bn (h0 h:IH)(B O R D L W S:Nat)(s:Bs):Prop where
 x:Ex h0 h
 ap:h0.length<=B/\B<D/\D<L/\L<W/\W<S
 b:h[B]?=Za (.ins "Bench" (bfs O R D L W s.t S))
 d:h[D]?=Za (.lst (s.ds.map .int))
 l:h[L]?=Za (.lst (s.lr.reverse.map nI))
 w:h[W]?=Za (.lst (s.wa.map nI))
 s:h[S]?=Za (.lst (s.sr.reverse.map tupS))
theorem Vz {h0 h:IH}{i:Nat}{o:IX}(x:Ex h0 h)(l:h0.length<=i):Ex h0 (h.set i o):=by
 obtain⟨g,rfl⟩:=x
 exact⟨g.set (i-h0.length) o,by rw[ZcA _ _ l]⟩
theorem Jw {h:IH}{i j:Nat}{o o':IX}(e:h[j]?=Za o)(n:i≠j):(h.set i o')[j]?=Za o:=by rw[Zaa n];exact e
theorem Qb {h:IH}{i:Nat}{o o':IX}(e:h[i]?=Za o):(h.set i o')[i]?=Za o':=ZW (J4 e)
section
variable {h0 h h':IH}{B O R D L W S:Nat}{s:Bs}
theorem Bn.ex (b:Bn h0 h B O R D L W S s)(x:Ex h h'):Bn h0 h' B O R D L W S s:=⟨b.x.trans x,b.ap,x.get b.b,x.get b.d,x.get b.l,x.get b.w,x.get b.s⟩
theorem Bn.setT (b:Bn h0 h B O R D L W S s)(u:Int):Bn h0 (h.set B (.ins "Bench" (bfs O R D L W u S))) B O R D L W S ⟨s.ds,s.lr,s.wa,u,s.sr⟩ :=
 have ap:=b.ap
 ⟨Vz b.x 00,ap,Qb b.b,Jw b.d 00,Jw b.l 00,Jw b.w 00,Jw b.s 00⟩
theorem Bn.setD (b:Bn h0 h B O R D L W S s)(ds:List Int):Bn h0 (h.set D (.lst (ds.map .int))) B O R D L W S ⟨ds,s.lr,s.wa,s.t,s.sr⟩ :=
 have ap:=b.ap
 ⟨Vz b.x 00,ap,Jw b.b 00,Qb b.d,Jw b.l 00,Jw b.w 00,Jw b.s 00⟩
theorem Bn.setL (b:Bn h0 h B O R D L W S s)(lr:List Nat):Bn h0 (h.set L (.lst (lr.reverse.map nI))) B O R D L W S ⟨s.ds,lr,s.wa,s.t,s.sr⟩ :=
 have ap:=b.ap
 ⟨Vz b.x 00,ap,Jw b.b 00,Jw b.d 00,Qb b.l,Jw b.w 00,Jw b.s 00⟩
theorem Bn.setW (b:Bn h0 h B O R D L W S s)(wa:List Nat):Bn h0 (h.set W (.lst (wa.map nI))) B O R D L W S ⟨s.ds,s.lr,wa,s.t,s.sr⟩ :=
 have ap:=b.ap
 ⟨Vz b.x 00,ap,Jw b.b 00,Jw b.d 00,Jw b.l 00,Qb b.w,Jw b.s 00⟩
theorem Bn.setS (b:Bn h0 h B O R D L W S s)(sr:List (Nat×Int×Int)):Bn h0 (h.set S (.lst (sr.reverse.map tupS))) B O R D L W S ⟨s.ds,s.lr,s.wa,s.t,sr⟩ :=
 have ap:=b.ap
 ⟨Vz b.x 00,ap,Jw b.b 00,Jw b.d 00,Jw b.l 00,Jw b.w 00,Qb b.s⟩
end
theorem Jqd {α:Type}{f:α->IV}{p:α}{lr:List α}:atI ((p::lr).reverse.map f) (-1)=Za (f p):=by
 have e:(-1+((lr.length:Int)+1)).toNat=lr.length:=00
 have l:(1:Int)<=(lr.length:Int)+1:=00
 simp[atI,ixN,e,l]
theorem XW {cs:List Cm}{p:Nat}(lp:p<cs.length):atI (cs.map tupC) (p:Int)=Za (tupC (cs.getD p cd)):=JC (by rw[Zt,Ze,Zb lp];rfl)
theorem Jw1 {ds:List Int}{p:Nat}(lp:p<ds.length):atI (ds.map IV.int) (p:Int)=Za (.int (ds.getD p 0)):=JC (by rw[Zt,Ze,Zb lp];rfl)
section
variable {k:Nat}{h0 h:IH}{rs:List RH}{cs:List Cm}{B O R D L W S:Nat}{s:Bs}{P:IV->IH->Prop}
theorem J3d (g:Bg h0 rs cs O R)(b:Bn h0 h B O R D L W S s){p:Nat}{lr:List Nat}(e:s.lr=p::lr)(lp:p<cs.length):Jae (k+2) [.ref B] h=.ok (.int (rdN cs p)) h:=by
 have bl:=b.l
 rw[e] at bl
 refine Ju ?_
 rw[Jdq]
 exact xfin (xret (Je (JO (arg1 (ixlE (fldE rfl b.b bf1) (ixlE (fldE rfl b.b bf3) rfl bl Jqd) (b.x.get g.r) (XW lp))) Jnt) ⟨rfl,rfl⟩))
theorem nrE {Pn:List (Option IV)}(g:Bg h0 rs cs O R)(b:Bn h0 h B O R D L W S s){p:Nat}{lr:List Nat}(e:s.lr=p::lr)(lp:p<cs.length):Jn (pg (k+2)) "next_ready" 0 (Ja 0) Jd (Za (.ref B)::Pn) h=.ok (.int (rdN cs p)) h :=
 dotE rfl b.b bn0 (Jdp _) rfl (J3d g b e lp)
theorem Jr6 {cs:List Cm}{t:Int}{p:Nat}{lr wa:List Nat}:pops cs t (p::lr) wa=if rdN cs p<=t then pops cs t lr (wa++[p]) else(p::lr,wa):=rfl
theorem Jv5 (g:Bg h0 rs cs O R)(ml:∀p∈s.lr,p<cs.length)(hl:s.lr.length+s.wa.length<=1000)(b:Bn h0 h B O R D L W S s) :
  WS (Jcf (k+2) [Za (.ref B)] h) (λ _ h'=>Bn h0 h' B O R D L W S ⟨s.ds,(pops cs s.t s.lr s.wa).1,(pops cs s.t s.lr s.wa).2,s.t,s.sr⟩) P:=by
 have hb:=J8
 refine Jka (λ m σ h'=>∃lr wa,σ=[Za (.ref B)]/\Bn h0 h' B O R D L W S ⟨s.ds,lr,wa,s.t,s.sr⟩/\lr.length=m/\lr.length+wa.length<=1000/\(∀p∈lr,p<cs.length)/\pops cs s.t lr wa=pops cs s.t s.lr s.wa) ?_ (show s.lr.length<1000000 by omega) ⟨s.lr,s.wa,rfl,b,rfl,hl,ml,rfl⟩
 rintro m _ h1 ⟨lr,wa,rfl,b,lm,l2,ml,ep⟩
 refine Xk (Je (gtE (lenE (fldE rfl b.b bf3) b.l) rfl) (xdec (λ c=>?_) λ c=>?_))
 ·cases lr with
  | nil=>exact absurd c 03
  | cons p lr =>
   rw[Jr6] at ep
   refine Je (leE (nrE g b rfl (ml p 03)) (fldE rfl b.b bf5)) (xdec (λ c=>?_) λ c=>?_)
   ·refine⟨lr.length,by simpa using lm.symm,?_⟩
    refine Qr (Q3 (fldE rfl b.b bf4) b.w Vm (xb (Q3 (fldE rfl b.b bf3) b.l Jqj (Je rfl (xpop (y:=nI p) b.l 03 ?_)))))
    have e:(((p::lr).reverse.map nI).dropLast)=lr.reverse.map nI:=03
    rw[e]
    have b1:=b.setL lr
    refine xb (Je rfl (Je rfl (xapp b1.w (by simp at l2 ⊢;omega) ⟨lr,wa++[p],rfl,?_,rfl,by simp at l2 ⊢;omega,λ q hq=>ml q (Zl _ hq),by rw[<- ep,if_pos c]⟩)))
    have:=b1.setW (wa++[p])
    rw[Zbt] at this
    exact this
   ·rw[if_neg c] at ep
    rw[<- ep]
    exact b
 ·cases lr with
  | nil=>exact⟨(λ z=>by cases z),λ _=>by rw[<- ep];exact b⟩
  | cons p lr=>exact absurd 03 c
theorem J3b (g:Bg h0 rs cs O R)(ml:∀p∈s.lr,p<cs.length)(hl:s.lr.length+s.wa.length<=1000)(ne:¬(s.lr=[]/\s.wa=[]))(b:Bn h0 h B O R D L W S s) :
  WR (Jbh (k+3) [.ref B] h) λ v h'=>v=.non/\Bn h0 h' B O R D L W S (letM cs s):=by
 rw[Jg8]
 refine xfin (xseq (xifd (eqE (lenE (fldE rfl b.b bf4) b.w) rfl) (λ c=>?_) λ c=>?_))
 ·have ew:s.wa=[]:=ZbJ.mp (by simpa using c)
  cases el:s.lr with
  | nil=>exact absurd ⟨el,ew⟩ ne
  | cons p lr =>
   have et:tIn cs s=if rdN cs p>s.t then rdN cs p else s.t:=by unfold tIn;rw[ew,el]
   refine Vt (maxE (fldE rfl b.b bf5) (nrE g b el (ml p (by rw[el];simp)))) rfl b.b (by show(7:Nat)<1000;decide) ?_
   rw[bft]
   have b1:=b.setT (if rdN cs p>s.t then rdN cs p else s.t)
   refine WS.mono (Jv5 (s:=⟨s.ds,s.lr,s.wa,if rdN cs p>s.t then rdN cs p else s.t,s.sr⟩) g ml hl b1) (λ _ h' q=>⟨rfl,?_⟩) λ _ _ z=>z
   unfold letM
   rw[et]
   exact q
 ·have et:tIn cs s=s.t:=by
   unfold tIn
   split
   ·rename_i e _
    rw[e] at c
    exact absurd rfl c
   ·rfl
  refine xnil (WS.mono (Jv5 g ml hl b) (λ _ h' q=>⟨rfl,?_⟩) λ _ _ z=>z)
  unfold letM
  rw[et]
  exact q
end
end
section
seal L4.run
def enP (d:Int):IV->Bool
 | .tup [_,_,.int e]=>decide (d<e)
 | _=>Zk
def enF:IV->IV
 | .tup [_,_,e]=>e
 | _=>.non
theorem Jzx (hs:List Hd)(d:Int):((hs.map tupH).filter (enP d)).map enF=((hs.filter λ a=>decide (d<a.2.2)).map (·.2.2)).map .int:=by
 induction hs with
 | nil=>rfl
 | cons a hs ih =>
  simp only[Z5,Zbi]
  rw[show enP d (tupH a)=decide (d<a.2.2) from rfl]
  split
  ·simp only[Z5,ih];rfl
  ·exact ih
section
variable {k:Nat}{h0 h:IH}{rs:List RH}{cs:List Cm}{B O R D L W S:Nat}{s:Bs}{P:IV->IH->Prop}
theorem J3e {gap ln due late d len:Int}{hs:List Hd}(hw:h[w]?=Za (.ins "Work" (wfs name gap ln due late (hs.map tupH))))(l6:hs.length<=6) :
  WR (Jdm (k+2) [.ref w,.int d,.int len] h) λ v h'=>v=.int (QA hs d len)/\Ex h h':=by
 have hb:=J8
 rw[Jk3]
 have x1:Ex h (h++[.lst [.int len]]):=.one _ _
 refine xfin (xret (xb (xb (xb (xlst (Je (arg1 rfl) ⟨by simp;omega,xb ?_⟩))))))
 refine WR.mono (Jj2 (h:=h++[.lst [.int len]]++[.lst (hs.map tupH)]) (xs:=hs.map tupH) (chk:=λ h'=>h'[(h++[IX.lst [IV.int len]]).length]?=Za (.lst (hs.map tupH))) (p:=enP d) (f:=enF) ?_ (by rw[Zm];omega) (λ h2 q=>q _ _ Jp) ?_ ?_) ?_
 ·rw[QD]
  exact Je (dotE rfl (x1.get hw) flh (Jbg _) rfl (Je6 (x1.get hw))) ((Qp _).mpr ⟨_,Jp,rfl,rfl,rfl⟩)
 ·intro v hv h2 q
  obtain⟨a,_,rfl⟩:=ZE.mp hv
  exact Je (gtE (ixtE rfl rfl QL) rfl) ⟨rfl,.refl _⟩
 ·intro v hv _ h2 q
  obtain⟨a,_,rfl⟩:=ZE.mp hv
  exact Je (ixtE rfl rfl QL) ⟨rfl,.refl _⟩
 ·rintro _ _ ⟨rfl,g,rfl⟩
  rw[Jzx]
  have lf:=Zb0 (λ a:Hd=>decide (d<a.2.2)) hs
  have x2:Ex (h++[.lst [.int len]]) (h++[.lst [.int len]]++[.lst (hs.map tupH)]++.lst (((hs.filter λ a=>decide (d<a.2.2)).map (·.2.2)).map .int)::g):=(Ex.one _ _).trans (.cons _ _ _)
  refine(Jsw ..).mpr ⟨_,x2.get Jp,_,J1,by simp;omega,?_⟩
  refine xb (Je rfl (Je rfl ?_))
  rw[YR,show[IV.int len]++((hs.filter λ a=>decide (d<a.2.2)).map (·.2.2)).map .int=(Qt hs d len).map .int from rfl,Js4 Jp (by simp[Qt])]
  exact⟨rfl,(x1.trans x2).trans (.one _ _)⟩
theorem J38 (g:Bg h0 rs cs O R)(ml:∀p∈s.lr,p<cs.length)(b:Bn h0 h B O R D L W S s)(lp:p<cs.length)(ld:s.ds.length=cs.length) :
  WR (Jah (k+3) [.ref B,nI p] h) λ v h'=>v=.int (Qc rs cs s p)/\Ex h h':=by
 obtain⟨Du,⟨vs,gD,w⟩,fd⟩:=Jmp (g.o.kp b.x.kp)
 have ca:(cs.getD p cd).at_<rs.length:=g.c _ (by rw[Ze,Zb lp];exact Zz lp)
 have l6:=g.l6 _ (Zz ca)
 obtain⟨j,ej,gj⟩:=w.get (Zb ca)
 have av:atI vs ((cs.getD p cd).at_:Int)=Za (.ref j):=JC ej
 have hh:hsN rs cs p=(rs[(cs.getD p cd).at_]).2:=by unfold hsN;rw[VX ca]
 rw[<- hh] at l6
 rw[Jey]
 refine xfin (xseq (xset (Je (ixlE (fldE rfl b.b bf1) rfl (b.x.get g.r) (XW lp)) (xseq (xset (Je (ixlE (fldE rfl b.b bf2) rfl b.d (Jw1 00)) ?_))))))
 refine xseq (xset (xb (xb (xb (Je (dotE (fd _ _ (fldE rfl b.b bf0)) gD dlw (Jcz _) (arg1 (ixtE rfl rfl JS)) (Jg7 gD av)) (xb (Je (arg2 rfl (ixtE rfl rfl VD)) (Je rfl ?_))))))))
 have gj:h[j]?=Za (.ins "Work" (wfs _ _ _ _ _ ((rs[(cs.getD p cd).at_]).2.map tupH))):=gj
 rw[<- hh] at gj
 refine WR.mono (J3e (k:=k) gj l6) ?_
 rintro _ h1 ⟨rfl,x1⟩
 have b1:=b.ex x1
 refine xb (Je rfl (Je rfl (xseq (xifd (gtE (lenE (fldE rfl b1.b bf3) b1.l) rfl) (λ c=>?_) λ c=>?_))))
 ·cases el:s.lr with
  | nil=>rw[el] at c;exact absurd c 03
  | cons q lr =>
   refine xset (Je (minE rfl (subE (nrE g b1 el (ml q (by rw[el];simp))) (fldE rfl b1.b bf5))) (xret (Je rfl ⟨?_,x1⟩)))
   unfold Qc
   rw[el]
   rfl
 ·refine xnil (xret (Je rfl ⟨?_,x1⟩))
  have el:s.lr=[]:=by
   cases el:s.lr with
   | nil=>rfl
   | cons q lr=>rw[el] at c;exact absurd 03 c
  unfold Qc
  rw[el]
  rfl
theorem J37 (b:Bn h0 h B O R D L W S s)(sl:s.sr.length<100000):WR (Jci (k+1) [.ref B,nI p,.int u] h) λ v h'=>v=.non/\Bn h0 h' B O R D L W S ⟨s.ds,s.lr,s.wa,s.t,Vd p s.t u s.sr⟩:=by
 have hb:=J8
 have fin:∀{h1:IH}{bg:Int}{r:List (Nat×Int×Int)},Bn h0 h1 B O R D L W S ⟨s.ds,s.lr,s.wa,s.t,r⟩->r.length<=s.sr.length->Vd p s.t u s.sr=(p,bg,u)::r ->
   WS (Jc9 k [Za (.ref B),Za (nI p),Za (.int u),Za (.int bg)] h1) (λ _ h'=>IV.non=.non/\Bn h0 h' B O R D L W S ⟨s.ds,s.lr,s.wa,s.t,Vd p s.t u s.sr⟩) λ v h'=>v=.non/\Bn h0 h' B O R D L W S ⟨s.ds,s.lr,s.wa,s.t,Vd p s.t u s.sr⟩:=by
  intro h1 bg r b1 lr et
  refine Qr (Q3 (fldE rfl b1.b bf6) b1.s Vm (xb (xtup (xb (Je rfl (xb (Je (arg2 rfl rfl) (Je rfl ⟨by simp;omega,xb (Je rfl (Je rfl (xapp b1.s (by simp;omega) ⟨rfl,?_⟩)))⟩))))))))
  have:=b1.setS ((p,bg,u)::r)
  rw[ZbR,Zbt] at this
  rw[et]
  exact this
 rw[Jjf]
 refine xfin (xseq (xset (Je (fldE rfl b.b bf5) (xseq (xif (Xk (Je (gtE (lenE (fldE rfl b.b bf6) b.s) rfl) (xdec (λ c=>?_) λ c=>?_))))))))
 ·cases es:s.sr with
  | nil=>rw[es] at c;exact absurd c 03
  | cons a r =>
   have bs:=b.s
   rw[es] at bs
   refine Je (eqE (ixtE (ixlE (fldE rfl b.b bf6) rfl bs Jqd) rfl JS) rfl) (xdec (λ c=>?_) λ c=>?_)
   ·refine xset (xb (Q3 (fldE rfl b.b bf6) bs Jqj (Je rfl (xpop (y:=tupS a) bs 03 (xb (Je rfl (xixt JY ?_)))))))
    have e:((a::r).reverse.map tupS).dropLast=r.reverse.map tupS:=03
    rw[e]
    rw[<- es]
    refine fin (r:=r) (b.setS r) (by rw[es];simp) ?_
    rw[es]
    exact if_pos 00
   ·refine xnil ?_
    rw[<- es]
    refine fin (r:=s.sr) b (Zp _) ?_
    rw[es]
    exact if_neg λ z=>c (by rw[z])
 ·refine⟨(λ z=>by cases z),λ _=>xnil (fin (r:=s.sr) b (Zp _) ?_)⟩
  cases es:s.sr with
  | nil=>rfl
  | cons a r=>rw[es] at c;exact absurd 03 c
theorem Jru {α β:Type}{f:α->β}:∀(l:List α)(j:Nat),(l.map f).eraseIdx j=(l.eraseIdx j).map f
 | [],_=>rfl
 | _::_,0=>rfl
 | a::l,j+1=>congrArg (f a:: ·) (Jru l j)
theorem Jq0 {wa:List Nat}{p j:Nat}(e:(wa.map λ n:Nat=>(n:Int)).findIdx? (· ==(p:Int))=Za j):wa.eraseIdx j=wa.erase p:=by
 rw[List.findIdx?_map] at e
 have e:wa.findIdx? (· ==p)=Za j:=by
  rw[<- e]
  congr 1
  funext x
  show(x==p)=((x:Int)==(p:Int))
  rw[Zbr,beq_iff_eq,beq_iff_eq]
  omega
 rw[List.erase_eq_eraseIdx,show List.idxOf? p wa=Za j from e]
theorem J2w (g:Bg h0 rs cs O R)(w:Wf cs s)(ne:¬(s.lr=[]/\s.wa=[]))(sl:s.sr.length<100000)(b:Bn h0 h B O R D L W S s):WR (Jbq (k+6) [.ref B] h) λ v h'=>v=.non/\Bn h0 h' B O R D L W S (Q0 rs cs s):=by
 have ll:(s.lr++s.wa).length<=cs.length:=by
  have:=w.nd.length_le_of_subset (l₂:=ZT cs.length) λ p hp=>ZaO.mpr (w.mem p hp)
  rwa [ZbT] at this
 rw[Z0] at ll
 have cn:=g.n
 have w1:=w.let
 have n1:=Jrr (cs:=cs) ne
 rw[Jhz]
 refine xfin (xseq (Qr (XN rfl b.b bn1 (Jg5 _) (Je rfl (WR.mono (J3b (k:=k+2) g (λ p hp=>w.mem p (Zaq _ hp)) 00 ne b) ?_)))))
 rintro _ h1 ⟨rfl,b1⟩
 have o1:=g.o.kp b1.x.kp
 unfold Q0
 have hsl:(letM cs s).sr.length<100000:=sl
 generalize letM cs s=s1 at *
 refine xseq (xset (Jop o1 (fldE rfl b1.b bf0) (by rw[show ∀(a b c:E1)(σ:ISt),Jc a (Jc b (Jc c Jd)) σ h1=(a σ h1).bind λ x h1=>((Jc b (Jc c Jd)) σ h1).bind λ xs h2=>.ok (x::xs) h2 from λ _ _ _ _=>rfl,fldE rfl b1.b bf1];exact congrArg (λ r=>Res.bind r _) (arg2 (fldE rfl b1.b bf4) (fldE rfl b1.b bf2))) (WR.mono (Jyg (k:=k) (b1.x.get g.p1) o1 g.l6 g.c (b1.x.get g.r) b1.w b1.d w1.ld n1 λ p hp=>w1.mem p (Zj _ hp)) ?_)))
 rintro _ h2 ⟨p,hp,rfl,lm,x2⟩
 have ep:=Vi.eq ⟨hp,lm⟩
 have lp:=w1.mem p (Zj _ hp)
 have ld:=w1.ld
 have b2:=b1.ex x2
 refine xseq (xset (XN rfl b2.b bn2 (Jeu _) (Je (arg1 rfl) (WR.mono (J38 (k:=k+2) g (λ q hq=>w1.mem q (Zaq _ hq)) b2 lp ld) ?_))))
 rintro _ h3 ⟨rfl,x3⟩
 have b3:=b2.ex x3
 unfold goM
 rw[ep]
 generalize Qc rs cs s1 p=n
 refine xseq (Qr (XN rfl b3.b bn3 (Jjc _) (Je (arg2 rfl (addE (fldE rfl b3.b bf5) rfl)) (WR.mono (J37 (k:=k+4) b3 hsl) ?_))))
 rintro _ h4 ⟨rfl,b4⟩
 refine xseq (J4g rfl b4.b bf5 rfl b4.b (by show(7:Nat)<1000;decide) ?_)
 rw[bft]
 have b5:Bn h0 _ B O R D L W S ⟨s1.ds,s1.lr,s1.wa,s1.t+n,Vd p s1.t (s1.t+n) s1.sr⟩:=b4.setT (s1.t+n)
 refine xseq (J4h (fldE rfl b5.b bf2) rfl b5.d (Jw1 (by show p<s1.ds.length;omega)) 00 rfl b5.d (j:=p) (by rw[Zm];simp[ixN];omega) ?_)
 have b6:Bn h0 _ B O R D L W S ⟨s1.ds.set p (s1.ds.getD p 0+n),s1.lr,s1.wa,s1.t+n,Vd p s1.t (s1.t+n) s1.sr⟩:=b5.setD (s1.ds.set p (s1.ds.getD p 0+n))
 rw[<- List.map_set]
 refine xifd (eqE (ixlE (fldE rfl b6.b bf2) rfl b6.d (Jw1 (by rw[Zbf];omega))) (ixtE (ixlE (fldE rfl b6.b bf1) rfl (b6.x.get g.r) (XW lp)) rfl VD)) (λ c=>?_) λ c=>?_
 ·rw[Xv,if_pos ⟨rfl,00⟩] at c
  have eN:s1.wa.map nI=(s1.wa.map λ n:Nat=>(n:Int)).map .int:=by rw[Zbm];rfl
  have gw:=b6.w
  obtain⟨j,hj⟩:∃j,(s1.wa.map λ n:Nat=>(n:Int)).findIdx? (· ==(p:Int))=Za j:=by
   cases z:(s1.wa.map λ n:Nat=>(n:Int)).findIdx? (· ==(p:Int)) with
   | none =>
    have:=Zcg.mp z p (ZE.mpr ⟨p,hp,rfl⟩)
    simp at this
   | some j=>exact⟨j,rfl⟩
  refine Qr (Q3 (fldE rfl b6.b bf4) gw Jqk (Je (arg1 rfl) (xrem (ns:=s1.wa.map λ n:Nat=>(n:Int)) (by rw[<- eN];exact gw) hj ⟨rfl,?_⟩)))
  have b7:=b6.setW (s1.wa.erase p)
  unfold doM
  rw[if_pos (show _=lnN cs p from c),<-eN,Jru,Jq0 hj]
  exact b7
 ·rw[Xv,if_pos ⟨rfl,00⟩] at c
  refine xnil ⟨rfl,?_⟩
  unfold doM
  rw[if_neg (show ¬_=lnN cs p from c)]
  exact b6
end
end
section
seal L4.run
section
variable {O R D L W S:Nat}
theorem bp0:putI "order" (.ref O) ([]:List (Str×IV))=(bfs O 0 0 0 0 0 0).take 1:=02
theorem bp1:putI "row" (.ref R) ((bfs O 0 0 0 0 0 0).take 1)=(bfs O R 0 0 0 0 0).take 2:=02
theorem bp2:putI "dones" (.ref D) ((bfs O R 0 0 0 0 0).take 2)=(bfs O R D 0 0 0 0).take 3:=02
theorem bp3:putI "later" (.ref L) ((bfs O R D 0 0 0 0).take 3)=(bfs O R D L 0 0 0).take 4:=02
theorem bp4:putI "waiting" (.ref W) ((bfs O R D L 0 0 0).take 4)=(bfs O R D L W 0 0).take 5:=02
theorem bp5:putI "turn" (.int 0) ((bfs O R D L W 0 0).take 5)=(bfs O R D L W 0 0).take 6:=02
theorem bp6:putI "stretches" (.ref S) ((bfs O R D L W 0 0).take 6)=bfs O R D L W 0 S:=02
end
theorem Jrn:∀{ys:List IV}{ks:List Int},(∀y∈ys,mk y h=.ok (.int (kf y)) h)->QP mk ys ks h=.ok (ks++ys.map kf) h
 | [],ks,_=>by simp[QP]
 | y::ys,ks,q=>by
  unfold QP
  rw[q y 03]
  show QP mk ys (ks++[kf y]) h=_
  rw[Jrn λ z hz=>q z (Zl _ hz)]
  simp
theorem Jv6:∀p∈lr0 cs,p<cs.length:=λ p hp=>by
 obtain⟨i,hi,rfl⟩:=ZE.mp hp
 have:=Yx _ i hi
 omega
theorem J0y (cs:List Cm):(ordK (cs.map rdC).reverse cs.length).map (λ i=>(rngI 0 (cs.length:Int)).reverse.getD i .non)=(lr0 cs).map nI:=by
 unfold lr0
 rw[Zbm]
 refine List.map_congr_left λ i hi=>?_
 have li:=Yx _ i hi
 rw[X9]
 have l2:i<(((ZT cs.length).map λ k=>((k:Nat):Int)).map IV.int).reverse.length:=by simpa using li
 show List.getD (((ZT (Zcz (cs.length:Int))).map λ k=>((k:Nat):Int)).map IV.int).reverse i .non=IV.int ((cs.length-1-i:Nat):Int)
 rw[Za1,Ze,Zb l2,ZcO]
 simp
theorem Jno (cs:List Cm):(lr0 cs).Perm (ZT cs.length):=by
 by_cases n0:cs.length=0
 ·unfold lr0
  rw[n0,Jga]
  exact .refl _
 have:=(Jhi (cs.map rdC).reverse (Nat.pos_of_ne_zero n0)).map λ i=>cs.length-1-i
 refine this.trans ?_
 have e:(ZT cs.length).map (λ i=>cs.length-1-i)=(ZT cs.length).reverse:=by
  refine Zce 03 λ i h1 h2=>?_
  simp[ZcO]
 rw[e]
 exact List.reverse_perm _
theorem Jx0 (cs:List Cm):(lr0 cs).Pairwise λ p q=>rdN cs p<=rdN cs q:=by
 unfold lr0
 rw[List.pairwise_map]
 refine(Jun (cs.map rdC).reverse cs.length).imp_of_mem λ {i j} hi hj h=>?_
 have li:=Yx _ i hi
 have lj:=Yx _ j hj
 have e:∀i,i<cs.length->(cs.map rdC).reverse.getD i 0=rdN cs (cs.length-1-i):=λ i li=>by
  have l2:i<(cs.map rdC).reverse.length:=by simpa using li
  unfold rdN
  rw[Ze,Zb l2,ZcO,Ze,Zb (show cs.length-1-i<cs.length by omega)]
  simp
 rwa [e i li,e j lj] at h
theorem wf0 (l1:∀c∈cs,1<=c.len):Wf cs (s0 cs):=by
 have zr:∀p,((s0 cs).ds.getD p 0:Int)=0:=λ p=>by
  show(cs.map λ _=>(0:Int)).getD p 0=0
  rw[Ze,Zt]
  cases cs[p]?<;>rfl
 have pm:=Jno cs
 refine⟨by simp[s0],λ p hp=>?_,?_,Jx0 cs,λ p hp=>?_,λ p lp hp=>?_,λ p hp=>zr p,λ p hp=>?_⟩
 ·rw[show(s0 cs).lr++(s0 cs).wa=lr0 cs from Zay _] at hp
  exact Jv6 p hp
 ·rw[show(s0 cs).lr++(s0 cs).wa=lr0 cs from Zay _]
  exact pm.nodup_iff.mpr List.nodup_range
 ·rw[show(s0 cs).lr++(s0 cs).wa=lr0 cs from Zay _] at hp
  have lp:=Jv6 p hp
  rw[zr]
  have:1<=lnN cs p:=l1 _ (by rw[Ze,Zb lp];exact Zz lp)
  omega
 ·rw[show(s0 cs).lr++(s0 cs).wa=lr0 cs from Zay _] at hp
  exact absurd (pm.mem_iff.mpr (ZaO.mpr lp)) hp
 ·cases hp
theorem Wf.step (w:Wf cs s)(ne:¬(s.lr=[]/\s.wa=[])):Wf cs (Q0 rs cs s)/\mea rs cs (Q0 rs cs s)<mea rs cs s:=by
 have w1:=w.let
 have gt:=Jrq w
 have le:=Jx3 rs cs s
 obtain⟨p,ip⟩:=Jmq (rs:=rs) (cs:=cs) (ds:=(letM cs s).ds) (Jrr (cs:=cs) ne)
 unfold Q0 goM
 rw[ip.eq]
 obtain⟨a,b⟩:=Jho (rs:=rs) gt (w1.z p (Zj _ ip.1)).2
 have sl:=Jmz (hsN rs cs p) ((letM cs s).ds.getD p 0) (lnN cs p)
 exact⟨w1.do ip.1 a 00,ZJ (J01 w1 gt ip.1) le⟩
theorem Jn7 (p:Nat)(t u:Int)(sr:List (Nat×Int×Int)):(Vd p t u sr).length<=sr.length+1:=by
 unfold Vd
 split
 ·simp
 ·split<;>simp
theorem Jnw {s:Bs}(h:s.lr=[]/\s.wa=[]):runM rs cs m s=s:=by
 cases m with
 | zero=>rfl
 | succ m=>exact if_pos h
theorem mea0 (l6:∀r∈rs,r.2.length<=6)(hc:∀c∈cs,c.at_<rs.length):mea rs cs (s0 cs)<=8*cs.length:=by
 have e1:((ZT cs.length).map (VE rs cs (s0 cs).ds)).sum<=((ZT cs.length).map λ _=>6).sum:=Jn1 λ p hp=>by
  have lp:=ZaO.mp hp
  have ca:(cs.getD p cd).at_<rs.length:=hc _ (by rw[Ze,Zb lp];exact Zz lp)
  have:=l6 _ (Zz ca)
  refine Zak (Zb0 _ _) ?_
  unfold hsN
  rw[VX ca]
  exact this
 have e2:=Zb0 (λ p=>decide ((s0 cs).t<rdN cs p)) (s0 cs).lr
 have e3:(s0 cs).lr.length=cs.length:=by have:=(Jno cs).length_eq;rwa [ZbT] at this
 have e4:((s0 cs).lr++(s0 cs).wa).length=cs.length:=by rw[show(s0 cs).lr++(s0 cs).wa=(s0 cs).lr from Zay _];exact e3
 rw[List.map_const',List.sum_replicate_nat,ZbT] at e1
 unfold mea
 omega
theorem Jxg:(finM rs cs).sr.length<=8*cs.length:=by
 have:∀(m:Nat)(s:Bs),(runM rs cs m s).sr.length<=s.sr.length+m:=by
  intro m
  induction m with
  | zero=>intro s;exact Zp _
  | succ m ih =>
   intro s
   unfold runM
   split
   ·omega
   ·have h1:=ih (Q0 rs cs s)
    have h2:(Q0 rs cs s).sr.length<=s.sr.length+1:=Jn7 _ _ _ _
    omega
 have:=this (8*cs.length) (s0 cs)
 have e:(s0 cs).sr.length=0:=rfl
 unfold finM
 omega
theorem ds0 (cs:List Cm)(p:Nat):(s0 cs).ds.getD p 0=0:=by
 show(cs.map λ _=>(0:Int)).getD p 0=0
 rw[Ze,Zt]
 cases cs[p]?<;>rfl
section
variable {k:Nat}{h:IH}{rs:List RH}{cs:List Cm}{O R:Nat}
theorem Jxu (g:Bg h rs cs O R)(t0:h[1]?=Za (.tab "Bench.__init__"))(n64:cs.length<64):WR (Jch (k+2) [.ref h.length,.ref O,.ref R] (h++[.ins "Bench" []])) λ v h'=>v=.non/\∃D L W S,Bn h h' h.length O R D L W S (s0 cs):=by
 have hb:=J8
 rw[Jje]
 refine xfin (xseq (Vt rfl rfl Jp 01 ?_))
 rw[bp0,XE]
 refine xseq (Vt rfl rfl Jp (by show(1:Nat)<1000;decide) ?_)
 rw[bp1,XE]
 have x1:Ex h (h++[.ins "Bench" ((bfs O R 0 0 0 0 0).take 2)]):=.one _ _
 have g1:(h++[IX.ins "Bench" ((bfs O R 0 0 0 0 0).take 2)])[h.length]?=Za (.ins "Bench" ((bfs O R 0 0 0 0 0).take 2)):=Jp
 generalize h++[IX.ins "Bench" ((bfs O R 0 0 0 0 0).take 2)]=h1 at x1 g1
 refine xseq ?_
 rw[VR]
 refine WR.mono (QC (h:=h1) (xs:=cs.map tupC) (chk:=λ h'=>h'[R]?=Za (.lst (cs.map tupC))) (f:=λ _=>.int 0) ?_ (by rw[Zm];omega) (λ h2 q=>q _ _ (x1.get g.r)) λ v hv h2 q=>Je rfl ⟨rfl,.refl _⟩) ?_
 ·rw[QD]
  exact Je rfl ((Qp _).mpr ⟨_,x1.get g.r,rfl,rfl,rfl⟩)
 rintro _ _ ⟨rfl,gg,rfl⟩
 have lt1:=J4 g1
 refine Je rfl ⟨_,_,_,rfl,grow g1,by show(2:Nat)<1000;decide,?_⟩
 rw[bp2]
 have x2:=Vz (i:=h.length) (o:=.ins "Bench" ((bfs O R h1.length 0 0 0 0).take 3)) (x1.trans (Ex.cons h1 (.lst ((cs.map tupC).map λ _=>.int 0)) gg)) (Zp _)
 have g2:=Qb (o':=.ins "Bench" ((bfs O R h1.length 0 0 0 0).take 3)) (grow g1 (g:=.lst ((cs.map tupC).map λ _=>.int 0)::gg))
 have d2:=Jw (i:=h.length) (o':=.ins "Bench" ((bfs O R h1.length 0 0 0 0).take 3)) (J1 (h:=h1) (o:=.lst ((cs.map tupC).map λ _=>.int 0)) (g:=gg)) 00
 generalize h1.length=D at *
 generalize (h1++IX.lst ((cs.map tupC).map λ _=>.int 0)::gg).set h.length (.ins "Bench" ((bfs O R D 0 0 0 0).take 3))=h2 at x2 g2 d2
 have ks:QP (λ v h'=>Xq (k+1) [Za v,Za (.ref R)] h') (rngI 0 (cs.length:Int)) [] h2=.ok (cs.map rdC) h2:=by
  have:=Jrn (mk:=λ v h'=>Xq (k+1) [Za v,Za (.ref R)] h') (kf:=λ v=>match v with|.int p=>rdN cs p.toNat|_=>0) (h:=h2) (ys:=rngI 0 (cs.length:Int)) (ks:=[]) λ y hy=>by
   rw[X9,Za1,Zbm] at hy
   obtain⟨p,hp,rfl⟩:=ZE.mp hy
   have lp:=ZaO.mp hp
   show Xq (k+1) [Za (nI p),Za (.ref R)] h2=.ok (.int (rdN cs (Zcz (p:Int)))) h2
   rw[Za1]
   exact JO (arg1 (ixlE rfl rfl (x2.get g.r) (XW lp))) Jnt
  rw[this,Zaz,X9,Za1,Zbm,Zbm]
  congr 1
  refine Zce 03 λ i h1 h2=>?_
  have li:i<cs.length:=by simpa using h2
  simp only[ZP,List.getElem_range,Function.comp,Za1,rdN]
  rw[Ze,Zb li]
  rfl
 have es:Yg "Bench.__init__" 1 [2] (Jc (eCB (on1 lenI) (Jc (Ja 2) Jd)) Jd) (Xq (k+1)) [Za (.ref h.length),Za (.ref O),Za (.ref R)] h2=.ok (.ref h2.length) (h2++[.lst ((lr0 cs).reverse.map nI)]):=by
  unfold Yg
  rw[arg1 (lenE rfl (x2.get g.r)),Zm]
  show(match [IV.int (cs.length:Int)],h2[1]? with|[.int n],Za (.tab q')=>_|_,_=>_)=_
  rw[x2.get t0]
  show(if _ then _ else _)=_
  rw[if_pos ⟨rfl,00,00⟩]
  show(QP (λ v h'=>Xq (k+1) [Za v,Za (.ref R)] h') (rngI 0 (cs.length:Int)) [] h2).bind _=_
  rw[ks]
  show Y2 Zi (rngI 0 (cs.length:Int)).reverse (cs.map rdC).reverse h2=_
  unfold Y2
  rw[show(rngI 0 (cs.length:Int)).reverse.length=cs.length by rw[Zcj,X9];simp,J0y,List.map_reverse]
  rfl
 refine xseq (Vt es rfl (grow g2) (by show(3:Nat)<1000;decide) ?_)
 rw[bp3]
 have lt2:=J4 d2
 have x3:=Vz (i:=h.length) (o:=.ins "Bench" ((bfs O R D h2.length 0 0 0).take 4)) (x2.trans (Ex.one h2 (.lst ((lr0 cs).reverse.map nI)))) (Zp _)
 have g3:=Qb (o':=.ins "Bench" ((bfs O R D h2.length 0 0 0).take 4)) (grow g2 (g:=[.lst ((lr0 cs).reverse.map nI)]))
 have d3:=Jw (i:=h.length) (o':=.ins "Bench" ((bfs O R D h2.length 0 0 0).take 4)) (grow d2 (g:=[.lst ((lr0 cs).reverse.map nI)])) 00
 have l3:=Jw (i:=h.length) (o':=.ins "Bench" ((bfs O R D h2.length 0 0 0).take 4)) (Jp (h:=h2) (o:=.lst ((lr0 cs).reverse.map nI))) 00
 generalize h2.length=L at *
 generalize (h2++[IX.lst ((lr0 cs).reverse.map nI)]).set h.length (.ins "Bench" ((bfs O R D L 0 0 0).take 4))=h3 at x3 g3 d3 l3
 have lt3:=J4 l3
 refine xseq ?_
 rw[VR]
 refine xlst (Je rfl ⟨Zac _,Je rfl ⟨_,_,_,rfl,grow g3,by show(4:Nat)<1000;decide,?_⟩⟩)
 rw[bp4]
 refine xseq (Vt rfl rfl (Qb (grow g3)) (by show(5:Nat)<1000;decide) ?_)
 rw[bp5,ZdA]
 unfold Jc8
 rw[VR]
 refine xlst (Je rfl ⟨Zac _,Je rfl ⟨_,_,_,rfl,grow (Qb (grow g3)),by show(6:Nat)<1000;decide,rfl,?_⟩⟩)
 rw[bp6]
 have sw:=Jp (h:=h3) (o:=.lst [])
 have lw:=J4 sw
 rw[Z0,Za9] at lw
 have ln:(List.set (h3++[IX.lst []]) h.length (.ins "Bench" ((bfs O R D L h3.length 0 0).take 6))).length=h3.length+1:=by rw[Zbf,Z0,Za9]
 refine⟨D,L,h3.length,_,Vz ((Vz (x3.trans (.one _ _)) (Zp _)).trans (.one _ _)) (Zp _),⟨Zp _,00,00,00,00⟩,Qb (grow (Qb (grow g3))),Jw (grow (Jw (grow ?_) 00)) 00,Jw (grow (Jw (grow l3) 00)) 00,Jw (grow (Jw sw 00)) 00,Jw Jp 00⟩
 rw[d3]
 simp[s0]
theorem J1o (g:Bg h rs cs O R)(t0:h[1]?=Za (.tab "Bench.__init__"))(L:Legal rs cs)(n64:cs.length<64) :
  WR (Jwv (k+7) [.ref O,.ref R] h) λ v h'=>∃j,v=.ref j/\h.length<=j/\h'[j]?=Za (.lst ((finM rs cs).sr.reverse.map tupS))/\Ex h h':=by
 obtain⟨Du,du,fd⟩:=Jmp g.o
 have w0:Wf cs (s0 cs):=wf0 λ c hc=>(L.ok c hc).n1
 rw[Jz6]
 refine xfin (xseq (Qr (xb (Je (arg2 (fd _ _ rfl) rfl) (WR.mono (Jzm (k:=k+1) du g.r L g.n) ?_)))))
 rintro _ h1 ⟨rfl,x1⟩
 have g1:Bg h1 rs cs O R:=⟨g.o.kp x1.kp,x1.get g.r,g.c,g.l6,x1.get g.p1,g.n⟩
 refine xseq (xset ?_)
 rw[VQ]
 refine Je (arg2 rfl rfl) (WR.mono (Jxu (k:=k+4) g1 (x1.get t0) n64) ?_)
 rintro _ h2 ⟨rfl,D,La,W,S,b0⟩
 refine⟨rfl,xseq ?_⟩
 have m0:=mea0 g.l6 g.c
 have cn:=g.n
 refine Jka (λ m σ h'=>∃s,σ=[Za (.ref O),Za (.ref R),Za (.ref h1.length)]/\Bn h1 h' h1.length O R D La W S s/\Wf cs s/\mea rs cs s<=m/\s.sr.length+m<=8*cs.length/\runM rs cs m s=finM rs cs) ?_ (show 8*cs.length<1000000 by omega) ⟨s0 cs,rfl,b0,w0,m0,by simp[s0],rfl⟩
 rintro m _ h3 ⟨s,rfl,b,w,lm,ls,er⟩
 refine Je (gtE (addE (lenE (fldE rfl b.b bf3) b.l) (lenE (fldE rfl b.b bf4) b.w)) rfl) (xdec (λ c=>?_) λ c=>?_)
 ·have ne:¬(s.lr=[]/\s.wa=[]):=λ ⟨a,z⟩=>by rw[a,z] at c;exact absurd c 03
  obtain⟨w1,lt⟩:=w.step (rs:=rs) ne
  cases m with
  | zero=>omega
  | succ m =>
   refine⟨m,rfl,Qr (XN rfl b.b bn4 (Jhx _) (Je rfl (WR.mono (J2w (k:=k) g1 w ne 00 b) ?_)))⟩
   rintro _ h4 ⟨rfl,b4⟩
   refine⟨_,rfl,b4,w1,00,?_,?_⟩
   ·have:=Jn7 (X6 rs cs (letM cs s).ds (letM cs s).wa) (letM cs s).t ((letM cs s).t+Qc rs cs (letM cs s) (X6 rs cs (letM cs s).ds (letM cs s).wa)) s.sr
    have:(Q0 rs cs s).sr.length<=s.sr.length+1:=this
    omega
   ·rw[<- er]
    exact(if_neg ne).symm
 ·have ne:s.lr=[]/\s.wa=[]:=by
   simp only[Zm,Zcj] at c
   exact⟨ZbJ.mp 00,ZbJ.mp 00⟩
  rw[Jnw ne] at er
  refine xret (Je (fldE rfl b.b bf6) ⟨S,rfl,?_,?_,x1.trans b.x⟩)
  ·have:=b.ap
   have:=J4 b0.b
   obtain⟨gg,rfl⟩:=x1
   rw[Z0] at *
   omega
  ·rw[<- er]
   exact b.s
end
end
abbrev St3:=Nat×Int×Int
theorem Jnu:rk hss zs a<=a:=XY (λ i=>(rkNs hss zs a).getD i 0) _ 0 (by simp[rkNs])
theorem J3y (hz:z∈zs):rk hss zs a<=fZ hss z:=by
 obtain⟨i,hi,rfl⟩:=ZA.mp hz
 have e:(rkNs hss zs a).getD (i+1) 0=fZ hss zs[i]:=by simp[rkNs,hi]
 unfold rk
 rw[<- e]
 exact XY (λ i=>(rkNs hss zs a).getD i 0) (rkNs hss zs a).length (i+1) (by simp[rkNs,hi])
def atN (cs:List Cm)(p:Nat):Int:=((cs.getD p cd).at_:Int)
def acN (rs:List RH)(cs:List Cm)(ds:List Int)(p:Nat):List Str:=act (hsN rs cs p) (ds.getD p 0)
def rkN (rs:List RH)(cs:List Cm)(ds:List Int)(p:Nat):Int:=rk (rs.map (·.2)) (acN rs cs ds p) (cs.getD p cd).at_
theorem Jzh {ds:List Int}(hx:x∈hsN rs cs p)(h1:x.2.1<ds.getD p 0)(h2:ds.getD p 0<x.2.2):x.1∈acN rs cs ds p:=ZE.mpr ⟨x,Za4.mpr ⟨hx,by show(decide _&&decide _)=Zi;rw[decide_eq_true h1,decide_eq_true h2];rfl⟩,rfl⟩
theorem Jvr (h0:∀x∈hsN rs cs p,0<=x.2.1)(ne:acN rs cs ds p≠[]):0<ds.getD p 0:=by
 obtain⟨z,hz⟩:=List.exists_mem_of_ne_nil _ ne
 obtain⟨a,ha,_⟩:=ZE.mp hz
 have:=(Za4.mp ha).2
 have h0:=h0 a (Za4.mp ha).1
 simp only[actv,Zr,decide_eq_true_eq] at this
 omega
theorem Jr5 (ip:Vi rs cs ds wa p)(hq:q∈wa):rkN rs cs ds p<=rkN rs cs ds q/\(rkN rs cs ds q=rkN rs cs ds p->acN rs cs ds p=[]->acN rs cs ds q=[]):=by
 have h:=ip.2 q hq
 change ltL [rkN rs cs ds q,if (!(acN rs cs ds q).isEmpty)=Zi then 0 else 1,(q:Int)] [rkN rs cs ds p,if (!(acN rs cs ds p).isEmpty)=Zi then 0 else 1,(p:Int)]=Zk at h
 unfold ltL at h
 by_cases e:rkN rs cs ds q=rkN rs cs ds p
 ·refine⟨00,λ _ a=>?_⟩
  rw[if_pos e,a] at h
  cases b:acN rs cs ds q with
  | nil=>rfl
  | cons z l =>
   rw[b] at h
   cases h
 ·rw[if_neg e,decide_eq_false_iff_not] at h
  exact⟨00,λ z=>absurd z e⟩
def Iv (rs:List RH)(cs:List Cm)(ds:List Int):Prop:=∀p q,p<cs.length->q<cs.length->p≠q->ds.getD p 0<lnN cs p->ds.getD q 0<lnN cs q->acN rs cs ds p≠[]->acN rs cs ds q≠[]->atN cs p<rkN rs cs ds q∨atN cs q<rkN rs cs ds p
theorem J3z (l:rk hss zs a<a):∃z∈zs,rk hss zs a=fZ hss z:=by
 obtain⟨j,hj,e⟩:=Jmb (λ i=>(rkNs hss zs a).getD i 0) (rkNs hss zs a).length (by simp[rkNs])
 have e:rk hss zs a=(rkNs hss zs a).getD j 0:=e
 cases j with
 | zero =>
  rw[e] at l
  exact absurd l (Int.lt_irrefl _)
 | succ j =>
  have lj:j<zs.length:=by simpa [rkNs] using hj
  refine⟨zs[j],Zz lj,?_⟩
  rw[e]
  simp[rkNs,lj]
theorem Jsn (hx:x∈hs)(l:d<x.2.2):QA hs d len<=x.2.2:=by
 have m:x.2.2∈(hs.filter λ a=>decide (d<a.2.2)).map (·.2.2):=ZE.mpr ⟨x,Za4.mpr ⟨hx,decide_eq_true l⟩,rfl⟩
 obtain⟨i,hi,e⟩:=ZA.mp m
 have b:=XY (λ i=>(Qt hs d len).getD i 0) (Qt hs d len).length (i+1) (by simpa [Qt] using hi)
 have q:(Qt hs d len).getD (i+1) 0=x.2.2:=by
  rw[<- e,Ze]
  show(((hs.filter λ a=>decide (d<a.2.2)).map (·.2.2))[i]?).getD 0=_
  rw[Zb hi]
  rfl
 rw[<- q]
 exact b
theorem Jva {s:Bs}(w:s.lr.Pairwise λ p q=>rdN cs p<=rdN cs q)(hq:q∈s.lr):Qc rs cs s p<=rdN cs q-s.t:=by
 unfold Qc
 cases e:s.lr with
 | nil=>rw[e] at hq;cases hq
 | cons a r =>
  rw[e] at hq w
  have:rdN cs a<=rdN cs q:=by
   rcases Z6.mp hq with rfl|hq
   ·exact ZG _
   ·exact(Zcw.mp w).1 q hq
  dsimp only
  split<;>omega
theorem Jms (I:Bs->Prop)(step:∀s,Wf cs s->¬(s.lr=[]/\s.wa=[])->I s->I (Q0 rs cs s)):∀(m:Nat)(s:Bs),Wf cs s->mea rs cs s<=m->I s->Wf cs (runM rs cs m s)/\(runM rs cs m s).lr=[]/\(runM rs cs m s).wa=[]/\I (runM rs cs m s)
 | m,s,w,lm,i=>by
  by_cases ne:s.lr=[]/\s.wa=[]
  ·rw[Jnw ne]
   exact⟨w,ne.1,ne.2,i⟩
  ·obtain⟨w1,lt⟩:=w.step (rs:=rs) ne
   cases m with
   | zero=>omega
   | succ m =>
    rw[show runM rs cs (m+1) s=runM rs cs m (Q0 rs cs s) from if_neg ne]
    exact Jms I step m _ w1 00 (step s w ne i)
def sR (n:Nat)(f:Nat->Int):Int:=((ZT n).map f).sum
theorem Vb:sR (n+1) f=sR n f+f n:=by simp[sR,List.range_succ]
theorem V5:∀{n:Nat},(∀q,q<n->f q<=g q)->sR n f<=sR n g
 | 0,_=>ZG _
 | n+1,h=>by
  have:=V5 (n:=n) λ q hq=>h q 00
  have:=h n 00
  rw[Vb,Vb]
  omega
theorem Jyo:∀{n:Nat},(∀q,q<n->f q<=g q)->p<n->f p<g p->sR n f<sR n g
 | n+1,h,hp,lt=>by
  rw[Vb,Vb]
  by_cases e:p=n
  ·subst e
   have:=V5 (n:=p) λ q hq=>h q 00
   omega
  ·have:=Jyo (n:=n) (λ q hq=>h q 00) 00 lt
   have:=h n 00
   omega
theorem Jwf:∀{n:Nat},(∀q,q≠p->g q=f q)->p<n->sR n g=sR n f+(g p-f p)
 | n+1,h,hp=>by
  rw[Vb,Vb]
  by_cases e:p=n
  ·subst e
   have h1:=V5 (n:=p) (f:=f) (g:=g) λ q hq=>by rw[h q 00];exact ZG _
   have h2:=V5 (n:=p) (f:=g) (g:=f) λ q hq=>by rw[h q 00];exact ZG _
   omega
  ·rw[Jwf (n:=n) h 00,h n (ZR e)]
   omega
theorem Jmt:∀{n:Nat},(∀q,q<n->f q=0)->sR n f=0
 | 0,_=>rfl
 | n+1,h=>by rw[Vb,Jmt λ q hq=>h q 00,h n 00];rfl
def sA (cs:List Cm)(a:Nat)(b:Int)(ds:List Int):Int:=sR cs.length λ p=>if atN cs p<=a/\b<=rdN cs p then ds.getD p 0 else 0
def dM (cs:List Cm)(a:Nat)(b T:Int):Int:=sR cs.length λ p=>if atN cs p<=a/\b<=rdN cs p/\rdN cs p<T then lnN cs p else 0
structure Bd (rs:List RH)(cs:List Cm)(a:Nat)(B:Int):Prop where
 z:0<=B
 b:∀q,q<cs.length->(a:Int)<atN cs q->∀x∈hsN rs cs q,fZ (rs.map (·.2)) x.1<=a->x.2.2-x.2.1-1<=B
def Nst (rs:List RH)(cs:List Cm):Prop:=∀q,q<cs.length->∀x∈hsN rs cs q,∀y∈hsN rs cs q,x.2.1<y.2.1->y.2.1<x.2.2->y.2.2<=x.2.2
structure Win (rs:List RH)(cs:List Cm)(a:Nat)(L B:Int)(ds:List Int)(t b k:Int):Prop where
 bt:b<=t
 tl:t<=b+L
 q1:∀p,p<cs.length->atN cs p<=a->rdN cs p<b->lnN cs p<=ds.getD p 0
 q2:t-b=k+sA cs a b ds
 q3:k<=B
 q4:∀q,q<cs.length->(a:Int)<atN cs q->ds.getD q 0<lnN cs q->∀x∈hsN rs cs q,fZ (rs.map (·.2)) x.1<=a->x.2.1<ds.getD q 0->ds.getD q 0<x.2.2->k+(x.2.2-ds.getD q 0)<=B
structure Sq (rs:List RH)(cs:List Cm)(a:Nat)(L B:Int)(s:Bs):Prop where
 iv:Iv rs cs s.ds
 rd:∀p,p<cs.length->0<s.ds.getD p 0->rdN cs p<s.t
 en:∀x∈s.sr,atN cs x.1=a->x.2.2<=rdN cs x.1+L
 nn:∀p,p<cs.length->0<=s.ds.getD p 0
 w:∃b k,Win rs cs a L B s.ds s.t b k
section
variable {rs:List RH}{cs:List Cm}{a:Nat}{L B:Int}
theorem Win.new {ds:List Int}(L0:0<=L)(Bb:Bd rs cs a B)(q1:∀p,p<cs.length->atN cs p<=a->rdN cs p<t->lnN cs p<=ds.getD p 0)(nn:∀p,p<cs.length->0<=ds.getD p 0)(rd:∀p,p<cs.length->0<ds.getD p 0->rdN cs p<t):Win rs cs a L B ds t t 0:=by
 refine⟨ZG _,00,q1,?_,Bb.z,λ q lq aq _ x hx fx l1 l2=>?_⟩
 ·have:sA cs a t ds=0:=Jmt λ p hp=>by
   by_cases c:atN cs p<=a/\t<=rdN cs p
   ·rw[if_pos c]
    have:=nn p hp
    by_cases z:0<ds.getD p 0
    ·have:=rd p hp z
     omega
    ·omega
   ·exact if_neg c
  omega
 ·have:=Bb.b q lq aq x hx fx
  omega
theorem Sq.let (L0:0<=L)(Bb:Bd rs cs a B)(w:Wf cs s)(v:Sq rs cs a L B s):∃b k,Win rs cs a L B s.ds (tIn cs s) b k/\(b=tIn cs s∨∃q∈(letM cs s).wa,atN cs q<=a/\rdN cs q<tIn cs s):=by
 have tg:=Jn6 cs s
 have w1:=w.let
 by_cases q:∀p,p<cs.length->atN cs p<=a->rdN cs p<tIn cs s->lnN cs p<=s.ds.getD p 0
 ·exact⟨_,_,Win.new L0 Bb q v.nn λ p lp h=>by have:=v.rd p lp h;omega,.inl rfl⟩
 ·have⟨p,hp⟩:=Classical.not_forall.mp q
  simp only[Classical.not_imp,Int.not_le] at hp
  obtain⟨lp,ap,rp,dp⟩:=hp
  have m:p∈s.lr++s.wa:=Zao λ m=>by rw[w.dn p lp m] at dp;omega
  have m1:p∈(letM cs s).wa:=by
   rcases ZV.mp ((Je2 cs (tIn cs s) s.lr s.wa).mem_iff.mpr m) with h|h
   ·have:tIn cs s<rdN cs p:=Jrq w p h
    omega
   ·exact h
  have et:tIn cs s=s.t:=by
   have sr:=w.srt
   unfold tIn at rp ⊢
   split
   ·rename_i _ _ c r ew el
    rw[ew,el] at rp m
    rw[el] at sr
    rw[Zay] at m
    have:rdN cs c<=rdN cs p:=by
     rcases Z6.mp m with rfl|m
     ·exact ZG _
     ·exact(Zcw.mp sr).1 p m
    dsimp only at rp
    split at rp
    ·omega
    ·rename_i h
     rw[if_neg h]
   ·rfl
  obtain⟨b,k,W⟩:=v.w
  exact⟨b,k,et▸W,.inr ⟨p,m1,ap,rp⟩⟩
theorem Win.step (W:Win rs cs a L B ds t b k)(L1:1<=L)(dem:∀b,B+dM cs a b (b+L)<=L)(T:Nst rs cs)(iv:Iv rs cs ds)(lp:p<cs.length)(n0:0<n)(nl:ds.getD p 0+n<=QA (hsN rs cs p) (ds.getD p 0) (lnN cs p))(dl:ds.getD p 0<lnN cs p)(ld:ds.length=cs.length) 
  (nn:∀p,p<cs.length->0<=ds.getD p 0)(rd:∀p,p<cs.length->0<ds.getD p 0->rdN cs p<t)(le:∀p,p<cs.length->ds.getD p 0<=lnN cs p)(rp:rdN cs p<=t)(st:b=t∨∃q,q<cs.length/\ds.getD q 0<lnN cs q/\atN cs q<=a/\rdN cs q<t)
  (wk:(a:Int)<atN cs p->rkN rs cs ds p<=a) :
  t+n<=b+L/\∃k',Win rs cs a L B (ds.set p (ds.getD p 0+n)) (t+n) b k':=by
 have gd:∀e q,(ds.set p (ds.getD p 0+e)).getD q 0=if p=q then ds.getD p 0+e else ds.getD q 0:=λ e q=>by
  rw[Xv]
  by_cases z:p=q
  ·subst z;rw[if_pos ⟨rfl,00⟩,if_pos rfl]
  ·rw[if_neg λ y=>z y.1,if_neg z]
 have bt:=W.bt
 have tl:=W.tl
 have q2:=W.q2
 have sl:=Jmz (hsN rs cs p) (ds.getD p 0) (lnN cs p)
 have D:=dem b
 have up:∀e,sA cs a b (ds.set p (ds.getD p 0+e))=sA cs a b ds+if atN cs p<=a/\b<=rdN cs p then e else 0:=λ e=>by
  unfold sA
  rw[Jwf (f:=λ p=>if atN cs p<=a/\b<=rdN cs p then ds.getD p 0 else 0) (p:=p) (λ q z=>by rw[gd,if_neg (ZR z)]) lp]
  simp only[gd,if_true]
  split<;>omega
 by_cases c:atN cs p<=a
 ·have br:b<=rdN cs p:=Zao λ z=>by have:=W.q1 p lp c 00;omega
  have up:∀e,sA cs a b (ds.set p (ds.getD p 0+e))=sA cs a b ds+e:=λ e=>by rw[up,if_pos ⟨c,br⟩]
  have tn:t+n<=b+L:=Zao λ h=>by
   have u:=up (b+L-t)
   have lt:sA cs a b (ds.set p (ds.getD p 0+(b+L-t)))<dM cs a b (b+L):=by
    have pw:∀q,q<cs.length->(if atN cs q<=a/\b<=rdN cs q then(ds.set p (ds.getD p 0+(b+L-t))).getD q 0 else 0)<=if atN cs q<=a/\b<=rdN cs q/\rdN cs q<b+L then lnN cs q else 0:=λ q lq=>by
     have h1:=le q lq
     have h2:=rd q lq
     have g1:(ds.set p (ds.getD p 0+(b+L-t))).getD q 0<=lnN cs q/\(b+L<=rdN cs q->(ds.set p (ds.getD p 0+(b+L-t))).getD q 0<=0):=by
      rw[gd]
      split
      ·rename_i e
       subst e
       exact⟨00,λ _=>00⟩
      ·exact⟨h1,λ _=>00⟩
     by_cases z:atN cs q<=a/\b<=rdN cs q
     ·rw[if_pos z]
      by_cases y:rdN cs q<b+L
      ·rw[if_pos ⟨z.1,z.2,y⟩]
       exact g1.1
      ·rw[if_neg λ x=>y x.2.2]
       exact g1.2 00
     ·rw[if_neg z,if_neg λ x=>z ⟨x.1,x.2.1⟩]
      exact ZG _
    by_cases y:rdN cs p<b+L
    ·refine Jyo (p:=p) pw lp ?_
     rw[if_pos ⟨c,br⟩,if_pos ⟨c,br,y⟩,gd,if_pos rfl]
     omega
    ·rcases st with e|⟨q,lq,dq,aq,rq⟩
     ·omega
     ·have bq:b<=rdN cs q:=Zao λ z=>by have:=W.q1 q lq aq 00;omega
      have nq:p≠q:=λ e=>by subst e;omega
      refine Jyo (p:=q) pw lq ?_
      rw[if_pos ⟨aq,bq⟩,if_pos ⟨aq,bq,00⟩,gd,if_neg nq]
      exact dq
   have:=W.q3
   omega
  refine⟨tn,k,00,tn,λ q lq aq rq=>?_,by rw[up];omega,W.q3,λ q lq aq=>?_⟩
  ·rw[gd,if_neg λ e=>by subst e;omega]
   exact W.q1 q lq aq rq
  ·rw[gd,if_neg λ e=>by subst e;omega]
   exact W.q4 q lq aq
 ·have up:∀e,sA cs a b (ds.set p (ds.getD p 0+e))=sA cs a b ds:=λ e=>by rw[up,if_neg λ x=>c x.1];omega
  have rk:=wk 00
  obtain⟨z,hz,ez⟩:=J3z (hss:=rs.map (·.2)) (zs:=acN rs cs ds p) (a:=(cs.getD p cd).at_) (by show rkN rs cs ds p<atN cs p;omega)
  have ez:rkN rs cs ds p=fZ (rs.map (·.2)) z:=ez
  obtain⟨y,hy,rfl⟩:=ZE.mp hz
  obtain⟨hy,ay⟩:=Za4.mp hy
  simp only[actv,Zr,decide_eq_true_eq] at ay
  have so:=Jsn (len:=lnN cs p) hy ay.2
  have pp:=W.q4 p lp 00 dl y hy 00 ay.1 ay.2
  have tn:t+n<=b+L:=Zao λ h=>by
   have:sA cs a b ds<=dM cs a b (b+L):=V5 λ q lq=>by
    have h1:=le q lq
    have h2:=rd q lq
    by_cases z:atN cs q<=a/\b<=rdN cs q
    ·rw[if_pos z]
     by_cases y:rdN cs q<b+L
     ·rw[if_pos ⟨z.1,z.2,y⟩]
      exact h1
     ·rw[if_neg λ x=>y x.2.2]
      omega
    ·rw[if_neg z,if_neg λ x=>z ⟨x.1,x.2.1⟩]
     exact ZG _
   omega
  refine⟨tn,k+n,00,tn,λ q lq aq rq=>?_,by rw[up];omega,00,λ q lq aq dq x hx fx l1 l2=>?_⟩
  ·rw[gd,if_neg λ e=>by subst e;omega]
   exact W.q1 q lq aq rq
  ·rw[gd] at dq l1 l2 ⊢
   by_cases e:p=q
   ·subst e
    rw[if_pos rfl] at dq l1 l2 ⊢
    by_cases l3:x.2.1<ds.getD p 0
    ·have:=W.q4 p lp aq dl x hx fx l3 00
     omega
    ·have:=T p lp y hy x hx 00 00
     omega
   ·rw[if_neg e] at dq l1 l2
    have m2:=Jzh hx l1 l2
    have r2:rkN rs cs ds q<=fZ (rs.map (·.2)) x.1:=J3y m2
    rcases iv p q lp lq e dl dq (List.ne_nil_of_mem hz) (List.ne_nil_of_mem m2) with h|h<;>omega
theorem Ju9 {p:Nat}{t u:Int}{l:List St3}{x:St3}(h:x∈Vd p t u l):x∈l∨(x.1=p/\x.2.2=u):=by
 cases l with
 | nil=>rw[Zv.mp h];exact .inr ⟨rfl,rfl⟩
 | cons c r =>
  change x∈(if c.1=p then(p,c.2.1,u)::r else(p,t,u)::c::r) at h
  split at h
  ·rcases Z6.mp h with rfl|h
   ·exact .inr ⟨rfl,rfl⟩
   ·exact .inl (Zl _ h)
  ·rcases Z6.mp h with rfl|h
   ·exact .inr ⟨rfl,rfl⟩
   ·exact .inl h
theorem Ju8 {p q:Nat}{t u:Int}{l:List St3}(h:q=p∨∃x∈l,x.1=q):∃x∈Vd p t u l,x.1=q:=by
 cases l with
 | nil =>
  rcases h with rfl|⟨x,hx,_⟩
  ·exact⟨_,Zv.mpr rfl,rfl⟩
  ·cases hx
 | cons c r =>
  show ∃x∈(if c.1=p then(p,c.2.1,u)::r else(p,t,u)::c::r),x.1=q
  split
  ·rename_i e
   rcases h with rfl|⟨x,hx,ex⟩
   ·exact⟨_,Zx,rfl⟩
   ·rcases Z6.mp hx with rfl|hx
    ·exact⟨_,Zx,e.symm.trans ex⟩
    ·exact⟨x,Zl _ hx,ex⟩
  ·rcases h with rfl|⟨x,hx,ex⟩
   ·exact⟨_,Zx,rfl⟩
   ·exact⟨x,Zl _ hx,ex⟩
theorem Jsm (w:Wf cs s)(ne:¬(s.lr=[]/\s.wa=[])):∃p n,Vi rs cs s.ds (letM cs s).wa p/\Q0 rs cs s=doM rs cs (letM cs s) p n/\p<cs.length/\0<n/\s.ds.getD p 0+n<=QA (hsN rs cs p) (s.ds.getD p 0) (lnN cs p)/\(∀q∈(letM cs s).lr,n<=rdN cs q-tIn cs s)/\(0<=s.ds.getD p 0/\s.ds.getD p 0<lnN cs p)/\rdN cs p<=tIn cs s /\
  ∀q,(doM rs cs (letM cs s) p n).ds.getD q 0=if p=q then s.ds.getD p 0+n else s.ds.getD q 0:=by
 have w1:=w.let
 have gt:=Jrq w
 obtain⟨p,ip⟩:=Jmq (rs:=rs) (cs:=cs) (ds:=(letM cs s).ds) (Jrr (cs:=cs) ne)
 have hp:=ip.1
 have zp:=w1.z p (Zj _ hp)
 have lp:=w1.mem p (Zj _ hp)
 obtain⟨n0,n1⟩:=Jho (rs:=rs) gt zp.2
 refine⟨p,Qc rs cs (letM cs s) p,ip,by unfold Q0 goM;rw[ip.eq],lp,n0,n1,λ q hq=>Jva (rs:=rs) (p:=p) w1.srt (q:=q) hq,zp,w1.rw p hp,λ q=>?_⟩
 have ld:=w.ld
 show(s.ds.set p _).getD q 0=_
 rw[Xv]
 by_cases e:p=q
 ·subst e;rw[if_pos ⟨rfl,00⟩,if_pos rfl];rfl
 ·rw[if_neg λ z=>e z.1,if_neg e]
theorem Sq.step (L1:1<=L)(Bb:Bd rs cs a B)(dem:∀b,B+dM cs a b (b+L)<=L)(T:Nst rs cs)(h0:∀p,p<cs.length->∀x∈hsN rs cs p,0<=x.2.1)(w:Wf cs s)(ne:¬(s.lr=[]/\s.wa=[]))(v:Sq rs cs a L B s):Sq rs cs a L B (Q0 rs cs s):=by
 have w1:=w.let
 have tg:=Jn6 cs s
 obtain⟨p,n,ip,es,lp,n0,n1,n2,zp,rp,gd⟩:=Jsm (rs:=rs) w ne
 have hp:=ip.1
 rw[es]
 obtain⟨b,k,W,st⟩:=v.let 00 Bb w
 have inw:∀q,q<cs.length->s.ds.getD q 0<lnN cs q->q∈(letM cs s).lr∨q∈(letM cs s).wa:=λ q lq lt=>ZV.mp (Zao λ m=>by
  have:s.ds.getD q 0=_:=w1.dn q lq m
  omega)
 have le:∀q,q<cs.length->s.ds.getD q 0<=lnN cs q:=λ q lq=>by
  by_cases m:q∈s.lr++s.wa
  ·exact Int.le_of_lt (w.z q m).2
  ·rw[w.dn q lq m]
   exact ZG _
 have rd:∀q,q<cs.length->0<s.ds.getD q 0->rdN cs q<tIn cs s:=λ q lq h=>by
  have:=v.rd q lq h
  omega
 have K:∀q,q<cs.length->p≠q->s.ds.getD q 0<lnN cs q->acN rs cs s.ds q≠[]->atN cs p<rkN rs cs s.ds q:=λ q lq nq lt aq=>by
  have dq:=Jvr (h0 q lq) aq
  have hq:q∈(letM cs s).wa:=by
   rcases inw q lq lt with m|m
   ·have:s.ds.getD q 0=0:=w1.z0 q m
    omega
   ·exact m
  obtain⟨le,fl⟩:=Jr5 ip hq
  by_cases ap:acN rs cs s.ds p=[]
  ·have e:rkN rs cs s.ds p=atN cs p:=by
    unfold rkN
    rw[ap]
    rfl
   by_cases eq:rkN rs cs s.ds q=rkN rs cs s.ds p
   ·exact absurd (fl eq ap) aq
   ·omega
  ·rcases v.iv p q lp lq nq zp.2 lt ap aq with z|z
   ·exact z
   ·have:rkN rs cs s.ds q<=atN cs q:=Jnu
    omega
 have ac:∀q,p≠q->acN rs cs (doM rs cs (letM cs s) p n).ds q=acN rs cs s.ds q:=λ q nq=>by
  unfold acN
  rw[gd,if_neg nq]
 have kr:∀q,p≠q->rkN rs cs (doM rs cs (letM cs s) p n).ds q=rkN rs cs s.ds q:=λ q nq=>by
  unfold rkN
  rw[ac q nq]
 have rd':∀q,q<cs.length->0<(doM rs cs (letM cs s) p n).ds.getD q 0->rdN cs q<tIn cs s+n:=λ q lq h=>by
  rw[gd] at h
  split at h
  ·rename_i e;subst e;omega
  ·have:=rd q lq h
   omega
 have nn':∀q,q<cs.length->0<=(doM rs cs (letM cs s) p n).ds.getD q 0:=λ q lq=>by
  have:=v.nn q lq
  rw[gd]
  split<;>omega
 obtain⟨en,w'⟩:(atN cs p=a->tIn cs s+n<=rdN cs p+L)/\∃b k,Win rs cs a L B (doM rs cs (letM cs s) p n).ds (tIn cs s+n) b k:=by
  by_cases c:∃q∈(letM cs s).wa,atN cs q<=a
  ·obtain⟨q0,hq0,aq0⟩:=c
   have le1:=(Jr5 ip hq0).1
   have le2:rkN rs cs s.ds q0<=atN cs q0:=Jnu
   obtain⟨tn,k',W'⟩:=W.step L1 dem T v.iv lp n0 n1 zp.2 w.ld v.nn rd le rp (st.imp id λ ⟨q,hq,aq,rq⟩=>⟨q,w1.mem q (Zj _ hq),(w1.z q (Zj _ hq)).2,aq,rq⟩) λ _=>00
   refine⟨λ e=>?_,b,k',W'⟩
   have:b<=rdN cs p:=Zao λ z=>by have:=W.q1 p lp 00 00;omega
   omega
  ·have ap:(a:Int)<atN cs p:=Zao λ z=>c ⟨p,hp,00⟩
   refine⟨λ e=>00,_,_,Win.new 00 Bb (λ q lq aq rq=>?_) nn' rd'⟩
   rw[gd,if_neg λ e=>by subst e;omega]
   refine Zao λ z=>?_
   rcases inw q lq 00 with m|m
   ·have:=n2 q m
    omega
   ·exact c ⟨q,m,aq⟩
 refine⟨λ x y lx ly nxy dx dy ax ay=>?_,rd',λ x hx ax=>?_,nn',w'⟩
 ·rw[gd] at dx dy
  by_cases z:p=x
  ·subst z
   rw[if_neg nxy] at dy
   rw[ac y nxy] at ay
   rw[kr y nxy]
   exact .inl (K y ly nxy dy ay)
  ·rw[if_neg z] at dx
   rw[ac x z] at ax
   rw[kr x z]
   by_cases z2:p=y
   ·subst z2
    exact .inr (K x lx z dx ax)
   ·rw[if_neg z2] at dy
    rw[ac y z2] at ay
    rw[kr y z2]
    exact v.iv x y lx ly nxy dx dy ax ay
 ·rcases Ju9 hx with h|⟨h1,h2⟩
  ·exact v.en x h ax
  ·rw[h1] at ax ⊢
   rw[h2]
   exact en ax
theorem Jz0 (Lg:Legal rs cs)(six:∀r∈rs,r.2.length<=6)(h0:∀p,p<cs.length->∀x∈hsN rs cs p,0<=x.2.1)(L1:1<=L)(Bb:Bd rs cs a B)(dem:∀b,B+dM cs a b (b+L)<=L)(T:Nst rs cs):∀x∈(finM rs cs).sr,atN cs x.1=a->x.2.2<=rdN cs x.1+L:=by
 have i0:Iv rs cs (s0 cs).ds:=λ p q lp lq _ _ _ ap _=>by
  have:=Jvr (h0 p lp) ap
  rw[ds0] at this
  omega
 have z0:∀p,¬0<(s0 cs).ds.getD p 0:=λ p h=>by rw[ds0] at h;omega
 have cm:∀p,p<cs.length->0<=rdN cs p:=λ p lp=>by
  have:=Lg.ok (cs.getD p cd) (by rw[Ze,Zb lp];exact Zz lp)
  have h1:=this.come
  have h2:=this.l0
  show(0:Int)<=(cs.getD p cd).come+(cs.getD p cd).late
  omega
 exact(Jms (rs:=rs) (cs:=cs) (Sq rs cs a L B) (λ s w ne v=>v.step L1 Bb dem T h0 w ne) (8*cs.length) (s0 cs) (wf0 λ c hc=>(Lg.ok c hc).n1) (mea0 six λ c hc=>(Lg.ok c hc).at_) ⟨i0,λ p _ h=>absurd h (z0 p),(λ x hx=>by cases hx),(λ p _=>by rw[ds0];exact ZG _),_,_,Win.new 00 Bb (λ p lp _ h=>by
  have:=cm p lp
  have h:rdN cs p<0:=h
  omega) (λ p _=>by rw[ds0];exact ZG _) λ p _ h=>absurd h (z0 p)⟩).2.2.2.en
theorem Jz1 (Lg:Legal rs cs)(six:∀r∈rs,r.2.length<=6):∀p,p<cs.length->∃x∈(finM rs cs).sr,x.1=p:=λ p lp=>by
 have ri:=Jms (rs:=rs) (cs:=cs) (λ s=>∀p,p<cs.length->0<s.ds.getD p 0->∃x∈s.sr,x.1=p) (λ s w ne v q lq dq=>by
  obtain⟨p,n,_,es,_,_,_,_,_,_,gd⟩:=Jsm (rs:=rs) w ne
  rw[es] at dq ⊢
  rw[gd] at dq
  refine Ju8 ?_
  split at dq
  ·rename_i e;exact .inl e.symm
  ·exact .inr (v q lq dq)) (8*cs.length) (s0 cs) (wf0 λ c hc=>(Lg.ok c hc).n1) (mea0 six λ c hc=>(Lg.ok c hc).at_) λ p _ h=>by rw[ds0] at h;omega
 obtain⟨wf,el,ew,ex⟩:=ri
 refine ex p lp ?_
 rw[wf.dn p lp (by rw[el,ew];simp)]
 have:=(Lg.ok (cs.getD p cd) (by rw[Ze,Zb lp];exact Zz lp)).n1
 show 0<(cs.getD p cd).len
 omega
end
def cmn (s:Int)(d:WD):Int:=if 1<=s then rup (s+d.late) d.gap else 0
def Qg (rs:List RH)(s:Int):Int:=(rs.map λ r=>cmn s r.1*r.1.len).sum
theorem Jig {rs:List RH}(hn:n<rs.length):Qg (rs.take (n+1)) s=Qg (rs.take n) s+cmn s (rs[n]).1*(rs[n]).1.len:=by
 unfold Qg
 rw[Zat hn,Zbt,List.sum_append]
 simp
abbrev inW (i:Nat)(b T:Int)(c:Cm):Prop:=c.at_=i/\b<=rdC c/\rdC c<T
def cL (i:Nat)(b T:Int):List Cm->Int
 | []=>0
 | c::l=>(if inW i b T c then 1 else 0)+cL i b T l
def dL (i:Nat)(b T:Int):List Cm->Int
 | []=>0
 | c::l=>(if inW i b T c then c.len else 0)+dL i b T l
theorem Jw6 {i:Nat}{b T g:Int}(hg:0<g):∀{l:List Cm}{lo:Int},l.Pairwise (λ x y=>x.at_=i->y.at_=i->x.come+g<=y.come)->(∀c∈l,inW i b T c->lo<=c.come/\c.come<T)->cL i b T l=0∨cL i b T l*g<=T-1-lo+g
 | [],_,_,_=>.inl rfl
 | c::l,lo,pw,h=>by
  obtain⟨p1,p2⟩:=Zcw.mp pw
  rw[cL]
  by_cases e:inW i b T c
  ·rw[if_pos e]
   obtain⟨h1,h2⟩:=h c Zx e
   refine .inr ?_
   rcases Jw6 hg (lo:=c.come+g) p2 λ d hd ed=>⟨p1 d hd e.1 ed.1,(h d (Zl _ hd) ed).2⟩ with z|z
   ·rw[z]
    omega
   ·rw[ZdR]
    omega
  ·rw[if_neg e,Int.zero_add]
   exact Jw6 hg p2 λ d hd ed=>h d (Zl _ hd) ed
theorem Jzr {i:Nat}{b T m:Int}(hm:0<=m):∀{l:List Cm},(∀c∈l,c.at_=i->c.len<=m)->dL i b T l<=cL i b T l*m
 | [],_=>by simp[dL,cL]
 | c::l,h=>by
  have:=Jzr (b:=b) (T:=T) hm (l:=l) λ d hd=>h d (Zl _ hd)
  rw[dL,cL,ZdR]
  by_cases e:inW i b T c
  ·have:=h c Zx e.1
   rw[if_pos e,if_pos e]
   omega
  ·rw[if_neg e,if_neg e]
   omega
theorem Jzs {i:Nat}{b T:Int}:∀cs:List Cm,sR cs.length (λ p=>if atN cs p=i/\b<=rdN cs p/\rdN cs p<T then lnN cs p else 0)=dL i b T cs:=by
 have key:∀(l m:List Cm),sR l.length (λ p=>if atN (l++m) p=i/\b<=rdN (l++m) p/\rdN (l++m) p<T then lnN (l++m) p else 0)=sR l.length (λ p=>if atN l p=i/\b<=rdN l p/\rdN l p<T then lnN l p else 0):=λ l m=>by
  have e:∀p,p<l.length->(l++m).getD p cd=l.getD p cd:=λ p hp=>by rw[Ze,Ze,ZC hp]
  refine Int.le_antisymm (V5 λ p hp=>?_) (V5 λ p hp=>?_)<;>(unfold atN rdN lnN;rw[e p hp];exact ZG _)
 have snoc:∀(l:List Cm)(c:Cm),dL i b T (l++[c])=dL i b T l+dL i b T [c]:=λ l c=>by
  induction l with
  | nil=>simp[dL]
  | cons x l ih=>simp only[ZS,dL] at ih ⊢;omega
 intro cs
 induction hn:cs.length generalizing cs with
 | zero=>rw[ZbJ.mp hn];rfl
 | succ n ih =>
  have ne:cs≠[]:=λ z=>by rw[z] at hn;cases hn
  obtain⟨l,c,rfl⟩:∃l c,cs=l++[c]:=⟨_,_,(List.dropLast_concat_getLast ne).symm⟩
  have hl:l.length=n:=by rw[Z0] at hn;exact Nat.succ.inj hn
  rw[Vb,<-hl,key,hl,ih l hl,snoc]
  congr 1
  have e:(l++[c]).getD n cd=c:=by rw[Ze,Z9 00,hl];simp
  unfold atN rdN lnN
  rw[e]
  show _=(if inW i b T c then c.len else 0)+0
  unfold inW
  by_cases q:c.at_=i/\b<=rdC c/\rdC c<T
  ·rw[if_pos q,if_pos ⟨00,q.2⟩];omega
  ·rw[if_neg q,if_neg λ z=>q ⟨00,z.2⟩];rfl
theorem Jwe:∀{n:Nat},sR n (λ p=>f p+g p)=sR n f+sR n g
 | 0=>rfl
 | n+1=>by rw[Vb,Vb,Vb,Jwe];omega
structure Nm (r:RH):Prop where
 g:0<r.1.gap
 l:1<=r.1.len
 t:0<=r.1.late
theorem Jy7 (Lg:Legal rs cs){i:Nat}{L b:Int}(hi:i<rs.length)(N:Nm rs[i])(L1:1<=L):dL i b (b+L) cs<=cmn L (rs[i]).1*(rs[i]).1.len:=by
 have ok:=Lg.ok
 have pw:cs.Pairwise λ x y=>x.at_=i->y.at_=i->x.come+(rs[i]).1.gap<=y.come:=by
  rw[Zcf]
  intro m n hm hn lt e1 e2
  exact Lg.far m n _ _ lt (Zb hm) (Zb hn) (e1.trans e2.symm) _ (by rw[e1];exact Zb hi)
 have c1:=Jw6 (i:=i) (b:=b) (T:=b+L) (lo:=b-(rs[i]).1.late) N.g pw λ c hc ⟨e,h1,h2⟩=>by
  have o:=ok c hc
  have o1:=o.l0
  have o2:=o.l1
  subst e
  unfold rdC at h1 h2
  omega
 have c2:cL i b (b+L) cs<=cmn L (rs[i]).1:=by
  have g:=N.g
  have t:=N.t
  unfold cmn rup
  rw[if_pos L1,Zd9 g]
  rcases c1 with z|z
  ·rw[z]
   omega
  ·omega
 have m0:=N.l
 have:=Jzr (i:=i) (b:=b) (T:=b+L) (m:=(rs[i]).1.len) 00 (l:=cs) λ c hc e=>by subst e;exact(ok c hc).n2
 exact Zcd this (ZbK c2 00)
theorem Jqb (Lg:Legal rs cs)(N:∀r∈rs,Nm r)(L1:1<=L):∀n,n<=rs.length->sR cs.length (λ p=>if atN cs p<n/\b<=rdN cs p/\rdN cs p<b+L then lnN cs p else 0)<=Qg (rs.take n) L
 | 0,_=>by
  rw[Jmt λ p _=>if_neg λ z=>by have:=z.1;unfold atN at this;omega]
  exact ZG _
 | n+1,hn=>by
  have ih:=Jqb Lg N (L:=L) (b:=b) L1 n 00
  have wl:=Jy7 Lg (b:=b) (show n<rs.length by omega) (N _ (Zz 00)) L1
  rw[<- Jzs] at wl
  rw[Jig 00]
  refine Zcd ?_ (Int.add_le_add ih wl)
  rw[<- Jwe]
  refine V5 λ p hp=>?_
  by_cases q:b<=rdN cs p/\rdN cs p<b+L
  ·by_cases e:atN cs p=n
   ·rw[if_pos ⟨00,q⟩,if_neg λ z=>by have:=z.1;omega,if_pos ⟨e,q⟩];omega
   ·by_cases e2:atN cs p<n
    ·rw[if_pos ⟨00,q⟩,if_pos ⟨e2,q⟩,if_neg λ z=>e z.1];omega
    ·rw[if_neg λ z=>by have:=z.1;omega,if_neg λ z=>e2 z.1,if_neg λ z=>e z.1];omega
  ·rw[if_neg λ z=>q z.2,if_neg λ z=>q z.2,if_neg λ z=>q z.2];omega
theorem Jzt (Lg:Legal rs cs)(N:∀r∈rs,Nm r)(ha:a<rs.length)(L1:1<=L)(lt:L+(rs[a]).1.late<=(rs[a]).1.gap)(ld:B+(rs[a]).1.len+Qg (rs.take a) L<=L)(b:Int):B+dM cs a b (b+L)<=L:=by
 have h:=Jqb Lg N (L:=L) (b:=b) L1 (a+1) ha
 rw[Jig ha] at h
 have n:=N _ (Zz ha)
 have c1:cmn L (rs[a]).1<=1:=by
  unfold cmn
  rw[if_pos L1]
  exact Jsc n.g 00
 have m:=ZbK c1 (show 0<=(rs[a]).1.len by have:=n.l;omega)
 have e:dM cs a b (b+L)<=sR cs.length (λ p=>if atN cs p<(a+1:Nat)/\b<=rdN cs p/\rdN cs p<b+L then lnN cs p else 0):=V5 λ p hp=>by
  by_cases q:atN cs p<=a
  ·by_cases z:b<=rdN cs p/\rdN cs p<b+L
   ·rw[if_pos ⟨q,z⟩,if_pos ⟨00,z⟩];exact ZG _
   ·rw[if_neg λ y=>z y.2,if_neg λ y=>z y.2];exact ZG _
  ·rw[if_neg λ y=>q y.1,if_neg λ y=>q (by have:=y.1;omega)];exact ZG _
 omega
section
seal L4.run L4.WS
def tn (b:Hd):Int:=b.2.2-b.2.1-1
def prV (p:Nat×Hd):IV:=.tup [.int (p.1:Int),tupH p.2]
def kfV (v:IV):Int:=match v with
 | .tup [_,.tup [_,.int s,.int e]]=>e-s-1
 | _=>0
theorem Jw5 (l:List (Nat×Hd)):(l=[]/\XX kfV .non (l.map prV)=.non)∨∃p∈l,XX kfV .non (l.map prV)=prV p/\∀p'∈l,tn p'.2<=tn p.2:=by
 cases l with
 | nil=>exact .inl ⟨rfl,rfl⟩
 | cons p0 r =>
  refine .inr ?_
  rw[Z5]
  show ∃p∈p0::r,Q6 kfV (prV p0) (r.map prV)=prV p/\_
  obtain⟨h1,h2⟩:=Jg3 kfV (r.map prV) (prV p0)
  have key:∀p,Q6 kfV (prV p0) (r.map prV)=prV p->∀p'∈p0::r,tn p'.2<=tn p.2:=λ p e p' hp'=>by
   rw[e] at h1 h2
   rcases Z6.mp hp' with rfl|hp'
   ·exact h1
   ·exact h2 _ (ZE.mpr ⟨p',hp',rfl⟩)
  rcases Jfa kfV (r.map prV) (prV p0) with e|e
  ·exact⟨p0,Zx,e,key p0 e⟩
  ·obtain⟨p,hp,e⟩:=ZE.mp e
   exact⟨p,Zl _ hp,e.symm,key p e.symm⟩
def stB (hss:List (List Hd))(a:Nat)(b:Hd):Bool:=decide (fZ hss b.1<=a)
def stV (hss:List (List Hd))(a:Nat)(v:IV):Bool:=match v with
 | .tup [.str x,.int s,.int e]=>stB hss a (x,s,e)
 | _=>Zk
def J1g (o:Int)(v:IV):IV:=.tup [.int o,v]
theorem Jsl (hss:List (List Hd))(a o:Nat):∀hs:List Hd,((hs.map tupH).filter (stV hss a)).map (J1g (o:Int))=((hs.filter (stB hss a)).map λ b=>(o,b)).map prV
 | []=>rfl
 | b::hs=>by
  rw[Z5,Zbi,Zbi]
  have e:stV hss a (tupH b)=stB hss a b:=rfl
  rw[e]
  split
  ·rw[Z5,Z5,Z5,Jsl hss a o hs]
   rfl
  ·exact Jsl hss a o hs
def Blk (rs:List RH)(a:Nat)(b:Hd):Prop:=∃w r,a<w/\rs[w]?=Za r/\b∈r.2/\fZ (rs.map (·.2)) b.1<=a
structure Up (rs:List RH)(a:Nat)(z:Int):Prop where
 nn:0<=z
 le:∀b,Blk rs a b->tn b<=z
 eq:z=0∨∃b,Blk rs a b/\tn b=z
theorem Up.uniq (u:Up rs a x)(v:Up rs a y):x=y:=by
 have key:∀{x y:Int},Up rs a x->Up rs a y->x<=y:=λ u v=>by
  rcases u.eq with e|⟨b,hb,e⟩
  ·rw[e];exact v.nn
  ·rw[<- e];exact v.le b hb
 exact Int.le_antisymm (key u v) (key v u)
section
variable {k:Nat}{h:IH}
theorem Jwp (b:Hd):Ja6 (k+1) [tupH b] h=.ok (.int (tn b)) h:=Ju (by rw[Jjk];exact xfin (xret (Je (subE (subE (ixtE rfl rfl QL) (ixtE rfl rfl JY)) rfl) ⟨rfl,rfl⟩)))
theorem Jzc {gt:IV->IV->Option Bool}{js:List Nat}{m:E1}{d:IV}{Q:IV->IH->Prop}(hj:h[j]?=Za (.tab q))(hi:σ[i]?=Za (Za (.ref a))) :
  WR (Yf gt q j js (Jc (Ja i) Jd) m (eC d) σ h) Q=WR (Xy gt (λ v h'=>m (Za v::js.map λ j=>(σ[j]?).join) h') a d h) Q:=by
 have e:Jc (Ja i) Jd σ h=.ok [.ref a] h:=by
  unfold Jc Ja Jd
  rw[hi]
  rfl
 unfold Yf
 rw[e]
 show WR (match h[j]? with|some (.tab q')=>_|_=>_) Q=_
 rw[hj]
 dsimp only
 rw[if_pos rfl]
 rfl
theorem Jpe {D a:Nat}{rs:List RH}(ha:a<rs.length)(hd:IsDu h D rs)(few:rs.length<=12)(six:∀r∈rs,r.2.length<=6)(h0:h[2]?=Za (.tab "longest_hold")) :
  WR (Jbj (k+3) [.ref D,.int (a:Int)] h) λ v h'=>(∃F:List (Nat×Hd),v=XX kfV .non (F.map prV)/\(∀x∈F,Blk rs a x.2)/\∀w r,a<w->rs[w]?=Za r->∀b∈r.2,fZ (rs.map (·.2)) b.1<=a->∃x∈F,x.2=b)/\Ex h h':=by
 have hb:=J8
 obtain⟨vs,gD,w⟩:=hd
 obtain⟨_,h1,e1,t,kvs,rfl,gt,tv,x1⟩:=(Jg4 (k:=k) gD w few six).eq
 have gD1:=x1.get gD
 have w1:=w.kp x1.kp
 have wl:=w.len
 rw[Jha]
 refine xfin (xseq (xset (Je (JO (arg1 rfl) e1) (xseq (xset (Je rfl (xseq (xfor ?_))))))))
 rw[QE]
 refine Je (arg2 (addE rfl rfl) (dotE rfl (grow gD1) dls (Jbf _) rfl (Jew (grow gD1)))) ?_
 rw[YS]
 refine⟨00,?_⟩
 refine QG (λ m σ h'=>∃(F:List (Nat×Hd))(c:Option IV),σ=[Za (.ref D),Za (.int (a:Int)),Za (.ref t),Za (.ref h1.length),c]/\h'[h1.length]?=Za (.lst (F.map prV))/\Kp h1 h'/\F.length<=6*m/\(∀x∈F,Blk rs a x.2)/\∀w r,a<w->w<a+1+m->rs[w]?=Za r->∀b∈r.2,fZ (rs.map (·.2)) b.1<=a->∃x∈F,x.2=b) (λ _ _ _ _=>trivial) ?_ ?_ ⟨[],Zc,rfl,Jp,(Ex.one _ _).kp,Zp _,(λ x hx=>by cases hx),λ w r l1 l2=>00⟩
 ·rintro n hn _ h2 ⟨F,c,rfl,g2,k2,lf,sub,all⟩
  rw[Qk]
  rw[JA] at hn
  have hn':a+1+n<rs.length:=00
  rw[show(a:Int)+1+(n:Int)=((a+1+n:Nat):Int) by push_cast;omega]
  have er:rs[a+1+n]?=Za rs[a+1+n]:=Zb hn'
  have mr:=Zz hn'
  generalize rs[a+1+n]=r at er mr
  obtain⟨j,ej,gj⟩:=w1.get er
  have av:atI vs ((a+1+n:Nat):Int)=Za (.ref j):=JC ej
  have l6:=six r mr
  obtain⟨_,_,e3,rfl,gg,rfl⟩:=(Jj2 (it:=J6 (Jn (pg (k+2)) "held" 0 (Jn (pg (k+2)) "work" 1 (Ja 0) (Jc (Ja 4) Jd)) Jd)) (js:=[1,2,4]) (t:=Jaf (k+2)) (e:=Ja8 (k+2)) (σ:=[Za (.ref D),Za (.int (a:Int)),Za (.ref t),Za (.ref h1.length),Za (.int ((a+1+n:Nat):Int))]) (h0:=h2) (h:=h2++[IX.lst (r.2.map tupH)]) (xs:=r.2.map tupH) (chk:=λ h'=>h'[h2.length]?=Za (.lst (r.2.map tupH))) (p:=stV (rs.map (·.2)) a) (f:=J1g ((a+1+n:Nat):Int))
   (by
    rw[QD]
    exact Je (dotE (wkE (k2 _ _ gD1) rfl rfl av) (k2 _ _ gj) flh (Jbg _) rfl (Je6 (k2 _ _ gj))) ((Qp _).mpr ⟨_,Jp,rfl,rfl,rfl⟩)) (by rw[Zm];omega) (λ h3 q=>q _ _ Jp) (by
    intro v hv h3 q
    obtain⟨b,hb',rfl⟩:=ZE.mp hv
    have z:=tv b.1
    have gt3:h3[t]?=Za (.dct kvs):=q _ _ (grow (k2 _ _ gt))
    cases em:fstK (rs.map (·.2)) b.1 with
    | none =>
     unfold fstK at em
     rw[Zcg] at em
     have:=em r.2 (ZE.mpr ⟨r,mr,rfl⟩)
     exact absurd (show has b.1 r.2=Zi from Zdy.mpr ⟨b,hb',decide_eq_true rfl⟩) (by rw[this];exact Zu)
    | some m =>
     rw[em] at z
     have ev:valI kvs (.inr b.1)=Za (.int (m:Int)):=by
      cases w:valI kvs (.inr b.1) with
      | none=>rw[w] at z;cases z
      | some v'=>rw[w] at z;exact congrArg Za z
     have fz:fZ (rs.map (·.2)) b.1=m:=by unfold fZ;rw[em]
     unfold Jaf
     refine Je (leE ((binE rfl (ixtE rfl rfl JS)).trans (Ju (by rw[Js0 gt3 ev];exact⟨rfl,rfl⟩))) rfl) ⟨?_,.refl _⟩
     show decide ((m:Int)<=a)=decide (fZ (rs.map (·.2)) b.1<=a)
     rw[fz]) (by
    intro v hv _ h3 q
    exact Je (tupE (arg2 rfl rfl) rfl) ⟨rfl,.refl _⟩)).eq
  have lr:=Zb0 (stB (rs.map (·.2)) a) r.2
  rw[Jsl] at e3
  have G':∀{i:Nat}{o o':IX}{g:IH},h2[i]?=Za o->(h2++[IX.lst (r.2.map tupH)]++o'::g)[i]?=Za o:=λ e=>(Ex.cons _ _ _).get (grow e)
  refine xnx rfl (Qr (Q3 rfl g2 Jqi (Je (arg1 e3) ?_)))
  rw[Jsy (xs:=F.map prV) (G' g2) J1 (by rw[Zm,Zm,Zm];omega),<-Zbt]
  refine⟨_,_,rfl,Qb (G' g2),λ j o e=>Jw (G' (k2 _ _ e)) (by have:=J4 e;omega),by rw[Z0,Zm];omega,λ x hx=>?_,λ w r' l1 l2 e b hb' fb=>?_⟩
  ·rcases ZV.mp hx with hx|hx
   ·exact sub x hx
   ·obtain⟨b,hb',rfl⟩:=ZE.mp hx
    exact⟨a+1+n,r,00,er,(Za4.mp hb').1,of_decide_eq_true (Za4.mp hb').2⟩
  ·by_cases ew:w=a+1+n
   ·subst ew
    rw[er] at e
    cases e
    exact⟨(a+1+n,b),Zj _ (ZE.mpr ⟨b,Za4.mpr ⟨hb',decide_eq_true fb⟩,rfl⟩),rfl⟩
   ·obtain⟨x,hx,ex⟩:=all w r' l1 00 e b hb' fb
    exact⟨x,Zaq _ hx,ex⟩
 ·rintro _ h2 ⟨F,c,rfl,g2,k2,lf,sub,all⟩
  rw[JA] at all
  have x2:=x1.trans (Yj k2)
  refine xret ?_
  rw[Jzc (x2.get h0) rfl]
  refine WR.mono (Jvh (kf:=kfV) g2 ?_) ?_
  ·intro v hv h3 x3
   obtain⟨p,hp,rfl⟩:=ZE.mp hv
   exact Je (JO (arg1 (ixtE rfl rfl JY)) (Jwp p.2)) ⟨rfl,.refl _⟩
  ·rintro v h3 ⟨rfl,x3⟩
   exact⟨⟨F,rfl,sub,λ w r l1 e=>all w r l1 (by have:=(Zq.mp e).1;omega) e⟩,x2.trans x3⟩
theorem Jo7 {rs:List RH}(ha:a<rs.length)(hd:IsDu h D rs)(few:rs.length<=12)(six:∀r∈rs,r.2.length<=6)(pos:∀r∈rs,∀b∈r.2,b.2.1<b.2.2)(h0:h[2]?=Za (.tab "longest_hold")) :
  WR (Jgm (k+4) [.ref D,.int (a:Int)] h) λ v h'=>(∃z,v=.int z/\Up rs a z)/\Ex h h':=by
 rw[Joz]
 obtain⟨_,h1,e1,⟨F,rfl,sub,all⟩,x1⟩:=(Jpe (k:=k) (a:=a) ha hd few six h0).eq
 refine xfin (xseq (xset (Je (JO (arg2 rfl rfl) e1) (xret ?_))))
 rcases Jw5 F with⟨e,e2⟩|⟨p,hp,e2,mx⟩
 ·rw[e2]
  refine xeif (Je rfl ⟨λ _=>Je rfl ⟨⟨0,rfl,ZG _,λ b ⟨w,r,l1,ew,hb,fb⟩=>?_,.inl rfl⟩,x1⟩,λ z=>by cases z⟩)
  obtain⟨x,hx,_⟩:=all w r l1 ew b hb fb
  rw[e] at hx
  cases hx
 ·rw[e2]
  refine xeif (Je rfl ⟨(λ z=>by cases z),λ _=>Je (JO (arg1 (ixtE rfl rfl JY)) (Jwp p.2)) ⟨⟨_,rfl,?_,λ b ⟨w,r,l1,ew,hb,fb⟩=>?_,.inr ⟨p.2,sub p hp,rfl⟩⟩,x1⟩⟩)
  ·obtain⟨w,r,_,er,hb,_⟩:=sub p hp
   have:=pos r (Zb4 er) _ hb
   unfold tn
   omega
  ·obtain⟨x,hx,rfl⟩:=all w r l1 ew b hb fb
   exact mx x hx
end
end
section
seal L4.run L4.WS L4.WR
def aOfN (s:Int)(h:IH)(v:IV):IV:=match QX "late" v h,QX "gap" v h,QX "length" v h with
 | some (.int l),Za (.int g),Za (.int n)=>.int ((if 1<=s then rup (s+l) g else 0)*n)
 | _,_,_=>.non
def vAt (vs:List IV)(v:IV):IV:=match v with
 | .int n=>(vs[n.toNat]?).getD .non
 | _=>.non
theorem Jy6 (vs:List IV)(a:Nat)(ha:a<=vs.length):(rngI 0 (a:Int)).map (vAt vs)=vs.take a:=by
 refine Zbq λ i=>?_
 rw[Zt]
 by_cases hi:i<a
 ·have hr:i<(rngI 0 (a:Int)).length:=by rw[JA];omega
  rw[Zb hr,Qk,Zcu,if_pos hi,Zb (show i<vs.length by omega)]
  simp only[ZdC,vAt]
  rw[show((0:Int)+(i:Int)).toNat=i by omega,Zb (show i<vs.length by omega)]
  rfl
 ·rw[Zaw (by rw[JA];omega),Zcu,if_neg hi]
  rfl
theorem Jus {x y g:Int}(hg:0<g)(h:x<=y):rup x g<=rup y g:=by
 unfold rup
 exact Int.ediv_le_ediv hg 00
theorem Ji9 {s t:Int}{d:WD}(hg:0<d.gap)(h1:1<=s)(h:s<=t):cmn s d<=cmn t d:=by
 unfold cmn
 rw[if_pos h1,if_pos 00]
 exact Jus hg 00
def cnt (rs:List RH)(s:Int):Int:=(rs.map λ r=>cmn s r.1).sum
theorem Jnd {s t:Int}(h1:1<=s)(h:s<=t):∀{rs:List RH},(∀r∈rs,0<r.1.gap)->cnt rs s<=cnt rs t
 | [],_=>ZG _
 | r::rs,q=>by
  have:=Jnd h1 h (rs:=rs) λ r hr=>q r (Zl _ hr)
  have:=Ji9 (d:=r.1) (q r Zx) h1 h
  unfold cnt at *
  rw[Z5,Z5,Zbl,Zbl]
  omega
theorem Jif {s t:Int}(h1:1<=s)(h:s<=t):∀{rs:List RH},(∀r∈rs,0<r.1.gap/\0<=r.1.len)->Qg rs s<=Qg rs t
 | [],_=>ZG _
 | r::rs,q=>by
  have a:=Jif h1 h (rs:=rs) λ r hr=>q r (Zl _ hr)
  have b:=ZbK (Ji9 (d:=r.1) (q r Zx).1 h1 h) (q r Zx).2
  unfold Qg at *
  rw[Z5,Z5,Zbl,Zbl]
  omega
theorem Jvu {s t:Int}(h1:1<=s)(h:s<=t):∀{rs:List RH},(∀r∈rs,0<r.1.gap/\0<=r.1.len)->Qg rs s<Qg rs t->cnt rs s<cnt rs t
 | [],_,z=>absurd z (Int.lt_irrefl _)
 | r::rs,q,z=>by
  have q':∀r∈rs,0<r.1.gap/\0<=r.1.len:=λ r hr=>q r (Zl _ hr)
  have c1:=Ji9 (d:=r.1) (q r Zx).1 h1 h
  have c2:=Jnd h1 h (rs:=rs) λ r hr=>(q' r hr).1
  have ih:=Jvu h1 h q'
  unfold Qg cnt at *
  rw[Z5,Z5,Zbl,Zbl] at z ⊢
  by_cases e:cmn s r.1=cmn t r.1
  ·rw[e] at z ⊢
   have:=ih 00
   omega
  ·omega
theorem Jzn {s:Int}{d:WD}(hg:0<d.gap)(hl:0<=d.late):0<=cmn s d:=by
 unfold cmn
 split
 ·unfold rup
  exact Int.ediv_nonneg 00 00
 ·exact ZG _
theorem Jvv {s:Int}:∀{rs:List RH},(∀r∈rs,0<r.1.gap/\0<=r.1.late)->0<=cnt rs s
 | [],_=>ZG _
 | r::rs,q=>by
  have a:=Jvv (s:=s) (rs:=rs) λ r hr=>q r (Zl _ hr)
  have b:=Jzn (s:=s) (d:=r.1) (q r Zx).1 (q r Zx).2
  unfold cnt at *
  rw[Z5,Zbl]
  omega
structure Dg (h:IH)(D:Nat)(rs:List RH)(unit:Int):Prop where
 d:IsDu h D rs
 t:h[2]?=Za (.tab "longest_hold")
 g:Gd unit rs
theorem Dg.kp {h h':IH}{D:Nat}{rs:List RH}{unit:Int}(k:Kp h h')(q:Dg h D rs unit):Dg h' D rs unit:=⟨q.d.kp k,k _ _ q.t,q.g⟩
theorem Gd.six {unit:Int}{rs:List RH}(G:Gd unit rs):∀r∈rs,r.2.length<=6:=λ r hr=>(G.f r hr).ok.few
theorem Gd.pos {unit:Int}{rs:List RH}(G:Gd unit rs):∀r∈rs,∀b∈r.2,b.2.1<b.2.2:=λ r hr b hb=>((G.f r hr).ok.each b hb).2.2.1
theorem Gd.l64 {unit:Int}{rs:List RH}(G:Gd unit rs):∀r∈rs,r.1.len.natAbs<2^64:=λ r hr=>by
 have f:=G.f r hr
 have f1:=f.l1
 have f2:=f.l2
 have f3:=f.g2
 have u:=G.u2
 omega
def FitL (rs:List RH)(a:Nat)(s:Int):Prop:=1<=s/\∃r,rs[a]?=Za r/\s+r.1.late<=r.1.due/\∃z,Up rs a z/\z+r.1.len+Qg (rs.take a) s<=s
section
variable {k:Nat}{h:IH}{D a:Nat}{rs:List RH}{unit s:Int}
theorem Jov {d:WD}{hs:List IV}{w:Nat}(hw:h[w]?=Za (.ins "Work" (wfs d.name d.gap d.len d.due d.late hs)))(hg:0<d.gap)(hl:d.gap.natAbs.log2<9000) :
  Jck (k+2) [.ref w,.int s] h=.ok (.int (cmn s d)) h:=by
 refine Ju ?_
 rw[Jji]
 refine xfin (xret (xeif (Je (geE rfl rfl) (xdec (λ q=>?_) λ q=>?_))))
 ·refine Je (JO (arg2 (addE rfl (fldE rfl hw fl4)) (fldE rfl hw fl1)) (Jlg hg hl)) ⟨?_,rfl⟩
  unfold cmn
  rw[if_pos q]
 ·refine Je rfl ⟨?_,rfl⟩
  unfold cmn
  rw[if_neg q]
theorem Jip {d:WD}{hs:List IV}{w:Nat}(hw:h[w]?=Za (.ins "Work" (wfs d.name d.gap d.len d.due d.late hs))) :
  Jds (k+1) [.ref w,.int s] h=.ok (.bl (decide (s+d.late<=d.due))) h:=Ju (by
 rw[Jo0]
 exact xfin (xret (Je (binE (addE rfl (fldE rfl hw fl4)) (fldE rfl hw fl3)) ⟨rfl,rfl⟩)))
theorem Yb {h h0:IH}{it:I1}{e:E1}{js:List Nat}{σ:ISt}{xs:List IV}{chk:IH->Prop}{f:IV->IV}(hit:WR (it σ h0) λ J h1=>J.xs=xs/\J.chk=chk/\h1=h)(hl:xs.length<sizeLine)
  (hc:∀h2:IH,(∀(j:Nat)(ob:IX),h[j]?=Za ob->h2[j]?=Za ob)->chk h2)
  (he:∀x∈xs,∀h2:IH,(∀(j:Nat)(ob:IX),h[j]?=Za ob->h2[j]?=Za ob)->WR (e (Za x::js.map λ j=>(σ[j]?).join) h2) λ v h3=>v=f x/\Ex h2 h3) :
  ∃g,Js it 1 js (gNm 0) JB e σ h0=.ok (.ref h.length) (h++.lst (xs.map f)::g):=by
 obtain⟨v,h3,e,rfl,g,rfl⟩:=(QC hit hl hc he).eq
 exact⟨g,e⟩
theorem Dg.wk (q:Dg h D rs unit){r:RH}(e:rs[a]?=Za r):∃j,h[j]?=Za (wo r)/\∀{k:Nat}{o x:E1}{σ:ISt},o σ h=.ok (.ref D) h->x σ h=.ok (.int (a:Int)) h->Jn (pg (k+1)) "work" 1 o (Jc x Jd) σ h=.ok (.ref j) h:=by
 obtain⟨vs,gD,w⟩:=q.d
 obtain⟨j,ej,gj⟩:=w.get e
 exact⟨j,gj,λ eo ex=>wkE gD eo ex (JC ej)⟩
theorem Jml (q:Dg h D rs unit){r:RH}(er:rs[a]?=Za r):WR (Jm6 (k+5) [.ref D,.int (a:Int),.int s] h) λ v h'=>(∃z,Up rs a z/\v=.int (z+r.1.len+Qg (rs.take a) s))/\Ex h h':=by
 have hb:=J8
 have few:=q.g.few
 have ha:=(Zq.mp er).1
 obtain⟨vs,gD,w⟩:=q.d
 have wl:=w.len
 rw[Jxl]
 refine xfin (xseq (xset ?_))
 have Y:=@Yb h h (iRg JV (Jc (Ja 1) Jd)) (Jil (k+4)) [0] [Za (.ref D),Za (.int (a:Int)),Za (.int s),Zc,Zc] (rngI 0 (a:Int)) (λ _=>True) (vAt vs)
  (by
   rw[QE]
   refine Je (arg1 rfl) ?_
   rw[V8]
   exact⟨00,rfl,rfl,rfl⟩) (by rw[JA];omega) (λ _ _=>trivial) (by
   intro x hx h2 z
   obtain⟨n,hn,rfl⟩:=ZA.mp hx
   rw[JA] at hn
   rw[Qk,show(0:Int)+(n:Int)=n by omega]
   have hnv:n<vs.length:=00
   obtain⟨j,ej,_⟩:=w.get (Zb (show n<rs.length by omega))
   refine Je (wkE (z _ _ gD) rfl rfl (JC ej)) ⟨?_,.refl _⟩
   unfold vAt
   dsimp only
   rw[show(n:Int).toNat=n by omega,ej]
   rfl)
 rw[Jy6 vs a 00] at Y
 generalize Js _ _ _ _ _ _ _ _=rc at Y ⊢
 obtain⟨g,rfl⟩:=Y
 rw[Vh]
 have x1:Ex h (h++IX.lst (vs.take a)::g):=.cons _ _ _
 have gV:(h++IX.lst (vs.take a)::g)[h.length]?=Za (.lst (vs.take a)):=J1
 generalize h.length=V at gV ⊢
 generalize h++IX.lst (vs.take a)::g=h1 at x1 gV ⊢
 have w1:=w.kp x1.kp
 have it:∀i,i<a->∃j,(vs.take a)[i]?=Za (.ref j)/\∃hi:i<rs.length,h1[j]?=Za (wo rs[i]):=λ i hi=>by
  obtain⟨j,ej,gj⟩:=w1.get (Zb (show i<rs.length by omega))
  exact⟨j,by rw[Zcu,if_pos hi,ej],00,gj⟩
 have ao:∀{j:Nat}{r:RH}{h':IH},h'[j]?=Za (wo r)->aOfN s h' (.ref j)=.int (cmn s r.1*r.1.len):=λ e=>by
  rw[aOfN,JT e,JT e,JT e,fl4,fl1,fl2]
  rfl
 refine xseq (xset ?_)
 have Y:=@Yb h1 h1 (J6 (Ja 3)) (Jim (k+4)) [2] [Za (.ref D),Za (.int (a:Int)),Za (.int s),Za (.ref V),Zc] (vs.take a) (λ h'=>h'[V]?=Za (.lst (vs.take a))) (aOfN s h1)
  (by rw[QD];exact Je rfl ((Qp _).mpr ⟨_,gV,rfl,rfl,rfl⟩)) (by rw[Za6];omega) (λ h2 z=>z _ _ gV) (by
   intro x hx h2 z
   obtain⟨i,hi,rfl⟩:=ZA.mp hx
   rw[Za6] at hi
   obtain⟨j,ej,hi',gj⟩:=it i 00
   rw[Zb (by rw[Za6];omega)] at ej
   rw[ZQ ej,ao gj]
   have gl:=q.g.gl _ (ZE.mpr ⟨_,Zz hi',rfl⟩)
   have l6:=q.g.l64 _ (Zz hi')
   exact Je (mulE (JO (arg2 rfl rfl) (Jov (z _ _ gj) gl.1 gl.2)) (fldE rfl (z _ _ gj) fl2) (.inr (.inl l6))) ⟨rfl,.refl _⟩)
 have em:(vs.take a).map (aOfN s h1)=((rs.take a).map λ r=>cmn s r.1*r.1.len).map IV.int:=by
  refine Zce (by simp;omega) λ i p1 p2=>?_
  rw[Zm,Za6] at p1
  obtain⟨j,ej,hi',gj⟩:=it i 00
  rw[Zb (by rw[Za6];omega)] at ej
  rw[ZP,ZQ ej,ao gj,ZP,ZP,List.getElem_take]
 rw[em] at Y
 generalize hc:Js _ _ _ _ _ _ _ _=rc at Y
 obtain⟨g2,rfl⟩:=Y
 have x2:Ex h1 (h1++IX.lst (((rs.take a).map λ r=>cmn s r.1*r.1.len).map IV.int)::g2):=.cons _ _ _
 refine Je ((cbE (arg1 hc)).trans (Ju ((Js6 ..).mpr ⟨_,J1,_,V0 _,rfl,rfl⟩))) ?_
 clear hc
 generalize h1++IX.lst (((rs.take a).map λ r=>cmn s r.1*r.1.len).map IV.int)::g2=h2 at x2 ⊢
 have q2:=q.kp (x1.trans x2).kp
 obtain⟨_,h3,e3,⟨z,rfl,up⟩,x3⟩:=(Jo7 (k:=k) ha q2.d 00 q.g.six q.g.pos q2.t).eq
 obtain⟨j,gj,wj⟩:=(q2.kp x3.kp).wk er
 exact xret (Je (addE (addE (JO (arg2 rfl rfl) e3) (fldE (wj rfl rfl) gj fl2)) rfl) ⟨⟨z,up,rfl⟩,(x1.trans x2).trans x3⟩)
theorem geB {σ:ISt}{a b:E1}{i j:Int}{h1 h2:IH}(ea:a σ h=.ok (.int i) h1)(eb:b σ h1=.ok (.int j) h2):Jb cGe a b σ h=.ok (.bl (decide (j<=i))) h2:=binE ea eb
theorem leB {σ:ISt}{a b:E1}{i j:Int}{h1 h2:IH}(ea:a σ h=.ok (.int i) h1)(eb:b σ h1=.ok (.int j) h2):Jb cLe a b σ h=.ok (.bl (decide (i<=j))) h2:=binE ea eb
theorem Jwu {σ:ISt}{a b:E1}{h1:IH}{c:Bool}{P:IV->IH->Prop}(e:a σ h=.ok (.bl c) h1)(x:c=Zi->WR (b σ h1) P)(y:c=Zk->P (.bl Zk) h1):WR (eAnd a b tru σ h) P:=by
 unfold eAnd
 rw[e]
 cases c with
 | true=>exact x rfl
 | false=>exact Je rfl (y rfl)
theorem Jq2 (q:Dg h D rs unit)(ha:a<rs.length):WR (Jm5 (k+6) [.ref D,.int (a:Int),.int s] h) λ v h'=>(∃b,v=.bl b/\(b=Zi↔FitL rs a s))/\Ex h h':=by
 have er:=Zb ha
 generalize rs[a]=r at er
 have no:∀{h':IH},Ex h h'->¬FitL rs a s->(∃b,IV.bl Zk=.bl b/\(b=Zi↔FitL rs a s))/\Ex h h':=λ x n=>⟨⟨_,rfl,(λ z=>by cases z),λ z=>absurd z n⟩,x⟩
 rw[Jxk]
 refine xfin (xret (Jwu (geB rfl rfl) (λ q1=>?_) λ q1=>no (.refl _) λ f=>of_decide_eq_false q1 f.1))
 obtain⟨_,h1,e1,⟨z,up,rfl⟩,x1⟩:=(Jml (k:=k) (s:=s) q er).eq
 refine Jwu (leB (JO (arg3 rfl rfl rfl) e1) rfl) (λ q2=>?_) λ q2=>no x1 λ ⟨_,r',er',_,z',up',le⟩=>?_
 ·obtain⟨j,gj,wj⟩:=(q.kp x1.kp).wk er
  refine(Q2 ..).mpr (Je (arg2 (wj rfl rfl) rfl) (Je (Jip gj) ⟨⟨_,rfl,λ q3=>⟨of_decide_eq_true q1,r,er,of_decide_eq_true q3,z,up,of_decide_eq_true q2⟩,λ ⟨_,r',er',t,_⟩=>?_⟩,x1⟩))
  rw[er] at er'
  cases er'
  exact decide_eq_true t
 ·rw[er] at er'
  cases er'
  rw[up'.uniq up] at le
  exact of_decide_eq_false q2 le
theorem Jp5 (q:Dg h D rs unit)(ha:a<rs.length):WR (Jiu (k+6) [.ref D,.int (a:Int)] h) λ v h'=>(v=.non∨∃x,v=.int x)/\Ex h h':=by
 have er:=Zb ha
 have G:=q.g
 have u1:=G.u1
 have fa:=G.f _ (Zz ha)
 have fw:=G.few
 have few:∀s,1<=s->s+(rs[a]).1.late<=(rs[a]).1.due->cnt (rs.take a) s<=100:=λ s s1 s2=>by
  have b1:=fa.d2
  have b2:=fa.g2
  have b3:=fa.t1
  have:=Jsq 15 ((rs.take a).map λ r=>cmn s r.1) λ x hx=>by
   obtain⟨r,hr,rfl⟩:=ZE.mp hx
   have c:=G.f r (ZcP hr)
   have c1:=c.g1
   have c2:=c.t2
   unfold cmn
   rw[if_pos s1]
   exact Jsc 00 00
  rw[Zm,Za6] at this
  unfold cnt
  omega
 have q1:∀r∈rs.take a,0<r.1.gap/\0<=r.1.len:=λ r hr=>by
  have c:=G.f r (ZcP hr)
  have c1:=c.g1
  have c2:=c.l1
  exact⟨00,00⟩
 have q2:∀r∈rs.take a,0<r.1.gap/\0<=r.1.late:=λ r hr=>⟨(q1 r hr).1,(G.f r (ZcP hr)).t1⟩
 generalize rs[a]=r at er few
 rw[Jq4]
 refine xfin (xseq (xset (Je rfl (xseq ?_))))
 obtain⟨z,up⟩:∃z,Up rs a z:=by
  obtain⟨_,_,_,⟨z,up,_⟩,_⟩:=(Jml (k:=0) (s:=0) q er).eq
  exact⟨z,up⟩
 refine Jka (λ m σ h'=>Ex h h'/\∃(line:Int)(c:Option IV),σ=[Za (.ref D),Za (.int (a:Int)),Za (.int line),c]/\1<=line /\
  (line+r.1.late<=r.1.due->1<=m/\(z+r.1.len+Qg (rs.take a) line=line∨102<=(m:Int)+cnt (rs.take a) line))) ?_ (m:=102) 01 ⟨.refl _,1,Zc,rfl,01,λ _=>⟨01,.inr (by have:=Jvv (s:=1) q2;omega)⟩⟩
 rintro m _ h1 ⟨x1,line,c,rfl,l1,cn⟩
 have Q:=q.kp x1.kp
 obtain⟨j,gj,wj⟩:=Q.wk er
 refine(YV ..).mpr ((Q2 ..).mpr (Je (arg2 (wj rfl rfl) rfl) (Je (Jip gj) (Je rfl (xdec (λ t=>?_) λ t=>?_)))))
 ·have fw:=few line l1 t
  obtain⟨m1,cn⟩:=cn t
  refine⟨m-1,00,?_⟩
  obtain⟨_,h2,e2,⟨z',up',rfl⟩,x2⟩:=(Jml (k:=k) (s:=line) Q er).eq
  rw[up'.uniq up] at e2
  refine xseq (xset (Je (JO (arg3 rfl rfl rfl) e2) (xseq (xifd (leE rfl rfl) (λ le=>xret (Je rfl ⟨.inr ⟨_,rfl⟩,x1.trans x2⟩)) λ gt=>xnil (xset (Je rfl ⟨x1.trans x2,_,_,rfl,00,λ t2=>?_⟩))))))
  have cn:=cn.resolve_left 00
  generalize hn:z+r.1.len+Qg (rs.take a) line=nx at *
  refine⟨00,?_⟩
  by_cases e:Qg (rs.take a) line=Qg (rs.take a) nx
  ·left
   omega
  ·right
   have:=Jif l1 (show line<=nx by omega) q1
   have:=Jvu l1 (show line<=nx by omega) q1 00
   omega
 ·exact xret (Je rfl ⟨.inl rfl,x1⟩)
open Classical in
def fitV (rs:List RH)(v:IV):Bool:=match v with
 | .tup [.int i,.int s]=>decide (FitL rs i.toNat s)
 | _=>Zk
def stF (v:IV):ISt:=match v with
 | .tup [a,b]=>[Za a,Za b]
 | _=>[]
theorem Jxy {R:Nat}{ls:List Int}(q:Dg h D rs unit)(hR:h[R]?=Za (.lst (ls.map .int)))(hl:ls.length=rs.length):WR (Jgp (k+7) [.ref D,.ref R] h) λ v h'=>(∃b,v=.bl b/\(b=Zi↔∀i,i<rs.length->FitL rs i (ls.getD i 0)))/\Ex h h':=by
 have hb:=J8
 have few:=q.g.few
 have hR':(ls.map IV.int).length=ls.length:=Zm ..
 obtain⟨vs,gD,w⟩:=q.d
 have wl:=w.len
 rw[Jo4]
 refine xfin (xseq (xiff (okc (neI (lenE rfl hR) (dotE rfl gD dls (Jbf _) rfl (Jew gD))) (by rw[hR',hl,wl,decide_eq_true rfl];rfl)) (xnil (xret ?_))))
 have Y:=(Jod (h:=h) (h0:=h) (it:=iRg Qw (Jc (Ja 1) Jd)) (js:=[0]) (g:=gTp 2 (gC (gNm 0) (gC (gNm 1) gN))) (t:=JB) (e:=Jej (k+6)) (σ:=[Za (.ref D),Za (.ref R)]) (n:=2) (st:=stF) (xs:=Qi 0 (ls.map IV.int)) (chk:=λ h'=>h'[R]?=Za (.lst (ls.map IV.int))) (p:=λ _=>Zi) (f:=λ v=>.bl (fitV rs v))
  (by rw[QE];exact Je (arg1 rfl) ((Jj3 _).mpr ⟨_,hR,rfl,rfl,rfl⟩)) (by rw[QW,hR'];omega) (λ h2 z=>z _ _ hR) (by
   intro x hx l h2 ll
   obtain⟨n,hn,rfl⟩:=ZA.mp hx
   rw[Yi]
   match l,ll with
   | [a,b],_=>exact⟨rfl,rfl⟩) (λ x hx h2 z=>Je rfl ⟨rfl,.refl _⟩) (by
   intro x hx _ h2 z
   obtain⟨n,hn,rfl⟩:=ZA.mp hx
   rw[QW,hR'] at hn
   rw[Yi,ZP]
   refine(Q2 ..).mpr (Je (arg3 rfl rfl rfl) (WR.mono (Jq2 (k:=k) (q.kp z) (show n<rs.length by omega)) ?_))
   rintro _ h3 ⟨⟨b,rfl,hb'⟩,x3⟩
   refine⟨congrArg IV.bl ?_,x3⟩
   rw[Zbr,hb']
   simp only[fitV,Za1,decide_eq_true_eq])).eq
 obtain⟨_,_,e,rfl,g,rfl⟩:=Y
 rw[List.filter_eq_self.mpr λ _ _=>rfl] at e
 refine Je ((cbE (arg1 e)).trans (all_map (f:=fitV rs) J1)) ⟨⟨_,rfl,?_⟩,.cons _ _ _⟩
 have at_:∀n (hn:n<ls.length),fitV rs ((Qi 0 (ls.map IV.int))[n]'(by rw[QW,hR'];exact hn))=Zi↔FitL rs n (ls.getD n 0):=λ n hn=>by
  rw[Yi,ZP,Ze,Zb hn]
  simp only[fitV,Za1,decide_eq_true_eq]
  rfl
 rw[ZaG]
 refine⟨λ z i hi=>(at_ i 00).mp (z _ (Zz _)),λ z x hx=>?_⟩
 obtain⟨n,hn,rfl⟩:=ZA.mp hx
 have hn':n<ls.length:=by rw[QW,hR'] at hn;exact hn
 exact(at_ n hn').mpr (z n 00)
end
end
section
seal L4.run L4.WS L4.WR
def LiI (h:IH)(D S:Nat)(way:Int)(n:Nat)(σ:ISt)(h':IH):Prop:=∃(ls:List Int)(a4 a5 a6 a7 a8 a9 a10 a11:Option IV),σ=[Za (.ref D),Za (.ref S),Za (.int way),Za (.ref h.length),a4,a5,a6,a7,a8,a9,a10,a11]/\h'[h.length]?=Za (.lst (ls.map .int))/\ls.length=n/\Kp h h'
section
variable {k:Nat}{h:IH}{D S:Nat}{ys:List IV}{rs:List RH}{unit way:Int}
theorem Jt7 (q:Dg h D rs unit)(hS:h[S]?=Za (.lst ys))(R:RowsH h ys rs):WR (Jdj (k+7) [.ref D,.ref S,.int way] h) λ v h'=>∃ls:List Int,v=.ref h.length/\h'[h.length]?=Za (.lst (ls.map .int))/\ls.length=rs.length/\Ex h h':=by
 have hb:=J8
 have rl:=R.len
 have few:=q.g.few
 have t60:(100:Int)<=10^60:=by decide +kernel
 rw[Jk0]
 refine xfin (xseq (xset (Je (lstE rfl rfl) (xseq (xrng (n:=rs.length) ((lenE rfl (grow hS)).trans (by rw[rl])) 00 ?_)))))
 refine QG (LiI h D S way) (λ _ _ _ _=>trivial) ?_ ?_ ⟨[],Zc,Zc,Zc,Zc,Zc,Zc,Zc,Zc,rfl,Jp,rfl,(Ex.one _ _).kp⟩
 ·rintro n hn _ h1 ⟨ls,a4,a5,a6,a7,a8,a9,a10,a11,rfl,g1,ll,k1⟩
  rw[JA] at hn
  rw[Qk,show(0:Int)+(n:Int)=n by omega]
  have hn':n<rs.length:=00
  obtain⟨p,ea,_⟩:=R.get hn'
  have f:=q.g.f _ (Zz hn')
  have u1:=q.g.u1
  have f1:=f.g1
  have f2:=f.d1
  have A:=Jp5 (k:=k) (q.kp k1) hn'
  generalize rs[n]=r at ea f f1 f2
  refine xnx rfl (xseq ((QF ..).mpr (Je (ixlE rfl rfl (k1 _ _ hS) ea) (xnx rfl (xseq (xset ((Q2 ..).mpr (Je (arg2 rfl rfl) (WR.mono A ?_)))))))))
  rintro v h2 ⟨kd,x2⟩
  have lg:∀{x:Int},0<=x->x<=100->x.natAbs.log2<9000:=λ a b=>Jmm a 00
  have fin:∀(x:Int){a b c d e f g i:Option IV}{Rt:IV->IH->Prop},WS (JG (Jn (pg (k+6)) "append" 1 (Ja 3) (Jc (Ja 10) Jd)) [Za (.ref D),Za (.ref S),Za (.int way),Za (.ref h.length),a,b,c,d,e,f,Za (.int x),i] h2) (LiI h D S way (n+1)) Rt:=by
   intro x a b c d e f g i Rt
   exact Qr (Q3 rfl (x2.get g1) Vm (Je (arg1 rfl) (xapp (x2.get g1) (by rw[Zm];omega) ⟨ls++[x],_,_,_,_,_,_,_,_,rfl,by rw[Qb (x2.get g1),Zbt];rfl,by rw[Z0,ll];rfl,λ j o e=>Jw (x2.get (k1 _ _ e)) (by have:=J4 e;omega)⟩)))
  refine xseq (xset (Je (modE (JI rfl (addE rfl (mulE rfl rfl (.inl 01))) 00 (lg 00 00)) (addE rfl rfl) 00) ?_))
  generalize way/(2+5*(n:Int))%(r.1.due+1)=m0
  refine xseq (xset (Je (subE (mulE rfl (modE (JI rfl (addE rfl (mulE rfl rfl (.inl 01))) 00 (lg 00 00)) rfl 01) (.inr (.inl 00))) (JI (modE (JI rfl (addE rfl (mulE rfl rfl (.inl 01))) 00 (lg 00 00)) rfl 01) rfl 01 01)) ?_))
  generalize m0*(way/(3+4*(n:Int))%2)-way/(7+2*(n:Int))%3/2=m
  rcases kd with rfl|⟨x,rfl⟩
  ·exact xseq (xift rfl (xset (Je (addE rfl (modE (JI rfl (addE rfl rfl) 00 (lg 00 00)) (mulE rfl rfl (.inl 01)) 00)) (fin (g:=Zc) _))))
  ·exact xseq (xiff rfl (xifd (eqE (modE rfl rfl 01) rfl) (λ _=>xset (Je (addE rfl rfl) (fin (g:=Zc) _))) λ _=>xnil (fin (g:=Zc) _)))
 ·rintro _ h1 ⟨ls,a4,a5,a6,a7,a8,a9,a10,a11,rfl,g1,ll,k1⟩
  rw[JA] at ll
  exact xret (Je rfl ⟨ls,rfl,g1,00,Yj k1⟩)
end
end
section
seal L4.run L4.WS L4.WR
theorem Legal.snoc (L:Legal rs cs)(ok:COk rs c)(far:∀a∈cs,a.at_=c.at_->a.come+(rs[c.at_]'ok.at_).1.gap<=c.come):Legal rs (cs++[c]):=by
 refine⟨λ x hx=>?_,λ i j a b lt ea eb e r er=>?_⟩
 ·rcases ZV.mp hx with h|h
  ·exact L.ok x h
  ·rw[Zv.mp h]
   exact ok
 ·have hj:=(Zq.mp eb).1
  rw[Z0,Za9] at hj
  have hi:i<cs.length:=00
  rw[ZC hi] at ea
  by_cases hj':j<cs.length
  ·rw[ZC hj'] at eb
   exact L.far i j a b lt ea eb e r er
  ·have:j=cs.length:=00
   subst this
   rw[Z9 (Zp _),Zes] at eb
   cases eb
   have:=far a (Zb4 ea) e
   rw[e,Zb ok.at_] at er
   cases er
   exact this
theorem Legal.nil:Legal rs []:=⟨(λ c hc=>by cases hc),λ i j a b _ e=>by cases e⟩
theorem pk (xs:List Int)(hn:(xs.length:Int)=n)(h0:0<n):∃x∈xs,atI (xs.map IV.int) (y%n)=Za (.int x):=by
 have a:=Zan y (b:=n) 00
 have b:=ZY y h0
 have l:(y%n).toNat<xs.length:=00
 exact⟨xs[(y%n).toNat],Zz l,Jqc a (by rw[Zt,Zb l];rfl)⟩
def dH (a:Hd):Zei:=.tuple [.str a.1,.int a.2.1,.int a.2.2]
section
variable {k:Nat}{h:IH}{S C:Nat}{ys:List IV}{rs:List RH}{unit:Int}
theorem Jz8 {hs:List Hd}(e:h[q]?=Za (.lst (hs.map tupH)))(ok:∀a∈hs,IsNm a.1)(hj:h[j]?=Za (.lst [])):cNe (.ref q) (.ref j) h=.ok (.bl (!hs.isEmpty)) h:=by
 have e1:toD h 6 (.ref q)=Za (.list (hs.map dH)):=by
  have:∀hs:List Hd,(hs.map tupH).mapM (toD h 5)=Za (hs.map dH):=by
   intro hs
   induction hs with
   | nil=>rfl
   | cons a r ih=>rw[Z5,ZdN,ih];rfl
  rw[Jm0 e,this]
  rfl
 have e2:toD h 6 (.ref j)=Za (.list []):=by
  rw[Jm0 hj]
  rfl
 have ly:ZbV (hs.map dH)=Zi:=by
  clear e e1
  induction hs with
  | nil=>rfl
  | cons a hs ih =>
   have e:ZbI (dH a)=Zi:=by
    have:=J0x (ok a (Zx ..))
    simp only[dH,ZbI,ZbV] at this ⊢
    rw[this]
    rfl
   rw[Z5,ZbV,e,ih λ b hb=>ok b (Zl _ hb)]
   rfl
 have e3:Vn (.ref q) (.ref j) h=Za hs.isEmpty:=by
  unfold Vn
  rw[e1,e2]
  dsimp only
  rw[if_pos ⟨by rw[ZbI];exact ly,by rw[ZbI,ZbV]⟩,Zej]
  cases hs with
  | nil=>rw[Zbv,Zed];rfl
  | cons a as=>rw[Z5,Zed];rfl;all_goals intros;simp_all
 unfold cNe
 have e4:Xe (.ref q) (.ref j)=Zc:=rfl
 rw[e4]
 dsimp only
 rw[e3]
structure Nx (rs:List RH)(cs:List Cm)(nx:List Int):Prop where
 len:nx.length=rs.length
 nn:∀x∈nx,0<=x
 far:∀a∈cs,∀r,rs[a.at_]?=Za r->a.come+r.1.gap<=nx.getD a.at_ 0
def RwI (h:IH)(C S:Nat)(rs:List RH)(n:Nat)(σ:ISt)(h':IH):Prop:=∃(cs:List Cm)(nx:List Int)(ba pu:Int)(a6 a7 a8 a9 a10 a11 a12 a13 a14 a15 a16 a17:Option IV),σ=[Za (.ref C),Za (.ref S),Za (.ref h.length),Za (.ref (h.length+1)),Za (.int ba),Za (.int pu),a6,a7,a8,a9,a10,a11,a12,a13,a14,a15,a16,a17]/\h'[h.length]?=Za (.lst (cs.map tupC))/\h'[h.length+1]?=Za (.lst (nx.map .int))/\Kp h h'/\cs.length=n/\Legal rs cs/\Nx rs cs nx
theorem J1m (G:Gd unit rs)(pos:0<rs.length)(hS:h[S]?=Za (.lst ys))(R:RowsH h ys rs){cells:List Int}(hC:h[C]?=Za (.lst (cells.map .int)))(hc:cells.length<=14) :
  WR (Jgo (k+2) [.ref C,.ref S] h) λ v h'=>∃cs,v=.ref h.length/\h'[h.length]?=Za (.lst (cs.map tupC))/\Legal rs cs/\cs.length<=14/\Ex h h':=by
 have hb:=J8
 have rl:=R.len
 have few:=G.few
 rw[Jo3]
 have Y:=@Yb (h++[IX.lst []]) (h++[IX.lst []]) (J6 (Ja 1)) (Jei (k+1)) [] [Za (.ref C),Za (.ref S),Za (.ref h.length),Zc,Zc,Zc,Zc,Zc,Zc,Zc,Zc,Zc,Zc,Zc,Zc,Zc,Zc,Zc] ys (λ h'=>h'[S]?=Za (.lst ys)) (λ _=>.int 0)
  (by rw[QD];exact Je rfl ((Qp _).mpr ⟨_,grow hS,rfl,rfl,rfl⟩)) 00 (λ h2 z=>z _ _ (grow hS)) λ x hx h2 z=>Je rfl ⟨rfl,.refl _⟩
 refine xfin (xseq (xset (Je (lstE rfl rfl) (xseq (xset ?_)))))
 generalize hcc:Js _ _ _ _ _ _ _ _=rc at Y
 obtain⟨g,rfl⟩:=Y
 refine Je hcc ?_
 clear hcc
 have ez:ys.map (λ _=>IV.int 0)=((ZI rs.length 0:List Int)).map IV.int:=by
  rw[List.map_replicate,<-rl]
  exact List.map_const' ..
 rw[ez]
 have l1:(h++[IX.lst []]).length=h.length+1:=03
 have gM:(h++[IX.lst []]++IX.lst ((ZI rs.length 0:List Int).map IV.int)::g)[h.length]?=Za (.lst []):=(Ex.cons _ _ _).get Jp
 have gN:(h++[IX.lst []]++IX.lst ((ZI rs.length 0:List Int).map IV.int)::g)[h.length+1]?=Za (.lst ((ZI rs.length 0:List Int).map IV.int)):=by rw[<- l1];exact J1
 have x0:Ex h (h++[IX.lst []]++IX.lst ((ZI rs.length 0:List Int).map IV.int)::g):=(Ex.one _ _).trans (.cons _ _ _)
 rw[l1]
 generalize h++[IX.lst []]++IX.lst ((ZI rs.length 0:List Int).map IV.int)::g=h0 at gM gN x0 ⊢
 refine xseq (xset (Je rfl (xseq (xset (Je rfl (xseq (xfor ?_)))))))
 rw[QD]
 refine Je rfl ((Qp _).mpr ⟨_,x0.get hC,?_⟩)
 refine QG (RwI h C S rs)
  (λ n σ h' z=>by obtain⟨_,_,_,_,_,_,_,_,_,_,_,_,_,_,_,_,_,_,_,kp,_⟩:=z;exact kp _ _ hC) ?_ ?_ ⟨[],_,0,0,Zc,Zc,Zc,Zc,Zc,Zc,Zc,Zc,Zc,Zc,Zc,Zc,rfl,gM,gN,x0.kp,rfl,.nil,03,(λ x hx=>by rw[(List.mem_replicate.mp hx).2];exact ZG _),λ a ha=>by cases ha⟩
 ·rintro n hn _ h1 ⟨cs,nx,ba,pu,a6,a7,a8,a9,a10,a11,a12,a13,a14,a15,a16,a17,rfl,g1,g2,k1,lc,Lg,N⟩
  rw[Zm] at hn
  rw[ZP]
  refine xnx rfl (xseq (xset (xb (Je (arg2 rfl rfl) (WR.mono (Jl0 (k:=k) (h:=h1) cells[n] 6 01) ?_)))))
  rintro _ h2 ⟨i,xs,rfl,li,hi,lx,hx,x2⟩
  have li:h.length+1<i:=ZJ (J4 g2) li
  clear hx
  have at_:∀n:Nat,n<6->∃x,atI (xs.map IV.int) (n:Int)=Za (.int x):=λ n hn=>at_x 00
  obtain⟨y0,e0⟩:=at_ 0 01
  obtain⟨y1,e1⟩:=at_ 1 01
  obtain⟨y2,e2⟩:=at_ 2 01
  obtain⟨y3,e3⟩:=at_ 3 01
  obtain⟨y4,e4⟩:=at_ 4 01
  obtain⟨y5,e5⟩:=at_ 5 01
  clear at_
  have g1:=x2.get g1
  have g2:=x2.get g2
  have k2:=k1.trans x2.kp
  clear x2 k1
  have r0:=Zan y0 (b:=rs.length) 00
  have r1:=ZY y0 (b:=rs.length) 00
  obtain⟨j,ej,lj⟩:∃j:Nat,y0%(rs.length:Int)=(j:Int)/\j<rs.length:=⟨(y0%(rs.length:Int)).toNat,00,00⟩
  obtain⟨q,ea,gq⟩:=R.get lj
  have f:=G.f _ (Zz lj)
  have f1:=f.g1
  have f2:=f.l1
  have f3:=f.t1
  have u1:=G.u1
  have er:=Zb lj
  have nl:=N.len
  have en:atI (nx.map IV.int) (j:Int)=Za (.int (nx.getD j 0)):=JC (by rw[Zt,Ze,Zb 00];rfl)
  have n0:0<=nx.getD j 0:=by
   rw[Ze,Zb (show j<nx.length by omega)]
   exact N.nn _ (Zz _)
  have ok0:∀(c l e:Int),0<=c->0<=l->l<=(rs[j]).1.late->1<=e->e<=(rs[j]).1.len->COk rs ⟨j,c,l,e⟩:=λ c l e a b d e f=>⟨lj,a,b,d,e,f⟩
  have fr:∀a∈cs,a.at_=j->a.come+(rs[j]).1.gap<=nx.getD j 0:=λ a ha e=>by
   have:=N.far a ha _ (by rw[e];exact er)
   rwa [e] at this
  generalize hr:rs[j]=r at ea gq f f1 f2 f3 er ok0 fr
  refine xseq (xset (Je (okc (modE (ixlE rfl rfl hi e0) ((lenE rfl (k2 _ _ hS)).trans (by rw[rl])) 00) (congrArg IV.int ej)) (xseq ((QF ..).mpr (Je (ixlE rfl rfl (k2 _ _ hS) ea) (xnx rfl ?_))))))
  obtain⟨d,_,ed⟩:=pk (n:=4) (y:=y2) [0,pu,y1%3,y1%(r.1.gap+1)] rfl 01
  refine xseq (xset (Je (addE rfl (pkE (arg4 rfl rfl (modE (ixlE rfl rfl hi e1) rfl 01) (modE (ixlE rfl rfl hi e1) (addE rfl rfl) 00)) rfl (modE (ixlE rfl rfl (grow hi) e2) rfl 01) ed)) ?_))
  generalize IX.lst _=o1
  generalize ba+d=tu
  have hi1:(h2++[o1])[i]?=_:=grow hi
  have g21:(h2++[o1])[h.length+1]?=_:=grow g2
  have mx:∀{a b:Int},a<=(if b>a then b else a):=λ {a b}=>by split<;>omega
  refine xseq (xset (Je (maxE (ixlE rfl rfl g21 en) (subE rfl (mulE (modE (JI (ixlE rfl rfl hi1 e2) rfl 01 01) rfl 01) rfl (.inl 00)))) ?_))
  have c1:=mx (a:=nx.getD j 0) (b:=tu-y2/4%2*r.1.late)
  generalize (if tu-_>nx.getD j 0 then _ else _)=come at c1 ⊢
  obtain⟨be,hbe,ebe⟩:=pk (n:=4) (y:=y4) [0,r.1.late,if (if tu-come<r.1.late then tu-come else r.1.late)>0 then(if tu-come<r.1.late then tu-come else r.1.late) else 0,y3%(r.1.late+1)] rfl 01
  have q1:=Zan y3 (b:=r.1.late+1) 00
  have q2:=ZY y3 (b:=r.1.late+1) 00
  have hbe:0<=be/\be<=r.1.late:=by
   simp only[Z6,Zal,or_false] at hbe
   rcases hbe with e|e|e|e
   ·omega
   ·omega
   ·rw[e]
    split
    ·split<;>omega
    ·omega
   ·omega
  refine xseq (xset (Je (pkE (arg4 rfl rfl (maxE rfl (minE rfl (subE rfl rfl))) (modE (ixlE rfl rfl hi1 e3) (addE rfl rfl) 00)) rfl (modE (ixlE rfl rfl (grow hi1) e4) rfl 01) ebe) ?_))
  generalize IX.lst _=o2
  have hi2:(h2++[o1]++[o2])[i]?=_:=grow hi1
  obtain⟨le,hle,ele⟩:=pk (n:=3) (y:=y4/4) [r.1.len,r.1.len,1+y5%r.1.len] rfl 01
  have q3:=Zan y5 (b:=r.1.len) 00
  have q4:=ZY y5 (b:=r.1.len) 00
  have hle:1<=le/\le<=r.1.len:=by
   simp only[Z6,Zal,or_false] at hle
   omega
  refine xseq (xset (Je (pkE (arg3 rfl rfl (addE rfl (modE (ixlE rfl rfl hi2 e5) rfl 00))) rfl (modE (JI (ixlE rfl rfl (grow hi2) e4) rfl 01 01) rfl 01) ele) ?_))
  generalize IX.lst _=o3
  have x3:Ex h2 (h2++[o1]++[o2]++[o3]):=((Ex.one _ _).trans (.one _ _)).trans (.one _ _)
  have hi3:=x3.get hi
  have g13:=x3.get g1
  have g23:=x3.get g2
  have k3:=k2.trans x3.kp
  generalize h2++[o1]++[o2]++[o3]=h3 at x3 hi3 g13 g23 k3 ⊢
  refine xseq (Qr (Q3 rfl g13 Vm (Je (arg1 (tupE (arg4 rfl rfl rfl rfl) rfl)) (xapp g13 (by rw[Zm];omega) ?_))))
  have g14:(h3.set h.length (.lst (cs.map tupC++[tupC ⟨j,come,be,le⟩])))[h.length]?=Za (.lst ((cs++[(⟨j,come,be,le⟩:Cm)]).map tupC)):=by rw[Qb g13,Zbt];rfl
  have g24:(h3.set h.length (.lst (cs.map tupC++[tupC ⟨j,come,be,le⟩])))[h.length+1]?=Za (.lst (nx.map .int)):=Jw g23 00
  have hi4:(h3.set h.length (.lst (cs.map tupC++[tupC ⟨j,come,be,le⟩])))[i]?=Za (.lst (xs.map .int)):=Jw hi3 00
  have k4:Kp h (h3.set h.length (.lst (cs.map tupC++[tupC ⟨j,come,be,le⟩]))):=λ a o e=>Jw (k3 _ _ e) (by have:=J4 e;omega)
  generalize h3.set h.length (.lst (cs.map tupC++[tupC ⟨j,come,be,le⟩]))=h4 at g14 g24 hi4 k4 ⊢
  have ok:=ok0 come be le 00 hbe.1 hbe.2 hle.1 hle.2
  have Lg':Legal rs (cs++[⟨j,come,be,le⟩]):=Lg.snoc ok λ a ha e=>by
   have:=fr a ha e
   show a.come+(rs[j]).1.gap<=come
   rw[hr]
   omega
  have N':Nx rs (cs++[⟨j,come,be,le⟩]) (nx.set j (come+r.1.gap)):=by
   refine⟨by rw[Zbf];exact nl,λ x hx=>?_,λ a ha r' er'=>?_⟩
   ·rcases List.mem_or_eq_of_mem_set hx with z|z
    ·exact N.nn x z
    ·omega
   ·rw[Ze]
    by_cases z:j=a.at_
    ·rw[z,ZW 00]
     rw[<- z,er] at er'
     cases er'
     rcases ZV.mp ha with m|m
     ·have:=fr a m z.symm
      show _<=come+_
      omega
     ·rw[Zv.mp m]
      exact ZG _
    ·rw[Zaa z,<-Ze]
     rcases ZV.mp ha with m|m
     ·exact N.far a m r' er'
     ·rw[Zv.mp m] at z
      exact absurd rfl z
  have ix:ixN (nx.map IV.int).length (j:Int)=Za j:=by
   unfold ixN
   rw[Zm]
   simp
   omega
  refine xseq ((QF ..).mpr (Je (addE rfl rfl) ((J2e ..).mpr (Je rfl (Je rfl ((Jzf ..).mpr ⟨_,g24,j,ix,?_⟩))))))
  have g25:(h4.set (h.length+1) (.lst ((nx.map IV.int).set j (.int (come+r.1.gap)))))[h.length+1]?=Za (.lst ((nx.set j (come+r.1.gap)).map .int)):=by rw[Qb g24,List.map_set]
  have g15:=Jw (o':=.lst ((nx.map IV.int).set j (.int (come+r.1.gap)))) g14 (show h.length+1≠h.length by omega)
  have k5:Kp h (h4.set (h.length+1) (.lst ((nx.map IV.int).set j (.int (come+r.1.gap))))):=λ a o e=>Jw (k4 _ _ e) (by have:=J4 e;omega)
  have hi5:=Jw (o':=.lst ((nx.map IV.int).set j (.int (come+r.1.gap)))) hi4 (show h.length+1≠i by omega)
  generalize h4.set (h.length+1) (.lst ((nx.map IV.int).set j (.int (come+r.1.gap))))=h5 at g25 g15 k5 hi5 ⊢
  have x6:Ex h5 (h5++[IX.lst []]):=.one _ _
  have gq5:=k5 _ _ gq
  refine xseq (xset (Je (maxE rfl (addE rfl (mulE (modE (JI (ixlE rfl rfl hi5 e5) rfl 01 01) rfl 01) rfl (.inl 00)))) (xseq (xset (Je rfl (xif (Je (tofE ((binE rfl (lstE rfl rfl)).trans (Jz8 (x6.get gq5) (λ a ha=>(f.ok.each a ha).1) Jp))) ⟨λ e=>?_,λ _=>xnil ⟨_,_,_,_,_,_,_,_,_,_,_,_,_,_,_,_,rfl,x6.get g15,x6.get g25,k5.trans x6.kp,by rw[Z0,lc];rfl,Lg',N'⟩⟩)))))))
  obtain⟨a,l,eh⟩:∃a l,r.2=a::l:=by
   cases z:r.2 with
   | nil=>rw[z] at e;cases e
   | cons a l=>exact⟨a,l,rfl⟩
  have gq6:=x6.get gq5
  rw[eh] at gq6
  exact xset (Je (addE (ixtE (ixlE rfl rfl gq6 JS) rfl JY) rfl) ⟨_,_,_,_,_,_,_,_,_,_,_,_,_,_,_,_,rfl,x6.get g15,x6.get g25,k5.trans x6.kp,by rw[Z0,lc];rfl,Lg',N'⟩)
 ·rintro _ h1 ⟨cs,nx,ba,pu,a6,a7,a8,a9,a10,a11,a12,a13,a14,a15,a16,a17,rfl,g1,g2,k1,lc,Lg,N⟩
  rw[Zm] at lc
  exact xret (Je rfl ⟨cs,rfl,g1,Lg,00,Yj k1⟩)
end
end
section
seal L4.run L4.WS L4.WR
structure Dx (rs:List RH)(cs:List Cm)(kvs:List (Key×IV)):Prop where
 no:∀n:Nat,valI kvs (.inl (n:Int))=Zc->∀c∈cs,c.at_≠n
 yes:∀(n:Nat) v,valI kvs (.inl (n:Int))=Za v->∃x,v=.int x/\0<=x/\∀c∈cs,c.at_=n->∀r,rs[n]?=Za r->c.come+r.1.gap<=x
theorem Jns (kvs:List (Key×IV))(k:Key)(v:IV):(putD kvs k v).length<=kvs.length+1:=by
 unfold putD
 split<;>simp
def MeI (h:IH)(C S d:Nat)(T:Int)(rs:List RH)(n:Nat)(σ:ISt)(h':IH):Prop:=∃(cs:List Cm)(kvs:List (Key×IV))(a5 a6 a7 a8 a9 a10 a11 a12 a13:Option IV),σ=[Za (.ref C),Za (.ref S),Za (.ref h.length),Za (.int (3*T)),Za (.ref d),a5,a6,a7,a8,a9,a10,a11,a12,a13]/\h'[h.length]?=Za (.lst (cs.map tupC))/\h'[d]?=Za (.dct kvs)/\kvs.length<=n/\Kp h h'/\cs.length=n/\Legal rs cs/\Dx rs cs kvs
theorem Jv8 {l c:Int}(h:0<=l):0<=(if (if c>0 then c else 0)<l then(if c>0 then c else 0) else l)/\(if (if c>0 then c else 0)<l then(if c>0 then c else 0) else l)<=l:=by
 split
 ·split<;>omega
 ·omega
section
variable {k:Nat}{h:IH}{S C:Nat}{ys:List IV}{rs:List RH}{unit:Int}
theorem inDE (ea:a σ h=.ok (.int x) h1)(eb:b σ h1=.ok (.ref i) h2)(hi:h2[i]?=Za (.dct kvs)):Jh asB (Jb cInD a b) σ h=.ok (valI kvs (.inl x)).isSome h2:=tofE ((binE ea eb).trans (Ju ((Jwt hi).mpr ⟨rfl,rfl⟩)))
theorem Jr1 (ea:a σ h=.ok (.int x) h1)(eb:b σ h1=.ok (.ref i) h2)(hi:h2[i]?=Za (.dct kvs)):Jh asB (Jb Xp a b) σ h=.ok (!(valI kvs (.inl x)).isSome) h2:=tofE ((binE ea eb).trans (by unfold Xp;simp only[hi,keyI]))
theorem Jx2 (hi:h[i]?=Za (.lst ((rs.map λ r=>r.1.gap).map .int)))(ne:0<rs.length):∃T:Int,(∀r∈rs,r.1.gap<=T)/\X2 (.ref i) h=.ok (.int T) h:=by
 refine⟨JX (λ i=>(rs.map λ r=>r.1.gap).getD i 0) rs.length,λ r hr=>?_,?_⟩
 ·obtain⟨n,hn,rfl⟩:=ZA.mp hr
  have:=Jwl (λ i=>(rs.map λ r=>r.1.gap).getD i 0) rs.length n hn
  rwa [show(rs.map λ r=>r.1.gap).getD n 0=(rs[n]).1.gap by simp[Ze,hn]] at this
 ·unfold X2
  dsimp only
  rw[hi]
  dsimp only
  rw[V0]
  dsimp only
  rw[if_neg (by intro z;rw[List.map_eq_nil_iff] at z;rw[z] at ne;cases ne),Zm]
theorem Jx4 (G:Gd unit rs)(pos:0<rs.length)(hS:h[S]?=Za (.lst ys))(R:RowsH h ys rs){cells:List Int}(hC:h[C]?=Za (.lst (cells.map .int)))(hc:cells.length<=14) :
  WR (Jbv (k+1) [.ref C,.ref S] h) λ v h'=>∃cs,v=.ref h.length/\h'[h.length]?=Za (.lst (cs.map tupC))/\Legal rs cs/\cs.length<=14/\Ex h h':=by
 have hb:=J8
 have rl:=R.len
 have few:=G.few
 have t60:(100:Int)<=10^60:=by decide +kernel
 rw[Jh4]
 refine xfin (xseq (xset (Je (lstE rfl rfl) (xseq (xset ?_)))))
 have Y:=@Yb (h++[IX.lst []]) (h++[IX.lst []]) (J6 (Ja 1)) (Jbm k) [] [Za (.ref C),Za (.ref S),Za (.ref h.length),Zc,Zc,Zc,Zc,Zc,Zc,Zc,Zc,Zc,Zc,Zc] ys (λ h'=>h'[S]?=Za (.lst ys)) (λ v=>match v with|.tup (g::_)=>g|_=>.non)
  (by rw[QD];exact Je rfl ((Qp _).mpr ⟨_,grow hS,rfl,rfl,rfl⟩)) 00 (λ h2 z=>z _ _ (grow hS)) (by
   intro x hx h2 z
   obtain⟨n,hn,rfl⟩:=ZA.mp hx
   obtain⟨q,e,_⟩:=R.at_ n _ _ (Zb hn) (Zb (show n<rs.length by omega))
   rw[e]
   exact Je (ixtE rfl rfl JS) ⟨rfl,.refl _⟩)
 generalize hcc:Js _ _ _ _ _ _ _ _=rc at Y
 obtain⟨g,rfl⟩:=Y
 have em:(ys.map λ v=>match v with|.tup (g::_)=>g|_=>.non)=(rs.map λ r=>r.1.gap).map .int:=by
  refine Zce (by simp[rl]) λ n p1 p2=>?_
  rw[Zm] at p1
  obtain⟨q,e,_⟩:=R.at_ n _ _ (Zb p1) (Zb (show n<rs.length by omega))
  rw[ZP,e,ZP,ZP]
 rw[em] at hcc
 obtain⟨T,hT,eT⟩:=Jx2 (h:=h++[IX.lst []]++IX.lst ((rs.map λ r=>r.1.gap).map .int)::g) (i:=(h++[IX.lst []]).length) J1 pos
 refine Je (mulE rfl ((cbE (arg1 hcc)).trans eT) (.inl 01)) ?_
 clear hcc eT
 have gM:(h++[IX.lst []]++IX.lst ((rs.map λ r=>r.1.gap).map .int)::g)[h.length]?=Za (.lst []):=(Ex.cons _ _ _).get Jp
 have x0:Ex h (h++[IX.lst []]++IX.lst ((rs.map λ r=>r.1.gap).map .int)::g):=(Ex.one _ _).trans (.cons _ _ _)
 generalize h++[IX.lst []]++IX.lst ((rs.map λ r=>r.1.gap).map .int)::g=h0 at gM x0 ⊢
 have lM:=J4 gM
 refine xseq (xset (Je rfl (xseq (xrng (n:=cells.length) ((lenE rfl ((Ex.one h0 (IX.dct [])).get (x0.get hC))).trans (by rw[Zm])) 00 ?_))))
 refine QG (MeI h C S h0.length T rs)
  (λ _ _ _ _=>trivial) ?_ ?_ ⟨[],[],Zc,Zc,Zc,Zc,Zc,Zc,Zc,Zc,Zc,rfl,grow gM,Jp,Zp _,(x0.trans (.one _ _)).kp,rfl,.nil,(λ n _ c hc=>by cases hc),λ n v e=>by cases e⟩
 ·rintro n hn _ h1 ⟨cs,kvs,a5,a6,a7,a8,a9,a10,a11,a12,a13,rfl,g1,g2,lk,k1,lc,Lg,X⟩
  rw[JA] at hn
  rw[Qk,show(0:Int)+(n:Int)=n by omega]
  have hn':n<cells.length:=00
  have e0:atI (cells.map IV.int) 0=Za (.int cells[0]):=JC (n:=0) (by rw[Zt,Zb 00];rfl)
  have en:atI (cells.map IV.int) (n:Int)=Za (.int cells[n]):=JC (by rw[Zt,Zb hn'];rfl)
  generalize cells[0]=y0 at e0
  generalize cells[n]=yn at en
  have C1:=k1 _ _ hC
  have r0:=Zan ((n:Int)+y0%5) (b:=rs.length) 00
  have r1:=ZY ((n:Int)+y0%5) (b:=rs.length) 00
  obtain⟨j,ej,lj⟩:∃j:Nat,((n:Int)+y0%5)%(rs.length:Int)=(j:Int)/\j<rs.length:=⟨(((n:Int)+y0%5)%(rs.length:Int)).toNat,00,00⟩
  obtain⟨q,ea,gq⟩:=R.get lj
  have f:=G.f _ (Zz lj)
  have f1:=f.g1
  have f2:=f.l1
  have f3:=f.t1
  have f4:=f.t2
  have f5:=f.l2
  have u1:=G.u1
  have tj:=hT _ (Zz lj)
  have er:=Zb lj
  have ok0:∀(c l:Int),0<=c->0<=l->l<=(rs[j]).1.late->COk rs ⟨j,c,l,(rs[j]).1.len⟩:=λ c l a b d=>⟨lj,a,b,d,f2,ZG _⟩
  generalize hr:rs[j]=r at ea gq f f1 f2 f3 f4 f5 tj er ok0
  have ln1:∀{σ:ISt},Ja 1 σ h1=.ok (.ref S) h1->eCB (on1 lenI) (Jc (Ja 1) Jd) σ h1=.ok (.int (rs.length:Int)) h1:=λ e=>(lenE e (k1 _ _ hS)).trans (by rw[rl])
  refine xnx rfl (xseq (xset (Je (okc (modE (addE rfl (modE (ixlE rfl rfl C1 e0) rfl 01)) (ln1 rfl) 00) (congrArg IV.int ej)) (xseq ((QF ..).mpr (Je (ixlE rfl rfl (k1 _ _ hS) ea) (xnx rfl (xseq (xset (Je (subE rfl rfl) (xseq ?_)))))))))))
  have fin:∀(come be:Int)(h2:IH){a b c e:Option IV}{Rt:IV->IH->Prop},Ex h1 h2->0<=come->0<=be->be<=r.1.late->(∀a∈cs,a.at_=j->a.come+r.1.gap<=come) ->
    WS (Jf (JG (Jn (pg k) "append" 1 (Ja 2) (Jc (eTup (Jc (Ja 6) (Jc (Ja 12) (Jc (Ja 13) (Jc (Ja 8) Jd))))) Jd))) (sAsg (Jb Jj (Ja 12) (Ja 7)) (gSbD (Ja 4) (Ja 6))) [Za (.ref C),Za (.ref S),Za (.ref h.length),Za (.int (3*T)),Za (.ref h0.length),a,Za (.int (j:Int)),Za (.int r.1.gap),Za (.int r.1.len),b,c,e,Za (.int come),Za (.int be)] h2) (MeI h C S h0.length T rs (n+1)) Rt:=by
   intro come be h2 a b c e Rt x2 c0 b0 b1 fr
   have g12:=x2.get g1
   refine xseq (Qr (Q3 rfl g12 Vm (Je (arg1 (tupE (arg4 rfl rfl rfl rfl) rfl)) (xapp g12 (by rw[Zm];omega) ?_))))
   have g13:(h2.set h.length (.lst (cs.map tupC++[tupC ⟨j,come,be,r.1.len⟩])))[h.length]?=Za (.lst ((cs++[(⟨j,come,be,r.1.len⟩:Cm)]).map tupC)):=by rw[Qb g12,Zbt];rfl
   have g23:(h2.set h.length (.lst (cs.map tupC++[tupC ⟨j,come,be,r.1.len⟩])))[h0.length]?=Za (.dct kvs):=Jw (x2.get g2) 00
   have k3:Kp h (h2.set h.length (.lst (cs.map tupC++[tupC ⟨j,come,be,r.1.len⟩]))):=λ a o e=>Jw (x2.get (k1 _ _ e)) (by have:=J4 e;omega)
   generalize h2.set h.length (.lst (cs.map tupC++[tupC ⟨j,come,be,r.1.len⟩]))=h3 at g13 g23 k3 ⊢
   refine(QF ..).mpr (Je (addE rfl rfl) ((Jm3 ..).mpr (Je rfl (Je rfl ?_))))
   rw[Jj9 g23 00]
   refine⟨_,_,_,_,_,_,_,_,_,_,_,rfl,Jw g13 00,Qb g23,Zak (Jns ..) 00,λ a o e=>Jw (k3 _ _ e) (by have:=J4 e;have:=x0.len;omega),by rw[Z0,lc];rfl,Lg.snoc (ok0 come be c0 b0 b1) λ a ha e=>?_,λ m e a ha=>?_,λ m v e=>?_⟩
   ·show a.come+(rs[j]).1.gap<=come
    rw[hr]
    exact fr a ha e
   ·rw[Jgf] at e
    by_cases z:ZbZ (j:Int)=(ZbZ (m:Int):Key)
    ·rw[if_pos z] at e
     cases e
    ·rw[if_neg z] at e
     rcases ZV.mp ha with w|w
     ·exact X.no m e a w
     ·rw[Zv.mp w]
      exact λ y=>z (by show ZbZ (j:Int)=_;rw[show j=m from y])
   ·rw[Jgf] at e
    by_cases z:ZbZ (j:Int)=(ZbZ (m:Int):Key)
    ·rw[if_pos z] at e
     cases e
     have:j=m:=by cases z;rfl
     subst this
     refine⟨_,rfl,00,λ a ha ea r' er'=>?_⟩
     rw[er] at er'
     cases er'
     rcases ZV.mp ha with w|w
     ·have:=fr a w ea
      omega
     ·rw[Zv.mp w]
      exact ZG _
    ·rw[if_neg z] at e
     obtain⟨x,rfl,p1,p2⟩:=X.yes m v e
     refine⟨x,rfl,p1,λ a ha ea r' er'=>?_⟩
     rcases ZV.mp ha with w|w
     ·exact p2 a w ea r' er'
     ·rw[Zv.mp w] at ea
      exact absurd (show ZbZ (j:Int)=(ZbZ (m:Int):Key) by rw[show j=m from ea]) z
  have x2:Ex h1 (h1++[IX.lst []]):=.one _ _
  have gq1:=k1 _ _ gq
  cases ev:valI kvs (.inl (j:Int)) with
  | some v =>
   obtain⟨x,rfl,p1,p2⟩:=X.yes j v ev
   have is:(valI kvs (.inl (j:Int))).isSome=Zi:=by rw[ev];rfl
   obtain⟨m1,m2⟩:=Jv8 (c:=3*T-(x+yn/5%4/3)) f3
   refine xift (okc (inDE rfl rfl g2) is) (xset (Je (addE ((binE rfl rfl).trans (Ju ((Jsz g2 ev).mpr ⟨rfl,rfl⟩))) (JI (modE (JI (ixlE rfl rfl C1 en) rfl 01 01) rfl 01) rfl 01 01)) (xseq (xset (Je (minE rfl (maxE rfl (subE rfl rfl))) (xseq (xiff (andF (okc (Jr1 rfl rfl g2) (by rw[is];rfl))) (xnil (fin _ _ h1 (.refl _) 00 m1 m2 λ a ha e=>?_)))))))))
   have:=p2 a ha e r er
   omega
  | none =>
   have is:(valI kvs (.inl (j:Int))).isSome=Zk:=by rw[ev];rfl
   have no:=X.no j ev
   obtain⟨m1,m2⟩:=Jv8 (c:=3*T-(3*T-r.1.late)) f3
   have skip:=λ {h2:IH}{a b c e:Option IV}{Rt:IV->IH->Prop}(x:Ex h1 h2)=>fin (3*T-r.1.late) _ h2 (a:=a) (b:=b) (c:=c) (e:=e) (Rt:=Rt) x 00 m1 m2 λ a ha e=>absurd e (no a ha)
   refine xiff (okc (inDE rfl rfl g2) is) (xnil (xseq (xset (Je (minE rfl (maxE rfl (subE rfl rfl))) (xseq (xif (Xk (Je (Jr1 rfl rfl g2) ⟨λ _=>Xk (Je (tofE ((binE rfl (lstE rfl rfl)).trans (Jz8 (x2.get gq1) (λ a ha=>(f.ok.each a ha).1) Jp))) ⟨λ e=>?_,λ _=>⟨(λ z=>by cases z),λ _=>xnil (skip x2)⟩⟩),λ _=>⟨(λ z=>by cases z),λ _=>xnil (skip (.refl _))⟩⟩))))))))
   have hl:0<r.2.length:=by
    cases z:r.2 with
    | nil=>rw[z] at e;cases e
    | cons a l=>simp
   refine Je (eqE (modE (JI (ixlE rfl rfl (x2.get C1) e0) rfl 01 01) ((lenE rfl (x2.get (k1 _ _ hS))).trans (by rw[rl])) 00) rfl) (xdec (λ _=>?_) λ _=>xnil (skip x2))
   have s0:=Zan (y0/25) (b:=r.2.length) 00
   have s1:=ZY (y0/25) (b:=r.2.length) 00
   obtain⟨i,ei,li⟩:∃i:Nat,y0/25%(r.2.length:Int)=(i:Int)/\i<r.2.length:=⟨(y0/25%(r.2.length:Int)).toNat,00,00⟩
   have eh:atI (r.2.map tupH) (i:Int)=Za (tupH r.2[i]):=JC (by rw[Zt,Zb li];rfl)
   obtain⟨_,h3,h4,h5⟩:=f.ok.each _ (Zz li)
   generalize r.2[i]=b at eh h3 h4 h5
   refine xseq (xset (Je (subE (subE rfl (ixtE (ixlE rfl (okc (modE (JI (ixlE rfl rfl (x2.get C1) e0) rfl 01 01) ((lenE rfl (x2.get gq1)).trans (by rw[Zm])) 00) (congrArg IV.int ei)) (x2.get gq1) eh) rfl JY)) rfl) (xset (Je rfl (fin _ _ _ x2 00 (ZG _) f3 λ a ha e=>absurd e (no a ha))))))
 ·rintro _ h1 ⟨cs,kvs,a5,a6,a7,a8,a9,a10,a11,a12,a13,rfl,g1,g2,lk,k1,lc,Lg,X⟩
  rw[JA] at lc
  exact xret (Je rfl ⟨cs,rfl,g1,Lg,00,Yj k1⟩)
end
end
section
seal L4.run L4.WS
def endP (p:Nat):List St3->Option Int
 | []=>Zc
 | a::l=>match endP p l with
  | some e=>Za e
  | none=>if a.1=p then Za a.2.2 else Zc
theorem Jkq:∀{l:List St3},endP p (l++[a])=if a.1=p then Za a.2.2 else endP p l
 | []=>by simp[endP]
 | b::l=>by
  rw[ZS,endP,Jkq,endP]
  by_cases e:a.1=p
  ·rw[if_pos e,if_pos e]
  ·rw[if_neg e,if_neg e]
theorem Jqx {l:List St3}{n p:Nat}(e:l[n]?=Za a):endP p (l.take (n+1))=if a.1=p then Za a.2.2 else endP p (l.take n):=by
 have hn:=(Zq.mp e).1
 rw[Zat hn,Jkq,(Zq.mp e).2]
theorem Jnm:∀{l:List St3},endP p l=Za u->∃x∈l,x.1=p/\x.2.2=u
 | [],e=>by cases e
 | a::l,e=>by
  rw[endP] at e
  cases q:endP p l with
  | some z =>
   rw[q] at e
   obtain⟨x,hx,h⟩:=Jnm (q.trans e)
   exact⟨x,Zl _ hx,h⟩
  | none =>
   rw[q] at e
   by_cases ea:a.1=p
   ·simp only[if_pos ea] at e
    exact⟨a,Zx,ea,ZQ e⟩
   ·simp only[if_neg ea] at e
    cases e
theorem Jkr:∀{l:List St3},(∃x∈l,x.1=p)->(endP p l).isSome=Zi
 | [],⟨_,h,_⟩=>by cases h
 | a::l,⟨x,hx,e⟩=>by
  rw[endP]
  cases q:endP p l with
  | some z=>rfl
  | none =>
   rcases Z6.mp hx with rfl|hx
   ·simp only[if_pos e]
    rfl
   ·have:=Jkr ⟨x,hx,e⟩
    rw[q] at this
    cases this
def Qy (rs:List RH)(cs:List Cm):List Int:=(ZT cs.length).map λ p=>(endP p (finM rs cs).sr.reverse).getD 0
theorem Jwc (L:Legal rs cs)(six:∀r∈rs,r.2.length<=6):(∀p,p<cs.length->(endP p (finM rs cs).sr.reverse).isSome=Zi)/\(finM rs cs).sr.reverse.length<=8*cs.length:=by
 refine⟨λ p lp=>Jkr ?_,by rw[Zcj];exact Jxg⟩
 obtain⟨x,hx,e⟩:=Jz1 L six p lp
 exact⟨x,List.mem_reverse.mpr hx,e⟩
def endF (ss:List St3)(v:IV):IV:=match v with
 | .int x=>.int ((endP x.toNat ss).getD 0)
 | _=>.non
theorem Jtl (ss:List St3)(n:Nat):(rngI 0 (n:Int)).map (endF ss)=((ZT n).map λ p=>(endP p ss).getD 0).map .int:=by
 rw[Zbm]
 refine Zce (by rw[Zm,JA,Zm,ZbT];omega) λ i h1 h2=>?_
 rw[ZP,Qk,ZP,List.getElem_range]
 simp[endF]
section
variable {k:Nat}{h:IH}{rs:List RH}{cs:List Cm}{O R:Nat}
theorem dueE {c:Cm}(hd:IsDu h D rs)(ha:c.at_<rs.length):Jf1 (k+2) [.ref D,tupC c] h=.ok (.int (c.come+(rs[c.at_]).1.due)) h:=by
 obtain⟨vs,gD,w⟩:=hd
 obtain⟨j,ej,gj⟩:=w.get (Zb ha)
 have av:atI vs (c.at_:Int)=Za (.ref j):=JC ej
 generalize rs[c.at_]=r at gj
 refine Ju ?_
 rw[Jq5]
 exact xfin (xret (Je (addE (ixtE rfl rfl JY) (fldE (wkE gD rfl (ixtE rfl rfl JS) av) gj fl3)) ⟨rfl,rfl⟩))
theorem Jzv {c:Cm}(hd:IsDu h D rs)(ha:c.at_<rs.length):Jf1 (k+2) [.ref D,tupC c] h=.ok (.int (duC rs c)) h:=by
 unfold duC
 rw[VX ha]
 exact dueE hd ha
theorem Jqz (g:Bg h rs cs O R)(t0:h[1]?=Za (.tab "Bench.__init__"))(L:Legal rs cs)(n64:cs.length<64) :
  WR (Jm4 (k+8) [.ref O,.ref R] h) λ v h'=>∃j,v=.ref j/\h.length<=j/\h'[j]?=Za (.lst ((Qy rs cs).map .int))/\Ex h h':=by
 have hb:=J8
 obtain⟨sp,ls⟩:=Jwc L g.l6
 rw[Jxj]
 refine xfin (xseq (xset (Je rfl (xseq (xfor ?_)))))
 rw[QD]
 have x1:Ex h (h++[IX.dct []]):=.one _ _
 have g1:(h++[IX.dct []])[h.length]?=Za (.dct []):=Jp
 have l1:(h++[IX.dct []]).length=h.length+1:=03
 generalize h++[IX.dct []]=hA at x1 g1 l1
 refine xb (Je (arg2 rfl rfl) (WR.mono (J1o (k:=k) ⟨g.o.kp x1.kp,x1.get g.r,g.c,g.l6,x1.get g.p1,g.n⟩ (x1.get t0) L n64) ?_))
 rintro _ h2 ⟨F,rfl,lF,gF,x2⟩
 unfold Qy
 generalize (finM rs cs).sr.reverse=ss at sp ls gF ⊢
 refine(Qp _).mpr ⟨_,gF,?_⟩
 have gR2:=x2.get (x1.get g.r)
 have lR:=J4 g.r
 refine QG (λ n σ h'=>∃a kvs,σ=[Za (.ref O),Za (.ref R),Za (.ref h.length),a]/\h'[h.length]?=Za (.dct kvs)/\kvs.length<=n/\KpB h.length h2 h'/\∀p:Nat,valI kvs (.inl (p:Int))=(endP p (ss.take n)).map .int) (λ n σ h' ⟨_,_,_,_,_,kb,_⟩=>kb _ _ 00 gF) ?_ ?_ ⟨_,[],rfl,x2.get g1,Zp _,λ _ _ _ e=>e,λ p=>rfl⟩
 ·rintro n hn _ h3 ⟨a,kvs,rfl,gd,ld,kb,ev⟩
  have hn:n<ss.length:=by simpa using hn
  have en:ss[n]?=Za ss[n]:=Zb hn
  have st:∀p,endP p (ss.take (n+1))=_:=λ p=>Jqx en
  rw[ZP]
  generalize ss[n]=b at en st
  refine xnx rfl ((QF ..).mpr (Je (ixtE rfl rfl QL) ?_))
  rw[Jm3]
  refine Je rfl (Je (ixtE rfl rfl JS) ?_)
  rw[Jj9 gd 00]
  refine⟨_,_,rfl,Qb gd,Zak (Jns ..) 00,λ j o nj e=>Jw (kb j o nj e) (ZR nj),λ p=>?_⟩
  rw[Jgf,st,ev]
  by_cases e:b.1=p
  ·rw[if_pos e,if_pos (by rw[e])];rfl
  ·rw[if_neg e,if_neg λ z=>e (by cases z;rfl)]
 ·rintro _ h4 ⟨a,kvs,rfl,gd,ld,kb,ev⟩
  rw[Zm,List.take_length] at ev
  have gR4:=kb _ _ (show R≠h.length by omega) gR2
  have x4:Ex h h4:=Yj λ j o e=>kb j o (by have:=J4 e;omega) (x2.get (x1.get e))
  refine xret (WR.mono (QC (h:=h4) (xs:=rngI 0 (cs.length:Int)) (chk:=λ _=>True) (f:=endF ss) ?_ (by rw[JA];omega) (λ _ _=>trivial) ?_) ?_)
  ·rw[QE]
   refine Je (arg1 (lenE rfl gR4)) ?_
   rw[V8,Zm]
   exact⟨00,rfl,rfl,rfl⟩
  ·intro x hx h5 q
   obtain⟨n,hn,rfl⟩:=ZA.mp hx
   rw[Qk,show(0+(n:Int))=(n:Int) by omega]
   rw[JA] at hn
   have sn:=sp n 00
   cases eq:endP n ss with
   | none=>rw[eq] at sn;cases sn
   | some e =>
    have ev:=ev n
    rw[eq] at ev
    unfold Jik
    refine Je ((binE rfl rfl).trans (Ju (by rw[Jsz (q _ _ gd) ev];exact⟨rfl,rfl⟩))) ⟨?_,.refl _⟩
    show _=IV.int ((endP (Zcz n) ss).getD 0)
    rw[show Zcz (n:Int)=n by omega,eq]
    rfl
  ·rintro _ _ ⟨rfl,gg,rfl⟩
   exact⟨_,rfl,x4.len,by rw[J1,Jtl],x4.trans (.cons _ _ _)⟩
def Juf (rs:List RH)(cs:List Cm):List Int:=((ZT cs.length).filter λ p=>decide (duC rs (cs.getD p cd)<(Qy rs cs).getD p 0)).map λ (n:Nat)=>(n:Int)
def cmE (cs:List Cm)(n:Nat):IV:=.tup [.int (n:Int),tupC (cs.getD n cd)]
theorem Jf7 (cs:List Cm):Qi 0 (cs.map tupC)=(ZT cs.length).map (cmE cs):=by
 refine Zbq λ i=>?_
 rw[Jex,Zt,Zt]
 by_cases li:i<cs.length
 ·rw[Zb li,Zch li]
  simp[cmE,li]
 ·rw[Zaw 00,Zaw (by simpa using li)]
  rfl
noncomputable def stE (v:IV):ISt:=match v with
 | .tup [i,c]=>[Za i,Za c]
 | _=>[]
def fsE (v:IV):IV:=match v with
 | .tup [i,_]=>i
 | _=>.non
def J29 (rs:List RH)(cs:List Cm)(v:IV):Bool:=match v with
 | .tup [.int i,_]=>decide (duC rs (cs.getD i.toNat cd)<(Qy rs cs).getD i.toNat 0)
 | _=>Zk
theorem Jqy (hn:n<cs.length):atI ((Qy rs cs).map IV.int) (n:Int)=Za (.int ((Qy rs cs).getD n 0)):=by
 have l:n<(Qy rs cs).length:=by simpa [Qy] using hn
 exact JC (by rw[Zt,Zb l,Ze,Zb l];rfl)
theorem Jrw (g:Bg h rs cs O R)(t0:h[1]?=Za (.tab "Bench.__init__"))(L:Legal rs cs)(n64:cs.length<64) :
  WR (Jiw (k+9) [.ref O,.ref R] h) λ v h'=>∃j,v=.ref j/\h.length<=j/\h'[j]?=Za (.lst ((Juf rs cs).map .int))/\Ex h h':=by
 have hb:=J8
 rw[Jq7]
 refine xfin (xseq (xset (xb (Je (arg2 rfl rfl) (WR.mono (Jqz (k:=k) g t0 L n64) ?_)))))
 rintro _ h2 ⟨E,rfl,lE,gE,x2⟩
 have gR2:=x2.get g.r
 refine xret (WR.mono (Jod (h:=h2) (xs:=Qi 0 (cs.map tupC)) (chk:=λ h'=>h'[R]?=Za (.lst (cs.map tupC))) (n:=2) (st:=stE) (p:=J29 rs cs) (f:=fsE) ?_ (by rw[QW,Zm];omega) (λ h3 q=>q _ _ gR2) ?_ ?_ ?_) ?_)
 ·rw[QE]
  exact Je (arg1 rfl) ((Jj3 _).mpr ⟨_,gR2,rfl,rfl,rfl⟩)
 ·intro x hx ls h3 l2
  rw[Jf7] at hx
  obtain⟨n,_,rfl⟩:=ZE.mp hx
  match ls,l2 with
  | [a,b],_=>exact⟨rfl,rfl⟩
 ·intro x hx h3 q
  rw[Jf7] at hx
  obtain⟨n,hn,rfl⟩:=ZE.mp hx
  have hn:=ZaO.mp hn
  obtain⟨Du,du,fd⟩:=Jmp ((g.o.kp x2.kp).kp q)
  have ec:cs.getD n cd∈cs:=by rw[Ze,Zb hn];exact Zz hn
  unfold Jfq
  refine Je (gtE (ixlE rfl rfl (q _ _ gE) (Jqy hn)) (JO (arg2 (fd _ _ rfl) rfl) (Jzv (k:=k+6) du (g.c _ ec)))) ⟨?_,.refl _⟩
  show _=decide (duC rs (cs.getD (Zcz n) cd)<(Qy rs cs).getD (Zcz n) 0)
  rw[show Zcz (n:Int)=n by omega]
 ·intro x hx _ h3 q
  rw[Jf7] at hx
  obtain⟨n,_,rfl⟩:=ZE.mp hx
  exact Je rfl ⟨rfl,.refl _⟩
 ·rintro _ _ ⟨rfl,gg,rfl⟩
  refine⟨_,rfl,x2.len,?_,x2.trans (.cons _ _ _)⟩
  rw[J1,Jf7,List.filter_map,Zbm,Juf,Zbm]
  rfl
end
end
section
seal L4.run L4.WS L4.WR
theorem nest (ok:HsOk len hs)(hx:x∈hs)(hy:y∈hs)(l1:x.2.1<y.2.1)(l2:y.2.1<x.2.2):y.2.2<=x.2.2:=by
 have ey:=(ok.each y hy).2.2.1
 obtain⟨i,hi,rfl⟩:=ZA.mp hx
 obtain⟨j,hj,rfl⟩:=ZA.mp hy
 rcases Nat.lt_trichotomy i j with h|h|h
 ·rcases ok.tog i j h hj with t|t|⟨_,t|t⟩<;>omega
 ·subst h
  omega
 ·rcases ok.tog j i h hi with t|t|⟨_,t|t⟩<;>omega
section
variable {rs:List RH}{cs:List Cm}{unit:Int}
theorem keeps (G:Gd unit rs)(L:Legal rs cs)(lp:p<cs.length)(f:FitL rs (cs.getD p cd).at_ s):(Qy rs cs).getD p 0<=rdN cs p+s:=by
 obtain⟨s1,r,er,t,z,up,ld⟩:=f
 have ha:=(Zq.mp er).1
 have ea:=(Zq.mp er).2
 have cm:∀p,p<cs.length->cs.getD p cd∈cs:=λ p lp=>by rw[Ze,Zb lp];exact Zz lp
 have c0:=λ p lp=>(L.ok _ (cm p lp)).at_
 have hN:∀p (lp:p<cs.length),hsN rs cs p=(rs[(cs.getD p cd).at_]'(c0 p lp)).2:=λ p lp=>by unfold hsN;rw[VX (c0 p lp)]
 have h0:∀p,p<cs.length->∀x∈hsN rs cs p,0<=x.2.1:=λ p lp x hx=>by
  rw[hN p lp] at hx
  exact((G.f _ (Zz (c0 p lp))).ok.each x hx).2.1
 have T:Nst rs cs:=λ q lq x hx y hy=>by
  rw[hN q lq] at hx hy
  exact nest (G.f _ (Zz (c0 q lq))).ok hx hy
 have u1:=G.u1
 have N:∀r∈rs,Nm r:=λ r hr=>by
  have f:=G.f r hr
  have f1:=f.g1
  exact⟨00,f.l1,f.t1⟩
 have d2:=(G.f _ (Zz ha)).d2
 rw[<- ea] at t ld
 have en:=Jz0 (a:=(cs.getD p cd).at_) (L:=s) (B:=z) L G.six h0 s1 ⟨up.nn,λ q lq aq x hx fx=>by
  rw[hN q lq] at hx
  exact up.le x ⟨_,_,by unfold atN at aq;omega,Zb (c0 q lq),hx,fx⟩⟩ (Jzt L N ha s1 00 ld) T
 have sp:=(Jwc L G.six).1 p lp
 cases eq:endP p (finM rs cs).sr.reverse with
 | none=>rw[eq] at sp;cases sp
 | some u =>
  obtain⟨x,hx,e1,e2⟩:=Jnm eq
  have:=en x (List.mem_reverse.mp hx) (by rw[e1];rfl)
  have el:(Qy rs cs).getD p 0=u:=by
   unfold Qy
   rw[Ze,Zt,Zch lp]
   show(endP p _).getD 0=u
   rw[eq]
   rfl
  rw[el,<-e2]
  rw[e1] at this
  exact this
theorem Jr0 (G:Gd unit rs)(L:Legal rs cs){ls:List Int}(al:∀i,i<rs.length->FitL rs i (ls.getD i 0)):Juf rs cs=[]:=by
 unfold Juf
 rw[List.filter_eq_nil_iff.mpr]
 ·rfl
 intro p hp
 have lp:=ZaO.mp hp
 have o:=L.ok (cs.getD p cd) (by rw[Ze,Zb lp];exact Zz lp)
 have ha:=o.at_
 have f:=al _ ha
 have k:=keeps G L lp f
 obtain⟨_,r,er,t,_⟩:=f
 have l1:=o.l1
 rw[Zb ha] at er
 cases er
 rw[decide_eq_true_eq,Int.not_lt]
 refine Zcd k ?_
 unfold duC rdN rdC
 rw[VX ha]
 omega
end
end
section
seal L4.run L4.WS L4.WR
def nmQ (n:Nat):Str:=⟨#[97+n]⟩
theorem J05:∀n,n<5->IsNm (nmQ n):=by unfold IsNm;decide +kernel
theorem Jx8:∀n,n<5->∀l,l<5->nmQ n=nmQ l->n=l:=by decide +kernel
theorem cpsQ:(Zax "abcde").cps.toList=(ZT 5).map (97+ ·):=by decide +kernel
theorem lenQ:(Zax "abcde").length=5:=by decide +kernel
theorem Jwb {h:IH}{unit:Int}:∀(ys:List IV)(i0:Nat),(∀y∈ys,∃r q,F8 unit r/\y=.tup (tp5 r q)/\h[q]?=Za (.lst (r.2.map tupH)))->∃rs:List RH,RowsH h ys rs/\∀i r,rs[i]?=Za r->F8 unit r/\r.1.name=nmQ (i0+i)
 | [],_,_=>⟨[],⟨rfl,λ i y r e=>by simp at e⟩,λ i r e=>by simp at e⟩
 | y::ys,i0,q=>by
  obtain⟨r,p,f,tt,gp⟩:=q y (Zx ..)
  obtain⟨rs,R,P⟩:=Jwb ys (i0+1) λ z hz=>q z (Zl _ hz)
  refine⟨({ r.1 with name:=nmQ i0 },r.2)::rs,⟨by rw[ZD,ZD,R.len],λ i y' s a b=>?_⟩,λ i s e=>?_⟩
  ·cases i with
   | zero =>
    cases ZQ a
    cases ZQ b
    exact⟨p,tt,gp⟩
   | succ i=>exact R.at_ i y' s a b
  ·cases i with
   | zero =>
    cases ZQ e
    exact⟨⟨f.g1,f.g2,f.l1,f.l2,f.d1,f.d2,f.t1,f.t2,f.ok⟩,rfl⟩
   | succ i =>
    have:=P i s e
    rwa [show i0+(i+1)=i0+1+i by omega]
theorem e15 (σ:ISt)(h:IH):Jb JL (eC (.int 10)) (eC (.int 15)) σ h=.ok (.int 1000000000000000) h:=Ju (by
 rw[Vs,Qo,Qo,V7]
 exact⟨01,congrArg IV.int (by decide +kernel),rfl⟩)
abbrev st45 (s:List IV)(x u:Int)(m:Nat)(a4 a5 a6 a7 a8 a9 a10 a11 a12 a13 a14 a15 a16 a17 a18 a19 a20:Option IV):ISt:=[Za (.rol s),Za (.int x),Za (.int u),Za (.int (m:Int)),a4,a5,a6,a7,a8,a9,a10,a11,a12,a13,a14,a15,a16,a17,a18,a19,a20]
theorem J2q {h h0:IH}{it:I1}{e:E1}{js:List Nat}{σ:ISt}{xs:List IV}{chk:IH->Prop}(D:IV->IV->IH->Prop)(hit:WR (it σ h0) λ J h1=>J.xs=xs/\J.chk=chk/\h1=h)(hl:xs.length<sizeLine)
  (mono:∀x y h2 h3,KpB h.length h2 h3->D x y h2->D x y h3)(hc:∀h2:IH,Kp h h2->chk h2)
  (he:∀x∈xs,∀h2:IH,Kp h h2->h.length<h2.length->WR (e (Za x::js.map λ j=>(σ[j]?).join) h2) λ v h3=>Ex h2 h3/\D x v h3) :
  ∃v h3,Js it 1 js (gNm 0) JB e σ h0=.ok v h3/\v=.ref h.length/\∃ys,h3[h.length]?=Za (.lst ys)/\ys.length=xs.length/\Kp h h3/\∀(i:Nat) x y,xs[i]?=Za x->ys[i]?=Za y->D x y h3 :=
 (Jvd D hit hl mono hc he).eq
section
variable {k:Nat}{h:IH}
theorem osE {e:E1}{σ:ISt}{i:Int}{h1:IH}(q:e σ h=.ok (.int i) h1):Qs e σ h=.ok (Za i) h1:=by unfold Qs;rw[q];rfl
theorem Jzz {i j:Nat}(hi:h[i]?=Za (.lst []))(hj:h[j]?=Za (.lst [])):cEq (.ref i) (.ref j) h=.ok (.bl Zi) h:=by
 have e1:∀{i:Nat},h[i]?=Za (.lst [])->toD h 6 (.ref i)=Za (.list []):=λ e=>by rw[Jm0 e];rfl
 have e3:Vn (.ref i) (.ref j) h=Za Zi:=by
  unfold Vn
  rw[e1 hi,e1 hj]
  simp[ZbI,ZbV,Zej,Zed]
 unfold cEq
 have e4:Xe (.ref i) (.ref j)=Zc:=rfl
 rw[e4]
 dsimp only
 rw[e3]
theorem J4i {σ:ISt}{a b:E1}{h1:IH}{c:Bool}{P:IV->IH->Prop}(e:a σ h=.ok (.bl c) h1)(x:c=Zi->P (.bl Zi) h1)(y:c=Zk->WR (b σ h1) P):WR (eOr a b tru σ h) P:=by
 unfold eOr
 rw[e]
 cases c with
 | true=>exact Je rfl (x rfl)
 | false=>exact y rfl
theorem notB {σ:ISt}{a:E1}{h1:IH}{c:Bool}(e:a σ h=.ok (.bl c) h1):eUn (VJ tru) a σ h=.ok (.bl (!c)) h1:=by unfold eUn;rw[e];rfl
theorem Jr4 {D M:Nat}{rs:List RH}{cs:List Cm}{unit:Int}(q:Dg h D rs unit)(t0:h[0]?=Za (.tab "Order.pick"))(hM:h[M]?=Za (.lst (cs.map tupC)))(L:Legal rs cs)(lc:cs.length<=14) :
  ∃h1 h2 O R,Ex h h2/\Bg h2 rs cs O R/\(∀{e:E1}{σ:ISt},e σ h=.ok (.ref D) h->QN "ByRank" (XO (k+4)) [] (Jc e Jd) σ h=.ok (.ref O) h1)/\∀{e:E1}{σ:ISt},e σ h1=.ok (.ref M) h1->eCB (on1 Q9) (Jc e Jd) σ h1=.ok (.ref R) h2:=by
 have fw:=q.g.few
 obtain⟨_,h1,e1,rfl,x1,o⟩:=(Jr8 (k:=k) q.d 00 q.g.six).eq
 have x2:Ex h1 (h1++[IX.lst (cs.map tupC)]):=.one _ _
 exact⟨h1,_,h.length,h1.length,x1.trans x2,⟨o.kp x2.kp,Jp,λ c hc=>(L.ok c hc).at_,q.g.six,(x1.trans x2).get t0,00⟩,λ e=>Ju ((VQ ..).mpr (Je (arg1 e) (Je e1 ⟨rfl,rfl,rfl⟩))),λ e=>Jxz e (x1.get hM)⟩
open Classical in
def gV (rs:List RH)(ls:List Int)(v:IV):Bool:=match v with
 | .int n=>decide (FitL rs n.toNat (ls.getD n.toNat 0))
 | _=>Zk
theorem Ym {rs:List RH}{ls:List Int}{n:Nat}:gV rs ls (.int (n:Int))=Zi↔FitL rs n (ls.getD n 0):=by simp only[gV,Za1,decide_eq_true_eq]
theorem Jzy {s:List IV}{x u:Int}{m D Ls Gd' M S:Nat}{rs:List RH}{cs:List Cm}{ls:List Int}{unit:Int}{a5 a6 a7 a8 a9 a10 a11:Option IV}(q:Dg h D rs unit)(t0:h[0]?=Za (.tab "Order.pick"))(t1:h[1]?=Za (.tab "Bench.__init__"))(hM:h[M]?=Za (.lst (cs.map tupC)))(L:Legal rs cs)(lc:cs.length<=14)
  (hL:h[Ls]?=Za (.lst (ls.map .int)))(ll:ls.length=rs.length)(hG:h[Gd']?=Za (.lst ((rngI 0 (rs.length:Int)).map λ v=>.bl (gV rs ls v)))){Nx:ISt->IH->Prop} :
  WS (Jm8 (k+9) (st45 s x u m (Za (.ref S)) a5 a6 a7 a8 a9 a10 a11 (Za (.ref D)) (Za (.ref Ls)) (Za (.ref Gd')) (Za (.ref M)) Zc Zc Zc Zc Zc) h) Nx λ v _=>v=.bl Zi:=by
 have hb:=J8
 have G:=q.g
 have fw:=G.few
 obtain⟨h1,h2,O,R,x2,B,eO,eR⟩:=Jr4 (k:=k+5) q t0 hM L lc
 obtain⟨_,h3,e3,j,rfl,_,gE,x3⟩:=(Jqz (k:=k+1) B (x2.get t1) L 00).eq
 have x23:=x2.trans x3
 have M3:=x23.get hM
 have le:((Qy rs cs).map IV.int).length=cs.length:=by simp[Qy]
 have lm:(cs.map tupC).length=cs.length:=03
 have ty:(tyI (.ref j) h3).bind QK=Za Zi:=by rw[Jss gE];rfl
 refine xseq (xset (Je (JO (arg2 (eO rfl) (eR rfl)) e3) (xseq (xiff (orF (notE (truE (isiE rfl ty))) (okc (neI (lenE rfl gE) (lenE rfl M3)) (by rw[le,lm,decide_eq_true rfl];rfl))) (xnil (xseq (xrng (n:=cs.length) ((lenE rfl M3).trans (by rw[lm])) 00 ?_)))))))
 refine QG (λ n σ h'=>h'=h3/\∃b6 b17 b18 b19 b20,σ=st45 s x u m (Za (.ref S)) a5 b6 a7 a8 a9 a10 a11 (Za (.ref D)) (Za (.ref Ls)) (Za (.ref Gd')) (Za (.ref M)) (Za (.ref j)) b17 b18 b19 b20) (λ _ _ _ _=>trivial) ?_ ?_ ⟨rfl,_,_,_,_,_,rfl⟩
 ·rintro n hn _ _ ⟨rfl,b6,b17,b18,b19,b20,rfl⟩
  rw[JA] at hn
  rw[Qk,show(0:Int)+(n:Int)=n by omega]
  have hn':n<cs.length:=00
  have ok:=L.ok (cs.getD n cd) (by rw[Ze,Zb hn'];exact Zz hn')
  have an:=ok.at_
  have eg:∀a:Nat,a<rs.length->atI ((rngI 0 (rs.length:Int)).map λ v=>IV.bl (gV rs ls v)) (a:Int)=Za (.bl (gV rs ls (.int (a:Int)))):=λ a la=>JC (by
   rw[Zt,Zb (by rw[JA];omega),Qk,Int.zero_add]
   rfl)
  have el:∀a:Nat,a<rs.length->atI (ls.map IV.int) (a:Int)=Za (.int (ls.getD a 0)):=λ a la=>JC (by rw[Zt,Ze,Zb 00];rfl)
  refine xnx rfl (xseq ((QF ..).mpr (Je (ixlE rfl rfl M3 (XW hn')) (xnx rfl (xif (Xk (Je (truE (ixlE rfl rfl (x23.get hG) (eg _ an))) ⟨λ g=>?_,λ _=>⟨(λ z=>by cases z),λ _=>xnil ⟨rfl,_,_,_,_,_,rfl⟩⟩⟩)))))))
  have kp:=keeps G L hn' (Ym.mp g)
  refine Je (gtE (ixlE rfl rfl gE (Jqy hn')) (addE (addE rfl rfl) (ixlE rfl rfl (x23.get hL) (el _ an)))) (xdec (λ z=>?_) λ _=>xnil ⟨rfl,_,_,_,_,_,rfl⟩)
  have kp:_<=(cs.getD n cd).come+(cs.getD n cd).late+_:=kp
  omega
 ·rintro _ _ ⟨rfl,b6,b17,b18,b19,b20,rfl⟩
  refine xret (J4i (notB ((cbE (arg1 (x:=.ref Gd') rfl)).trans (all_map (f:=gV rs ls) (x23.get hG)))) (λ _=>rfl) λ z=>?_)
  have al:∀i,i<rs.length->FitL rs i (ls.getD i 0):=λ i hi=>Ym.mp (ZaG.mp (by simpa using z) _ (ZA.mpr ⟨i,by rw[JA];omega,by rw[Qk];simp⟩))
  obtain⟨h4,h5,O',R',x5,B',eO',eR'⟩:=Jr4 (k:=k+5) (q.kp x23.kp) (x23.get t0) M3 L lc
  obtain⟨_,h6,e6,j',rfl,_,gE',x6⟩:=(Jrw (k:=k) B' ((x23.trans x5).get t1) L 00).eq
  rw[Jr0 G L al] at gE'
  exact Je ((binE (JO (arg2 (eO' rfl) (eR' rfl)) e6) (lstE rfl rfl)).trans (Jzz (grow gE') Jp)) rfl
theorem J3c {ns:List Int}{x u:Int}{m D S:Nat}{ys:List IV}{rs:List RH}{unit:Int}{a5 a6 a7 a8 a9 a10 a11:Option IV}(q:Dg h D rs unit)(t0:h[0]?=Za (.tab "Order.pick"))(t1:h[1]?=Za (.tab "Bench.__init__"))(hS:h[S]?=Za (.lst ys))(R:RowsH h ys rs)(lm:rs.length=m)(m1:1<=m){Nx:ISt->IH->Prop} :
  WS (Jqf (k+9) (st45 (ns.map IV.int) x u m (Za (.ref S)) a5 a6 a7 a8 a9 a10 a11 (Za (.ref D)) Zc Zc Zc Zc Zc Zc Zc Zc) h) Nx λ v _=>v=.bl Zi:=by
 have hb:=J8
 have G:=q.g
 have fw:=G.few
 obtain⟨T,eT,T0⟩:∃T:Int,(∀σ h,Jb JL (eC (.int 10)) (eC (.int 30)) σ h=.ok (.int T) h)/\0<T:=⟨_,e30,by decide +kernel⟩
 refine xseq (xset ((Q2 ..).mpr (Je (arg3 rfl rfl (modE (JI rfl rfl 01 01) (eT _ _) T0)) (WR.mono (Jt7 (k:=k+2) q hS R) ?_))))
 rintro _ h1 ⟨ls,rfl,gL,ll,x1⟩
 generalize h.length=Ls at gL ⊢
 have q1:=q.kp x1.kp
 have el:∀a:Nat,a<rs.length->atI (ls.map IV.int) (a:Int)=Za (.int (ls.getD a 0)):=λ a la=>JC (by rw[Zt,Ze,Zb 00];rfl)
 have Y:=@Yb h1 h1 (iRg JV (Jc (Ja 3) Jd)) (Jkj (k+9)) [12,13] (st45 (ns.map IV.int) x u m (Za (.ref S)) a5 a6 a7 a8 a9 a10 a11 (Za (.ref D)) (Za (.ref Ls)) Zc Zc Zc Zc Zc Zc Zc) (rngI 0 (rs.length:Int)) (λ _=>True) (λ v=>.bl (gV rs ls v))
  (by
   rw[QE]
   refine Je (arg1 rfl) ?_
   rw[V8,lm]
   exact⟨00,rfl,rfl,rfl⟩) (by rw[JA];omega) (λ _ _=>trivial) (by
   intro v hv h2 z
   obtain⟨n,hn,rfl⟩:=ZA.mp hv
   rw[JA] at hn
   rw[Qk,show(0:Int)+(n:Int)=n by omega]
   refine(Q2 ..).mpr (Je (arg3 rfl rfl (ixlE rfl rfl (z _ _ gL) (el n 00))) (WR.mono (Jq2 (k:=k+3) (q1.kp z) (show n<rs.length by omega)) ?_))
   rintro _ h3 ⟨⟨b,rfl,hb'⟩,x3⟩
   refine⟨congrArg IV.bl ?_,x3⟩
   rw[Zbr,hb',Ym])
 show WS (Jqg (k+9) (st45 (ns.map IV.int) x u m (Za (.ref S)) a5 a6 a7 a8 a9 a10 a11 (Za (.ref D)) (Za (.ref Ls)) Zc Zc Zc Zc Zc Zc Zc) h1) _ _
 refine xseq (xset ?_)
 generalize Js _ _ _ _ _ _ _ _=rc at Y ⊢
 obtain⟨g,rfl⟩:=Y
 rw[Vh]
 have x2:Ex h1 (h1++IX.lst ((rngI 0 (rs.length:Int)).map λ v=>.bl (gV rs ls v))::g):=.cons _ _ _
 have gG:(h1++IX.lst ((rngI 0 (rs.length:Int)).map λ v=>.bl (gV rs ls v))::g)[h1.length]?=Za (.lst ((rngI 0 (rs.length:Int)).map λ v=>.bl (gV rs ls v))):=J1
 generalize h1.length=Gd' at gG ⊢
 generalize h1++IX.lst ((rngI 0 (rs.length:Int)).map λ v=>.bl (gV rs ls v))::g=h2 at x2 gG ⊢
 have x3:Ex h2 (h2++[IX.lst (ls.map .int)]):=.one _ _
 have q3:=q1.kp (x2.trans x3).kp
 obtain⟨_,h4,e4,⟨b,rfl,hb4⟩,x4⟩:=(Jxy (k:=k+2) (R:=h2.length) q3 Jp ll).eq
 have x24:=x3.trans x4
 have eb:b=(rngI 0 (rs.length:Int)).all (gV rs ls):=by
  rw[Zbr,hb4,ZaG]
  constructor
  ·intro al v hv
   obtain⟨n,hn,rfl⟩:=ZA.mp hv
   rw[JA] at hn
   rw[Qk,show(0:Int)+(n:Int)=n by omega]
   exact Ym.mpr (al n 00)
  ·intro al i hi
   exact Ym.mp (al _ (ZA.mpr ⟨i,by rw[JA];omega,by rw[Qk];simp⟩))
 have nb:∀{c:Bool}{h:IH},cNe (.bl c) (.bl c) h=.ok (.bl Zk) h:=λ {c h}=>by cases c<;>rfl
 refine xseq (xiff (tofE ((binE (JO (arg2 rfl (Jxz rfl (x2.get gL))) e4) ((cbE (arg1 (x:=.ref Gd') rfl)).trans (all_map (f:=gV rs ls) (x24.get gG)))).trans (by rw[<- eb];exact nb))) (xnil ?_))
 have x04:=(x1.trans x2).trans x24
 have L4':=(x2.trans x24).get gL
 have G4:=x24.get gG
 have S4:=x04.get hS
 have R4:=R.kp x04.kp
 have q4:=q.kp x04.kp
 have t04:=x04.get t0
 have t14:=x04.get t1
 clear eb hb4 e4 q3 x04
 generalize hcs:(ns.take (15+m)).drop (1+m)=cells
 have lc:cells.length<=14:=by rw[<- hcs];simp;omega
 have sl:∀(h:IH){σ:ISt},Ja 0 σ h=.ok (.rol (ns.map IV.int)) h->Ja 3 σ h=.ok (.int (m:Int)) h->eSl slI (Ja 0) (Qs (Jb Jj (eC (.int 1)) (Ja 3))) (Qs (Jb Jj (eC (.int 15)) (Ja 3))) σ h=.ok (.ref h.length) (h++[.lst (cells.map IV.int)]):=λ h σ e0 e3=>by
  refine Ju ((Xj ..).mpr (Je e0 (Je (osE (addE rfl e3)) (Je (osE (addE rfl e3)) ?_))))
  rw[YT,show(1:Int)+(m:Int)=((1+m:Nat):Int) by omega,show(15:Int)+(m:Int)=((15+m:Nat):Int) by omega,Jxc,<-List.map_take,<-Zec,hcs]
  exact⟨rfl,rfl⟩
 have x5:Ex h4 (h4++[IX.lst (cells.map IV.int)]):=.one _ _
 refine xseq (xset ((Q2 ..).mpr (Je (arg2 (sl _ rfl rfl) rfl) (WR.mono (J1m (k:=k+7) G 00 (x5.get S4) (R4.kp x5.kp) Jp lc) ?_))))
 rintro _ h6 ⟨cs,rfl,gM,Lg,lcs,x6⟩
 have x46:=x5.trans x6
 refine xseq (xif (Je (eqE (modE (JI rfl rfl 01 01) rfl 01) rfl) (xdec (λ _=>?_) λ _=>xnil (Jzy (k:=k) (q4.kp x46.kp) (x46.get t04) (x46.get t14) gM Lg lcs (x46.get L4') ll (x46.get G4)))))
 have x7:Ex h6 (h6++[IX.lst (cells.map IV.int)]):=.one _ _
 have x47:=x46.trans x7
 refine xset ((Q2 ..).mpr (Je (arg2 (sl _ rfl rfl) rfl) (WR.mono (Jx4 (k:=k+8) G 00 (x47.get S4) (R4.kp x47.kp) Jp lc) ?_)))
 rintro _ h8 ⟨cs',rfl,gM',Lg',lcs',x8⟩
 have x48:=x47.trans x8
 exact Jzy (k:=k) (q4.kp x48.kp) (x48.get t04) (x48.get t14) gM' Lg' lcs' (x48.get L4') ll (x48.get G4)
theorem J1n {ns:List Int}{x u:Int}{m:Nat}(hu:1<=u)(hu2:u<=1000000000000000)(m1:1<=m)(m5:m<=5)(t0:h[0]?=Za (.tab "Order.pick"))(t1:h[1]?=Za (.tab "Bench.__init__"))(t2:h[2]?=Za (.tab "longest_hold")){Nx:ISt->IH->Prop} :
  WS (Jqe (k+9) (st45 (ns.map IV.int) x u m Zc Zc Zc Zc Zc Zc Zc Zc Zc Zc Zc Zc Zc Zc Zc Zc Zc) h) Nx λ v _=>v=.bl Zi:=by
 have hb:=J8
 have X:=@J2q h h (iRg JV (Jc (Ja 3) Jd)) (Jki (k+9)) [3,0,2] (st45 (ns.map IV.int) x u m Zc Zc Zc Zc Zc Zc Zc Zc Zc Zc Zc Zc Zc Zc Zc Zc Zc) (rngI 0 (m:Int)) (λ _=>True)
  (λ _ y h'=>∃r q,F8 u r/\y=.tup (tp5 r q)/\q≠h.length/\h'[q]?=Za (.lst (r.2.map tupH)))
  (by
   rw[QE]
   refine Je (arg1 rfl) ?_
   rw[V8]
   exact⟨00,rfl,rfl,rfl⟩) (by rw[JA];omega)
  (by
   rintro x y h4 h5 kb ⟨r,q,a1,a3,a4,a5⟩
   exact⟨r,q,a1,a3,a4,kb _ _ a4 a5⟩) (λ _ _=>trivial) (by
   intro v hx h4 q lt
   obtain⟨n,hn,rfl⟩:=ZA.mp hx
   rw[Qk,show(0:Int)+(n:Int)=n by omega]
   refine(Q2 ..).mpr (Je (arg3 (JO (arg2 rfl (addE rfl rfl)) (Jqp ns (1+(n:Int)) 00)) rfl rfl) (WR.mono (Jup (k:=k+7) hu hu2 m1 m5) ?_))
   rintro v h5 ⟨x5,r,p,f,tt,lp,gp⟩
   exact⟨x5,r,p,f,tt,00,gp⟩)
 refine xseq (xset ?_)
 generalize Js _ _ _ _ _ _ _ _=rc at X ⊢
 obtain⟨v,h4,rfl,rfl,ys,gS,ly,k4,dS'⟩:=X
 rw[Vh]
 rw[JA] at ly
 have ly:ys.length=m:=00
 have hP:∀y∈ys,∃r q,F8 u r/\y=.tup (tp5 r q)/\h4[q]?=Za (.lst (r.2.map tupH)):=λ y hy=>by
  obtain⟨i,hi,rfl⟩:=ZA.mp hy
  obtain⟨r,q,a1,a3,_,a5⟩:=dS' i _ _ (Zb (show i<(rngI 0 (m:Int)).length by rw[JA];omega)) (Zb hi)
  exact⟨r,q,a1,a3,a5⟩
 have t0:=k4 _ _ t0
 have t1:=k4 _ _ t1
 have t2:=k4 _ _ t2
 clear dS' k4
 generalize h.length=S at gS ⊢
 obtain⟨rs,R4,P4⟩:=Jwb ys 0 hP
 have P4:∀i r,rs[i]?=Za r->F8 u r/\r.1.name=nmQ i:=λ i r e=>by have:=P4 i r e;rwa [Zer] at this
 have rl:=R4.len
 have G:Gd u rs:=⟨hu,hu2,00,λ r hr=>by
  obtain⟨i,hi⟩:=ZdG.mp hr
  exact(P4 i r hi).1,by
  rw[List.Nodup,Zcf]
  intro i j hi hj hij e
  rw[Zm] at hi hj
  rw[ZP,ZP,(P4 i _ (Zb hi)).2,(P4 j _ (Zb hj)).2] at e
  have:=Jx8 i 00 j 00 e
  omega⟩
 refine xseq (xset (Je (lstE rfl rfl) (xseq (xrng (n:=m) rfl 00 ?_))))
 refine QG (λ n σ h'=>∃(vs:List IV)(a b c d e f:Option IV),σ=st45 (ns.map IV.int) x u m (Za (.ref S)) (Za (.ref h4.length)) a b c d e f Zc Zc Zc Zc Zc Zc Zc Zc Zc/\h'[h4.length]?=Za (.lst vs)/\Kp h4 h'/\AllH h' vs (rs.take n)) (λ _ _ _ _=>trivial) ?_ ?_ ⟨[],Zc,Zc,Zc,Zc,Zc,Zc,rfl,Jp,(Ex.one _ _).kp,⟨rfl,λ i v d a=>by simp at a⟩⟩
 ·rintro n hn _ h1 ⟨vs,a,b,c,d,e,f,rfl,g1,k1,w⟩
  rw[Qk]
  rw[JA] at hn
  have hn':n<rs.length:=00
  obtain⟨f6,nm⟩:=P4 n _ (Zb hn')
  have wl:=w.len
  have lt:=J4 g1
  have hv:vs.length<=5:=by rw[wl,Za6];omega
  obtain⟨q2,ea,gq⟩:=R4.get hn'
  rw[Zat hn',show(0:Int)+(n:Int)=n by omega]
  generalize rs[n]=r at f6 nm ea gq
  have u1:=f6.g1
  have eN:∀{σ:ISt}{h:IH},Ja 6 σ h=.ok (.int (n:Int)) h->Jb Jg (eC (.str "abcde")) (Ja 6) σ h=.ok (.str r.1.name) h:=λ {σ h} e6=>by
   have e:atI (Zax "abcde").cps.toList (n:Int)=Za (97+n):=by
    rw[cpsQ]
    refine JC ?_
    rw[Zt,Zch 00]
    rfl
   rw[binE rfl e6,nm]
   simp only[Jg]
   rw[if_pos (by rw[lenQ];omega),e]
   rfl
  have xc:∀{a:E1}{r:A1}{σ:ISt}{h:IH}{Q:List IV->IH->Prop},WR (a σ h) (λ x h1=>WR (r σ h1) λ xs h2=>Q (x::xs) h2)->WR (Jc a r σ h) Q:=λ x=>(XL ..).mpr x
  refine xnx rfl (xseq ((QF ..).mpr (Je (ixlE rfl rfl (k1 _ _ gS) ea) (xnx rfl (Qr (Q3 rfl g1 Vm (xc ((VQ ..).mpr (xc (Je (eN rfl) (xc (Je rfl (xc (Je rfl (xc (Je rfl (xc (Je rfl (xc (Je (Jxz rfl (k1 _ _ gq)) (Je rfl ?_)))))))))))))))))))))
  generalize hs':r.2.map tupH=hs
  refine WR.mono (Jx1 (k:=k+4) (hs:=hs) (by rw[nm];exact J05 n 00) 00 f6.l1 f6.t1 (λ h1=>Jpl f6.d1 f6.d2) λ h1 z=>hs'▸Jld (z _ _ (by rw[hs'];exact Jp)) f6.ok) ?_
  rintro _ h3 ⟨rfl,g3,rfl⟩
  refine⟨rfl,Je rfl ?_⟩
  have x3:Ex h1 (h1++[IX.lst hs]++IX.ins "Work" (wfs r.1.name r.1.gap r.1.len r.1.due r.1.late hs)::g3):=(Ex.one _ _).trans (.cons _ _ _)
  have gw:(h1++[IX.lst hs]++IX.ins "Work" (wfs r.1.name r.1.gap r.1.len r.1.due r.1.late hs)::g3)[ZdK (h1++[IX.lst hs])]?=Za (.ins "Work" (wfs r.1.name r.1.gap r.1.len r.1.due r.1.late hs)):=J1
  have nw:h4.length≠ZdK (h1++[IX.lst hs]):=by rw[Z0];omega
  generalize ZdK (h1++[IX.lst hs])=w' at gw nw ⊢
  generalize h1++[IX.lst hs]++IX.ins "Work" (wfs r.1.name r.1.gap r.1.len r.1.due r.1.late hs)::g3=h5 at x3 gw ⊢
  refine xapp (x3.get g1) 00 ⟨_,_,_,_,_,_,_,rfl,Qb (x3.get g1),λ a o e=>Jw (x3.get (k1 _ _ e)) (by have:=J4 e;omega),by simp[wl],λ i u' d a b=>?_⟩
  by_cases hi:i<vs.length
  ·rw[ZC hi] at a
   rw[ZC 00] at b
   obtain⟨j,e,z⟩:=w.at_ i u' d a b
   exact⟨j,e,Jw (x3.get z) λ ej=>by rw[<- ej,g1] at z;cases z⟩
  ·rw[Z9 00] at a b
   have hi':=(Zq.mp a).1
   rw[Za9] at hi'
   rw[show i-vs.length=0 by omega] at a
   rw[show i-(rs.take n).length=0 by omega] at b
   cases a
   cases b
   exact⟨w',rfl,by unfold wo;rw[hs'];exact Jw gw nw⟩
 ·rintro _ h1 ⟨vs,a,b,c,d,e,f,rfl,g1,k1,w⟩
  rw[JA,ZaY 00] at w
  refine xseq (xset ((VQ ..).mpr (Je (arg1 rfl) (WR.mono (J2s (k:=k+6) g1 w G) ?_))))
  rintro _ h5 ⟨rfl,x5,d5⟩
  have xx:=k1.trans x5.kp
  exact⟨rfl,J3c (k:=k) ⟨d5,xx _ _ t2,G⟩ (xx _ _ t0) (xx _ _ t1) (xx _ _ gS) (R4.kp xx) 00 m1⟩
theorem Jt6 (ns:List Int)(hl:ns.length<=63):∃h',Xm 16 [.rol (ns.map IV.int)] [.tab "Order.pick",.tab "Bench.__init__",.tab "longest_hold"]=.ok (.bl Zi) h':=by
 suffices h:WR (Xm 16 [.rol (ns.map IV.int)] [.tab "Order.pick",.tab "Bench.__init__",.tab "longest_hold"]) λ v _=>v=.bl Zi by
  obtain⟨v,h',e,rfl⟩:=h.eq
  exact⟨h',e⟩
 rw[Jz5]
 refine xfin (xseq (xset (Je (JO (arg2 rfl rfl) (Jqp ns 0 01)) ?_)))
 generalize ns.getD (Zcz 0) 0=x0
 obtain⟨md,em,hm1,hm2⟩:∃x:Int,atI [IV.int 3,IV.int 1000000000000000] (x0%2)=Za (.int x)/\0<x/\x<=1000000000000000:=by
  have:x0%2=0∨x0%2=1:=00
  rcases this with q|q<;>rw[q]
  ·exact⟨_,JS,01,01⟩
  ·exact⟨_,JY,01,01⟩
 have u0:=Zan (x0/4) (b:=md) 00
 have u1:=ZY (x0/4) hm1
 obtain⟨m,e1,m1,m2⟩:∃m:Nat,1+x0/8%5=(m:Int)/\1<=m/\m<=5:=⟨(1+x0/8%5).toNat,00,00,00⟩
 exact xseq (xset (Je (addE rfl (modE (JI rfl rfl 01 01) (pkE (arg2 rfl (e15 _ _)) rfl (modE rfl rfl 01) em) hm1)) (xseq (xset (Je (okc (addE rfl (modE (JI rfl rfl 01 01) rfl 01)) (congrArg IV.int e1)) (J1n (k:=6) 00 00 m1 m2 rfl rfl rfl))))))
end
end
end LW
end
namespace LW
open PySem L2 L3 L4
section
local macro_rules | `(tactic| bv_omega) => `(tactic| exact ⟨scOk.of (by decide +kernel), rfl, rfl, λ _ _ _ _ _ _ => by first | exact len1 λ _ => rfl | exact len2 λ _ _ => rfl | exact len3 λ _ _ _ => rfl | exact len4 λ _ _ _ _ => rfl⟩)
variable {K:W.Frag}{h:Zau}{mg:Str->Option Zg}{a:Zo}{oc kV dc pm cd ct:Zg}{od an:Option Zo}{sl:Array (Option Zg)}
theorem Jmx:FnB "is_whole" "is_whole" Jc5:=by bv_omega
theorem Jfz:FnB "is_whole_from" "is_whole_from" Jag:=by bv_omega
theorem Jlx:FnB "rounds_up" "rounds_up" Jcb:=by bv_omega
theorem Jpq:FnB "is_name" "is_name" Jep:=by bv_omega
theorem Jpp:FnB "is_hold" "is_hold" Jeo:=by bv_omega
theorem Jlt:FnB "lie_apart" "lie_apart" Jb7:=by bv_omega
theorem Jpt:FnB "lies_in" "lies_in" Jes:=by bv_omega
theorem Jib:FnB "go_together" "go_together" Jaw:=by bv_omega
theorem Je5:FnB "all_go_together" "all_go_together" Jac:=by bv_omega
theorem Jlv:FnB "own_holds" "own_holds" Jb9:=by bv_omega
theorem Jpu:FnB "own_due" "own_due" Jet:=by bv_omega
theorem Jlo:FnScope Qu.N Qu.ps (JH Qu.st):=scOk.of (by decide +kernel)
theorem Jlb {C:Zo}{T:Zo}{ox:Zg}{oy:Option Zo}{nx:Nat}{sx:Array (Option Zg)}{tk1:Tok}(ha:W.findIn K (.ref C) "__init__"=Za (Za (.ref a)))(hi:W.isFn K (.ref a)=Zi)(hl:K.lookup a=Za ⟨oc,od,.func (W.fnOf "__init__" "Work.__init__" (Q8 Qu.st) (Qh Qu.st) (JH Qu.st) (.ref T) kV dc pm an cd ct),sl⟩)(hc:W.codeIn K cd "Work.__init__"=Zi)(hk:W.keepIn K (.ref a)=Zi)(hd:K.lookup T=Za ⟨ox,oy,.seq #[.none,.int 0 tk1,.none] nx,sx⟩)(hm:W.makesIn K C=Zi)(hq:W.keepIn K (.ref C)=Zi):∃fa fd,Mk K C fa/\DefOk K "__init__" Qu fa fd :=
 ⟨a,_,⟨hm,ha,hi,hq⟩,⟨⟨_,⟨oc,od,kV,dc,pm,an,cd,ct,sl,rfl,hl,hc⟩,hk⟩,Jlo,(by intro j hj;rcases J4b j (show j<=3 from hj) with rfl|rfl|rfl|rfl;exact⟨[.none,.int 0 tk1,.none],λ s us Y hl=>len4 (P:=λ us=>Zc3 s _ ⟨us,[]⟩ (Qu.ps.zip (us++[.none,.int 0 tk1,.none]))) (λ _ _ _ _=>.of_defaults rfl (Y T _ hd) rfl rfl rfl) us (show us.length=4 by rw[Z0] at hl;exact ZbY (m:=3) hl),rfl,[V.non,V.int 0,V.non],.cons rfl (.cons ⟨_,rfl⟩ (.cons rfl (.nil))),λ _ _=>⟨_,_,rfl,rfl,⟨_,_,rfl,rfl,⟨_,_,rfl,rfl,rfl⟩⟩⟩⟩;exact⟨[.int 0 tk1,.none],λ s us Y hl=>len5 (P:=λ us=>Zc3 s _ ⟨us,[]⟩ (Qu.ps.zip (us++[.int 0 tk1,.none]))) (λ _ _ _ _ _=>.of_defaults rfl (Y T _ hd) rfl rfl rfl) us (show us.length=5 by rw[Z0] at hl;exact ZbY (m:=2) hl),rfl,[V.int 0,V.non],.cons ⟨_,rfl⟩ (.cons rfl (.nil)),λ _ _=>⟨_,_,rfl,rfl,⟨_,_,rfl,rfl,rfl⟩⟩⟩;exact⟨[.none],λ s us Y hl=>len6 (P:=λ us=>Zc3 s _ ⟨us,[]⟩ (Qu.ps.zip (us++[.none]))) (λ _ _ _ _ _ _=>.of_defaults rfl (Y T _ hd) rfl rfl rfl) us (show us.length=6 by rw[Z0] at hl;exact ZbY (m:=1) hl),rfl,[V.non],.cons rfl (.nil),λ _ _=>⟨_,_,rfl,rfl,rfl⟩⟩;exact⟨[],λ s us Y hl=>len7 (P:=λ us=>Zc3 s _ ⟨us,[]⟩ (Qu.ps.zip (us++[]))) (λ _ _ _ _ _ _ _=>.of_defaults rfl (Y T _ hd) rfl rfl rfl) us (show us.length=7 by rw[Z0] at hl;exact ZbY (m:=0) hl),rfl,[],.nil,λ _ _=>rfl⟩)⟩⟩
theorem Jln:FnB "held" "Work.held" Jb2:=by bv_omega
theorem Jmv:FnB "ceilings" "ceilings" Jc3:=by bv_omega
theorem Jie:FnB "things_held" "things_held" Jaz:=by bv_omega
theorem Jsf:FnB "lifted" "lifted" Jf5:=by bv_omega
theorem Jjw:FnB "turns_held" "turns_held" Jbe:=by bv_omega
theorem Jhm:FnB "longest_hold" "longest_hold" Jal:=by bv_omega
theorem Jpn:FnB "hold_up" "hold_up" Jem:=by bv_omega
theorem Jju:FnB "comings_in" "comings_in" Jbc:=by bv_omega
theorem Jyu:FnB "load" "load" Jni:=by bv_omega
theorem Jpo:FnB "in_time" "in_time" Jen:=by bv_omega
theorem Jyt:FnB "fits" "fits" Jnh:=by bv_omega
theorem Jsd:FnB "answer" "answer" Jf3:=by bv_omega
theorem Jps:FnB "lets_by" "lets_by" Jer:=by bv_omega
theorem Juu:FnB "ready" "ready" Jjb:=by bv_omega
theorem Jse:FnB "due_at" "due_at" Jf4:=by bv_omega
theorem Jlp:FnB "is_coming" "is_coming" Jb3:=by bv_omega
theorem Jia:FnB "first_wrong" "first_wrong" Jav:=by bv_omega
theorem Jpm:FnB "checked" "checked" Jel:=by bv_omega
theorem Jlu:FnB "next_stop" "next_stop" Jb8:=by bv_omega
theorem Jjq:FnB "__init__" "Bench.__init__" Ja9:=by bv_omega
theorem Jdr:FnB "next_ready" "Bench.next_ready" Jaa:=by bv_omega
theorem Jhk:FnB "let_in" "Bench.let_in" Jaj:=by bv_omega
theorem Je3:FnB "turns_for" "Bench.turns_for" Jab:=by bv_omega
theorem Jjr:FnB "tell" "Bench.tell" Jba:=by bv_omega
theorem Jh7:FnB "go_on" "Bench.go_on" Jat:=by bv_omega
theorem J10:FnB "run" "run" Jth:=by bv_omega
theorem Jys:FnB "ends" "ends" Jng:=by bv_omega
theorem Jsg:FnB "missed" "missed" Jf6:=by bv_omega
theorem Jlw:FnB "own_works" "own_works" Jca:=by bv_omega
theorem Jmw:FnB "crowd_of" "crowd_of" Jc4:=by bv_omega
theorem Jlk:FnB "__init__" "Duty.__init__" Jby:=by bv_omega
theorem Jll:FnB "size" "Duty.size" Jbz:=by bv_omega
theorem Jlm:FnB "work" "Duty.work" Jb0:=by bv_omega
theorem Jjs:FnB "crowd" "Duty.crowd" Jcy:=by bv_omega
theorem Jjt:FnB "__init__" "Order.__init__" Jbb:=by bv_omega
theorem Jfy:FnB "rank_of" "Order.rank_of" Ja3:=by bv_omega
theorem Jh9:FnB "holds" "Order.holds" Jb1:=by bv_omega
theorem Je4:FnB "pick" "Order.pick" Xr:=by bv_omega
theorem Jbp:FnB "standing" "Order.standing" Xs:=by bv_omega
theorem Jh8:FnB "__init__" "ByRank.__init__" Jau:=by bv_omega
theorem Jfg:FnB "rank_of" "ByRank.rank_of" Jad:=by bv_omega
theorem Jhl:FnB "holds" "ByRank.holds" Jak:=by bv_omega
theorem Jic:FnB "_law_cell_at" "_law_cell_at" Jax:=by bv_omega
theorem Jjv:FnB "_law_stream" "_law_stream" Jbd:=by bv_omega
theorem Jlq:FnB "_law_holds" "_law_holds" Jb4:=by bv_omega
theorem Jls:FnB "_law_plain" "_law_plain" Jb6:=by bv_omega
theorem Jlr:FnB "_law_lines" "_law_lines" Jb5:=by bv_omega
theorem Jpr:FnB "_law_row" "_law_row" Jeq:=by bv_omega
theorem Jid:FnB "_law_meeting" "_law_meeting" Jay:=by bv_omega
theorem J1z:FnScope QV.N QV.ps (JH QV.st):=scOk.of (by decide +kernel)
theorem J03 (X:K.In h)(G:h.Ns Z3 mg)(ha:W.nsIn K Z3 "law"=Za (Za (.ref a)))(hl:K.lookup a=Za ⟨oc,od,.func (W.fnOf "law" "law" (Q8 QV.st) (Qh QV.st) (JH QV.st) .none kV dc pm an cd ct),sl⟩)(hc:W.codeIn K cd "law"=Zi)(hk:W.keepIn K (.ref a)=Zi):∃fa fd,mg "law"=Za (.ref fa)/\DefOk K "law" QV fa fd/\∀(s:Zn) (v:Zg),Zc3 s fd ⟨[v],[]⟩ [("_law_script",v)] :=
 ⟨a,_,W.mg_of X G ha,Jvx (d:=QV) hl hc hk J1z rfl (len1 (λ _=>rfl)),λ s v=>.of_eq rfl⟩
theorem Yt (pg:W.plainGet K C Str.empty=Zi)(hd:W.hasDictIn K C=Zi)(po:W.plainOver K C=Zi)(sa:W.findIn K (.ref C) "__setattr__"=Za (Za (.builtin "object.__setattr__")))(h1:W.findIn K (.ref C) "__class__"=Za (Za (.builtin "object.__class__")))(h2:W.specialIn K (.builtin "object.__class__") "__get__"=Za (Za (.builtin "getset_descriptor.__get__")))(h3:W.takesIn K (.builtin "object.__class__")=Za Zi)(h4:W.mroIn K C (.type "object")=Za Zi)(n0:W.findIn K (.ref C) "append"=Za Zc)(n1:W.findIn K (.ref C) "dones"=Za Zc)(n2:W.findIn K (.ref C) "due"=Za Zc)(n3:W.findIn K (.ref C) "duty"=Za Zc)(n4:W.findIn K (.ref C) "extend"=Za Zc)(n5:W.findIn K (.ref C) "gap"=Za Zc)(n6:W.findIn K (.ref C) "hold_tuples"=Za Zc)(n7:W.findIn K (.ref C) "late"=Za Zc)(n8:W.findIn K (.ref C) "later"=Za Zc)(n9:W.findIn K (.ref C) "length"=Za Zc)(n10:W.findIn K (.ref C) "name"=Za Zc)(n11:W.findIn K (.ref C) "order"=Za Zc)(n12:W.findIn K (.ref C) "place"=Za Zc)(n13:W.findIn K (.ref C) "pop"=Za Zc)(n14:W.findIn K (.ref C) "remove"=Za Zc)(n15:W.findIn K (.ref C) "row"=Za Zc)(n16:W.findIn K (.ref C) "setdefault"=Za Zc)(n17:W.findIn K (.ref C) "stretches"=Za Zc)(n18:W.findIn K (.ref C) "tops"=Za Zc)(n19:W.findIn K (.ref C) "turn"=Za Zc)(n20:W.findIn K (.ref C) "waiting"=Za Zc)(n21:W.findIn K (.ref C) "works"=Za Zc):ClsI K C/\All (λ f=>QJ K C f) T.flds :=
 ⟨⟨⟨pg,hd,po,sa⟩,h1,h2,h3,h4⟩,.cons n0 (.cons n1 (.cons n2 (.cons n3 (.cons n4 (.cons n5 (.cons n6 (.cons n7 (.cons n8 (.cons n9 (.cons n10 (.cons n11 (.cons n12 (.cons n13 (.cons n14 (.cons n15 (.cons n16 (.cons n17 (.cons n18 (.cons n19 (.cons n20 (.cons n21 (.nil))))))))))))))))))))))⟩
theorem J02 (sp:W.specialIn K (.ref C) "__getattribute__"=Za (Za (.builtin "type.__getattribute__")))(rd:W.readsIn K C (.type "type")=Zi)(fi:W.findIn K (.ref C) "__init__"=Za (Za (.ref a)))(fc:W.findCls K (.ref C) (.type "type") "__init__"=Za (.val (.ref a)))(kp:W.keepIn K (.ref a)=Zi):BasK K C:=⟨sp,rd,a,fi,fc,kp⟩
abbrev DfO (K:W.Frag)(mg:Str->Option Zg)(x:Str)(d:D4):Prop:=∃fa fd,mg x=Za (.ref fa)/\DefOk K x d fa fd
abbrev DmO (K:W.Frag)(C:Zo)(x:Str)(d:D4):Prop:=∃fa fd,Meth K C x fa/\DefOk K x d fa fd
theorem fin {prog:ZB}{w:Zab}(X:K.In h)(G:h.Ns Z3 mg)(hfa:mg "law"=Za (.ref fa)){C_Work:Zo}{C_Bench:Zo}{C_Duty:Zo}{C_Order:Zo}{C_ByRank:Zo}{tk_MOST_LETTERS:Tok}{tk_MOST_HOLDS:Tok}{tk_THING:Tok}{tk_START:Tok}{tk_END:Tok}{tk_MOST_COMINGS:Tok}{tk_AT:Tok}{tk_COME:Tok}{tk_LATE:Tok}{tk_LENGTH:Tok}{tk_PLACE:Tok}{tk_FROM:Tok}{tk_UNTIL:Tok}{tk_MOST_WORKS:Tok}{tk_MOST_CROWD:Tok} 
  (aC_Work:W.nsIn K Z3 "Work"=Za (Za (.ref C_Work)))
  (aC_Bench:W.nsIn K Z3 "Bench"=Za (Za (.ref C_Bench)))
  (aC_Duty:W.nsIn K Z3 "Duty"=Za (Za (.ref C_Duty)))
  (aC_Order:W.nsIn K Z3 "Order"=Za (Za (.ref C_Order)))
  (aC_ByRank:W.nsIn K Z3 "ByRank"=Za (Za (.ref C_ByRank)))
  (f_is_whole:DfO K mg "is_whole" Jc5)
  (f_is_whole_from:DfO K mg "is_whole_from" Jag)
  (f_rounds_up:DfO K mg "rounds_up" Jcb)
  (f_is_name:DfO K mg "is_name" Jep)
  (f_is_hold:DfO K mg "is_hold" Jeo)
  (f_lie_apart:DfO K mg "lie_apart" Jb7)
  (f_lies_in:DfO K mg "lies_in" Jes)
  (f_go_together:DfO K mg "go_together" Jaw)
  (f_all_go_together:DfO K mg "all_go_together" Jac)
  (f_own_holds:DfO K mg "own_holds" Jb9)
  (f_own_due:DfO K mg "own_due" Jet)
  (f_ceilings:DfO K mg "ceilings" Jc3)
  (f_things_held:DfO K mg "things_held" Jaz)
  (f_lifted:DfO K mg "lifted" Jf5)
  (f_turns_held:DfO K mg "turns_held" Jbe)
  (f_longest_hold:DfO K mg "longest_hold" Jal)
  (f_hold_up:DfO K mg "hold_up" Jem)
  (f_comings_in:DfO K mg "comings_in" Jbc)
  (f_load:DfO K mg "load" Jni)
  (f_in_time:DfO K mg "in_time" Jen)
  (f_fits:DfO K mg "fits" Jnh)
  (f_answer:DfO K mg "answer" Jf3)
  (f_lets_by:DfO K mg "lets_by" Jer)
  (f_ready:DfO K mg "ready" Jjb)
  (f_due_at:DfO K mg "due_at" Jf4)
  (f_is_coming:DfO K mg "is_coming" Jb3)
  (f_first_wrong:DfO K mg "first_wrong" Jav)
  (f_checked:DfO K mg "checked" Jel)
  (f_next_stop:DfO K mg "next_stop" Jb8)
  (f_run:DfO K mg "run" Jth)
  (f_ends:DfO K mg "ends" Jng)
  (f_missed:DfO K mg "missed" Jf6)
  (f_own_works:DfO K mg "own_works" Jca)
  (f_crowd_of:DfO K mg "crowd_of" Jc4)
  (f_law_cell_at:DfO K mg "_law_cell_at" Jax)
  (f_law_stream:DfO K mg "_law_stream" Jbd)
  (f_law_holds:DfO K mg "_law_holds" Jb4)
  (f_law_plain:DfO K mg "_law_plain" Jb6)
  (f_law_lines:DfO K mg "_law_lines" Jb5)
  (f_law_row:DfO K mg "_law_row" Jeq)
  (f_law_meeting:DfO K mg "_law_meeting" Jay)
  (f_law:∃fa fd,mg "law"=Za (.ref fa)/\DefOk K "law" QV fa fd/\∀(s:Zn) (v:Zg),Zc3 s fd ⟨[v],[]⟩ [("_law_script",v)])
  (i_Work:∃fa fd,Mk K C_Work fa/\DefOk K "__init__" Qu fa fd)
  (m_Work_held:DmO K C_Work "held" Jb2)
  (c_Work:ClsI K C_Work/\All (λ f=>QJ K C_Work f) T.flds)
  (i_Bench:∃fa fd,Mk K C_Bench fa/\DefOk K "__init__" Ja9 fa fd)
  (m_Bench_next_ready:DmO K C_Bench "next_ready" Jaa)
  (m_Bench_let_in:DmO K C_Bench "let_in" Jaj)
  (m_Bench_turns_for:DmO K C_Bench "turns_for" Jab)
  (m_Bench_tell:DmO K C_Bench "tell" Jba)
  (m_Bench_go_on:DmO K C_Bench "go_on" Jat)
  (c_Bench:ClsI K C_Bench/\All (λ f=>QJ K C_Bench f) T.flds)
  (i_Duty:∃fa fd,Mk K C_Duty fa/\DefOk K "__init__" Jby fa fd)
  (m_Duty_size:DmO K C_Duty "size" Jbz)
  (m_Duty_work:DmO K C_Duty "work" Jb0)
  (m_Duty_crowd:DmO K C_Duty "crowd" Jcy)
  (c_Duty:ClsI K C_Duty/\All (λ f=>QJ K C_Duty f) T.flds)
  (i_Order:∃fa fd,Mk K C_Order fa/\DefOk K "__init__" Jbb fa fd)
  (m_Order_rank_of:DmO K C_Order "rank_of" Ja3)
  (m_Order_holds:DmO K C_Order "holds" Jb1)
  (m_Order_pick:DmO K C_Order "pick" Xr)
  (m_Order_standing:DmO K C_Order "standing" Xs)
  (c_Order:ClsI K C_Order/\All (λ f=>QJ K C_Order f) T.flds)
  (i_ByRank:∃fa fd,Mk K C_ByRank fa/\DefOk K "__init__" Jau fa fd)
  (m_ByRank_rank_of:DmO K C_ByRank "rank_of" Jad)
  (m_ByRank_holds:DmO K C_ByRank "holds" Jak)
  (m_ByRank_pick:DmO K C_ByRank "pick" Xr)
  (m_ByRank_standing:DmO K C_ByRank "standing" Xs)
  (c_ByRank:ClsI K C_ByRank/\All (λ f=>QJ K C_ByRank f) T.flds)
  (g_MOST_LETTERS:W.nsIn K Z3 "MOST_LETTERS"=Za (Za (.int 8 tk_MOST_LETTERS)))
  (g_MOST_HOLDS:W.nsIn K Z3 "MOST_HOLDS"=Za (Za (.int 6 tk_MOST_HOLDS)))
  (g_THING:W.nsIn K Z3 "THING"=Za (Za (.int 0 tk_THING)))
  (g_START:W.nsIn K Z3 "START"=Za (Za (.int 1 tk_START)))
  (g_END:W.nsIn K Z3 "END"=Za (Za (.int 2 tk_END)))
  (g_MOST_COMINGS:W.nsIn K Z3 "MOST_COMINGS"=Za (Za (.int 200 tk_MOST_COMINGS)))
  (g_AT:W.nsIn K Z3 "AT"=Za (Za (.int 0 tk_AT)))
  (g_COME:W.nsIn K Z3 "COME"=Za (Za (.int 1 tk_COME)))
  (g_LATE:W.nsIn K Z3 "LATE"=Za (Za (.int 2 tk_LATE)))
  (g_LENGTH:W.nsIn K Z3 "LENGTH"=Za (Za (.int 3 tk_LENGTH)))
  (g_PLACE:W.nsIn K Z3 "PLACE"=Za (Za (.int 0 tk_PLACE)))
  (g_FROM:W.nsIn K Z3 "FROM"=Za (Za (.int 1 tk_FROM)))
  (g_UNTIL:W.nsIn K Z3 "UNTIL"=Za (Za (.int 2 tk_UNTIL)))
  (g_MOST_WORKS:W.nsIn K Z3 "MOST_WORKS"=Za (Za (.int 12 tk_MOST_WORKS)))
  (g_MOST_CROWD:W.nsIn K Z3 "MOST_CROWD"=Za (Za (.int 80 tk_MOST_CROWD)))
  (k_Work_NoneType:W.kitOne K (.type "NoneType") (.ref C_Work)=Za Zk)
  (k_Work_bool:W.kitOne K (.type "bool") (.ref C_Work)=Za Zk)
  (k_Work_int:W.kitOne K (.type "int") (.ref C_Work)=Za Zk)
  (k_Work_str:W.kitOne K (.type "str") (.ref C_Work)=Za Zk)
  (k_Work_list:W.kitOne K (.type "list") (.ref C_Work)=Za Zk)
  (k_Work_tuple:W.kitOne K (.type "tuple") (.ref C_Work)=Za Zk)
  (k_Work_dict:W.kitOne K (.type "dict") (.ref C_Work)=Za Zk)
  (k_Work_Work:W.kitOne K (.ref C_Work) (.ref C_Work)=Za (memS "Work" ["Work"]))
  (k_Work_Bench:W.kitOne K (.ref C_Bench) (.ref C_Work)=Za (memS "Bench" ["Work"]))
  (k_Work_Duty:W.kitOne K (.ref C_Duty) (.ref C_Work)=Za (memS "Duty" ["Work"]))
  (k_Work_Order:W.kitOne K (.ref C_Order) (.ref C_Work)=Za (memS "Order" ["Work"]))
  (k_Work_ByRank:W.kitOne K (.ref C_ByRank) (.ref C_Work)=Za (memS "ByRank" ["Work"]))
  (z_all:W.nsIn K Z3 "all"=Za Zc)
  (z_bool:W.nsIn K Z3 "bool"=Za Zc)
  (z_enumerate:W.nsIn K Z3 "enumerate"=Za Zc)
  (z_int:W.nsIn K Z3 "int"=Za Zc)
  (z_isinstance:W.nsIn K Z3 "isinstance"=Za Zc)
  (z_len:W.nsIn K Z3 "len"=Za Zc)
  (z_list:W.nsIn K Z3 "list"=Za Zc)
  (z_max:W.nsIn K Z3 "max"=Za Zc)
  (z_min:W.nsIn K Z3 "min"=Za Zc)
  (z_range:W.nsIn K Z3 "range"=Za Zc)
  (z_set:W.nsIn K Z3 "set"=Za Zc)
  (z_sorted:W.nsIn K Z3 "sorted"=Za Zc)
  (z_str:W.nsIn K Z3 "str"=Za Zc)
  (z_sum:W.nsIn K Z3 "sum"=Za Zc)
  (z_tuple:W.nsIn K Z3 "tuple"=Za Zc)
  (bs_Order:BasK K C_Order)
  : ∃fd:Za2,(∀(s:Zn) (v:Zg),Zc3 s fd ⟨[v],[]⟩ [("_law_script",v)])/\∀base:Zau,K.In base->base.Ns Z3 mg->Q5 mg base->FnOk prog w K mg base (CXI prog w) 64 fa fd ["_law_script"] (XH K "_law_script" (Xm 16)):=by
 obtain⟨fa',fd,hm,ok,hb⟩:=f_law
 have e:=hfa.symm.trans hm
 cases e
 have O:TabOk (ceOf [("Work",C_Work),("Bench",C_Bench),("Duty",C_Duty),("Order",C_Order),("ByRank",C_ByRank)]) T K mg:=J16 _
  (.cons (f_is_whole) (.cons (f_is_whole_from) (.cons (f_rounds_up) (.cons (f_is_name) (.cons (f_is_hold) (.cons (f_lie_apart) (.cons (f_lies_in) (.cons (f_go_together) (.cons (f_all_go_together) (.cons (f_own_holds) (.cons (f_own_due) (.cons (f_ceilings) (.cons (f_things_held) (.cons (f_lifted) (.cons (f_turns_held) (.cons (f_longest_hold) (.cons (f_hold_up) (.cons (f_comings_in) (.cons (f_load) (.cons (f_in_time) (.cons (f_fits) (.cons (f_answer) (.cons (f_lets_by) (.cons (f_ready) (.cons (f_due_at) (.cons (f_is_coming) (.cons (f_first_wrong) (.cons (f_checked) (.cons (f_next_stop) (.cons (f_run) (.cons (f_ends) (.cons (f_missed) (.cons (f_own_works) (.cons (f_crowd_of) (.cons (f_law_cell_at) (.cons (f_law_stream) (.cons (f_law_holds) (.cons (f_law_plain) (.cons (f_law_lines) (.cons (f_law_row) (.cons (f_law_meeting) (.cons (⟨_,_,hm,ok⟩) (.nil)))))))))))))))))))))))))))))))))))))))))))
  (.cons ((let ⟨fa,fd,p,q⟩:=i_Work;⟨C_Work,fa,fd,W.mg_of X G aC_Work,02,p,q⟩)) (.cons ((let ⟨fa,fd,p,q⟩:=i_Bench;⟨C_Bench,fa,fd,W.mg_of X G aC_Bench,02,p,q⟩)) (.cons ((let ⟨fa,fd,p,q⟩:=i_Duty;⟨C_Duty,fa,fd,W.mg_of X G aC_Duty,02,p,q⟩)) (.cons ((let ⟨fa,fd,p,q⟩:=i_Order;⟨C_Order,fa,fd,W.mg_of X G aC_Order,02,p,q⟩)) (.cons ((let ⟨fa,fd,p,q⟩:=i_ByRank;⟨C_ByRank,fa,fd,W.mg_of X G aC_ByRank,02,p,q⟩)) (.nil))))))
  (.cons (⟨C_Work,02,.cons (m_Work_held) (.nil)⟩) (.cons (⟨C_Bench,02,.cons (m_Bench_next_ready) (.cons (m_Bench_let_in) (.cons (m_Bench_turns_for) (.cons (m_Bench_tell) (.cons (m_Bench_go_on) (.nil)))))⟩) (.cons (⟨C_Duty,02,.cons (m_Duty_size) (.cons (m_Duty_work) (.cons (m_Duty_crowd) (.nil)))⟩) (.cons (⟨C_Order,02,.cons (m_Order_rank_of) (.cons (m_Order_holds) (.cons (m_Order_pick) (.cons (m_Order_standing) (.nil))))⟩) (.cons (⟨C_ByRank,02,.cons (m_ByRank_rank_of) (.cons (m_ByRank_holds) (.cons (m_ByRank_pick) (.cons (m_ByRank_standing) (.nil))))⟩) (.nil))))))
  (.cons (⟨_,.int 8,W.mg_of X G g_MOST_LETTERS,⟨tk_MOST_LETTERS,rfl⟩,λ _ _=>rfl⟩) (.cons (⟨_,.int 6,W.mg_of X G g_MOST_HOLDS,⟨tk_MOST_HOLDS,rfl⟩,λ _ _=>rfl⟩) (.cons (⟨_,.int 0,W.mg_of X G g_THING,⟨tk_THING,rfl⟩,λ _ _=>rfl⟩) (.cons (⟨_,.int 1,W.mg_of X G g_START,⟨tk_START,rfl⟩,λ _ _=>rfl⟩) (.cons (⟨_,.int 2,W.mg_of X G g_END,⟨tk_END,rfl⟩,λ _ _=>rfl⟩) (.cons (⟨_,.int 200,W.mg_of X G g_MOST_COMINGS,⟨tk_MOST_COMINGS,rfl⟩,λ _ _=>rfl⟩) (.cons (⟨_,.int 0,W.mg_of X G g_AT,⟨tk_AT,rfl⟩,λ _ _=>rfl⟩) (.cons (⟨_,.int 1,W.mg_of X G g_COME,⟨tk_COME,rfl⟩,λ _ _=>rfl⟩) (.cons (⟨_,.int 2,W.mg_of X G g_LATE,⟨tk_LATE,rfl⟩,λ _ _=>rfl⟩) (.cons (⟨_,.int 3,W.mg_of X G g_LENGTH,⟨tk_LENGTH,rfl⟩,λ _ _=>rfl⟩) (.cons (⟨_,.int 0,W.mg_of X G g_PLACE,⟨tk_PLACE,rfl⟩,λ _ _=>rfl⟩) (.cons (⟨_,.int 1,W.mg_of X G g_FROM,⟨tk_FROM,rfl⟩,λ _ _=>rfl⟩) (.cons (⟨_,.int 2,W.mg_of X G g_UNTIL,⟨tk_UNTIL,rfl⟩,λ _ _=>rfl⟩) (.cons (⟨_,.int 12,W.mg_of X G g_MOST_WORKS,⟨tk_MOST_WORKS,rfl⟩,λ _ _=>rfl⟩) (.cons (⟨_,.int 80,W.mg_of X G g_MOST_CROWD,⟨tk_MOST_CROWD,rfl⟩,λ _ _=>rfl⟩) (.nil))))))))))))))))
  (.cons (c_Work) (.cons (c_Bench) (.cons (c_Duty) (.cons (c_Order) (.cons (c_ByRank) (.nil))))))
  (.cons (⟨C_Work,W.mg_of X G aC_Work,k_Work_NoneType,k_Work_bool,k_Work_int,k_Work_str,k_Work_list,k_Work_tuple,k_Work_dict,.cons (k_Work_Work) (.cons (k_Work_Bench) (.cons (k_Work_Duty) (.cons (k_Work_Order) (.cons (k_Work_ByRank) (.nil)))))⟩) (.nil))
  (.cons (W.mg_none_of X G z_all) (.cons (W.mg_none_of X G z_bool) (.cons (W.mg_none_of X G z_enumerate) (.cons (W.mg_none_of X G z_int) (.cons (W.mg_none_of X G z_isinstance) (.cons (W.mg_none_of X G z_len) (.cons (W.mg_none_of X G z_list) (.cons (W.mg_none_of X G z_max) (.cons (W.mg_none_of X G z_min) (.cons (W.mg_none_of X G z_range) (.cons (W.mg_none_of X G z_set) (.cons (W.mg_none_of X G z_sorted) (.cons (W.mg_none_of X G z_str) (.cons (W.mg_none_of X G z_sum) (.cons (W.mg_none_of X G z_tuple) (.nil))))))))))))))))
  (.cons (⟨C_Order,W.mg_of X G aC_Order,bs_Order⟩) (.nil))
 exact⟨fd,hb,λ base _ _ B=>Jxw O (λ _=>B) 16 rfl ok⟩
end
end LW
open PySem L2
theorem LW.walk {l:W.OpenLaw}{q:ZB}{loose:List Str}{XP:(Str->Option Zg)->Zau->Prop}{YP:Zab->Zau->Prop}{d:DefRec}{K:Params->W.Frag}{ts:List Zo}(hn:l.most=Za 63)(hdf:d.params.defaults=[]) 
  (hY:∀(w:Zab) (h:Zau),YP w h->(K w.params).In h/\∀p∈ts,h.get? p=Za (W.tabObj #[]))(hc:∀w:Zab,L4.Vl (K w.params) ["Order.pick","Bench.__init__","longest_hold"] ts=Zi)
  (F:∀(w:Zab)(mg:Str->Option Zg)(fa:Zo)(h:Zau),(K w.params).In h->h.Ns Z3 mg->mg d.name=Za (.ref fa) ->
   ∃fd:Za2,(∀(s:Zn) (u:Zg),Zc3 s fd ⟨[u],[]⟩ [("_law_script",u)])/\∀base:Zau,(K w.params).In base->base.Ns Z3 mg->L3.Q5 mg base->FnOk l.prog w (K w.params) mg base (L3.CXI l.prog w) 64 fa fd ["_law_script"] (L3.XH (K w.params) "_law_script" (LW.Xm 16))) :
  W.WalkO q loose XP YP l.row.toRowW d [] (λ f vs=>PySem.call f vs) :=
 L4.Jvb (n:=63) (k:=64) (x:="_law_script") (f:=LW.Xm 16) (qs:=["Order.pick","Bench.__init__","longest_hold"]) (ts:=ts) hn 01 hdf ⟨rfl,01,01⟩ hY hc F λ ns hl=>LW.Jt6 ns hl
open PySem PySem.W PyProof.Rows
structure PySem.W.Fast:Prop where (tw14448237848201821428 tw13386223986250519236 tw4615655860800320879 tw5509891029129751530 tw2522633886542046677 tw11208168285694679962 tw2817578382205387348 tw3854266058032128333 tw1442789552876245982 tw15289162219819797727
tw17766379619758369430 tw928619136336482434 tw290596081901153093 tw7043213433585582162 tw4786383260418168611 tw15666316705850924746 tw9122363423389111776 tw6807042733432235863 tw10114030919948512882 tw9679319283632920742
tw5794730297762387988 tw2990875457071914028 tw12296858633105230847 tw11427256527638534769 tw5740978684366559407 tw16103052785565980410 tw17332376334010090424 tw3620290632171081749 tw18336417820593751659 tw2340042049296458712
tw15465591816492850934 tw9078774252309344627 tw3276273434636195104 tw12376878125499926099 tw1076629739157458807 tw1708793937592245724 tw17807097828958416584 tw11113311766528316030 tw5002177264092756476 tw18072862578448582395
tw6625932285508751462 tw17769942294013689610 tw4657089918469180592 tw5625061056556524862 tw3855511948217078605 tw13414789393780671337 tw3666210601435201387 tw10589400689201385995 tw12645284780172469741 tw6840031524948081369
tw16591342950919688110 tw4726375875537098868 tw1229877160086371147 tw6902529174883479444 tw9302160214734983786 tw10308940189240501905 tw16340676153873482829 tw18347615953986219616 tw5910123752294571175 tw7240436329889914991
tw10741441961227704354 tw5494208005553385039 tw9999990096048480645 tw16856107527878201669 tw7129047427959806987 tw2473603949707338318 tw5710874343188166881 tw7652899799582265687 tw7562958681158507648 tw790692718366368575
tw8212420309645184382 tw16401583920972962098 tw8536064173292955883 tw3884765031114790313 tw3441656806367274352 tw4850559031174564423 tw16029341334941263482 tw12792009186625177608 tw16704874691767300787 tw14043407843202536451
tw6447160852188164092 tw15331018325586656837 tw10099758756947485822 tw4217354808384791582 tw18266621233782975116 tw2640447258224326416 tw12509399598063364620 tw17942973631090739747 tw5246111941363543396 tw10316955842374801502
tw14551862595268030183 tw4709926217340830526 tw683932968461534571 tw4576426297663850775 tw10270915455170782701 tw7694616012674906566 tw12485620520846872179 tw13384833825724750312 tw9846162472253643504 tw7497032136587847154
tw15265659396493550616 tw12691506362435960908 tw6335049719306812102 tw12333824597381805909 tw5040312618394957984 tw17312798220403781712 tw8541210938839489480 tw3199289217951729874 tw12231371038224963355 tw8792377043886951002
tw1898734214570020405 tw3632275456829351721 tw9900451102300085933 tw17828872794428568162 tw17162501708202251210 tw1037461934022033091 tw6806952051755804275 tw4233687193294794992 tw16627210238693179251 tw12408245243394904914
tw107319499430540147 tw5267141528075716957 tw9115203775221431867 tw8859884442779833690 tw9767980829702246443 tw2295136775923637354 tw10268106442913401050 tw16133413969585295589 tw14687233431207137759 tw6262142212942795864
tw7174740641322544445 tw4111260513397011679 tw17779077124290456749 tw9676145313338476064 tw2794800408168575077 tw12134437743355671598 tw13181165089647072829 tw12916440897293862897 tw11473627313186741755 tw7266530358524815989
tw1807940523895764351 tw13895668120862098932 tw12840021760541884055 tw1458050961116442302 tw7556591853568361176 tw18072964923202857569 tw6288686017123247891 tw11860505721692967580 tw7667034217418564051 tw16577393104951949677
tw9630783997714907108 tw3413025235658543770 tw12208419080779134493 tw12951660109986519995 tw12388832472906906720 tw9125297372691180336 tw2879394580725363214 tw5227351445712273780 tw2036253788017049247 tw1974547732476605219
tw67450354819750643 tw2410283050303872702 tw5143838493385785215 tw16281466044766384940 tw4710242405084393360 tw17998977694652522374 tw4272338241525582870 tw724720453706489029 tw4070093170762793512 tw6861946629360269822
tw15299476363635612733 tw2439485442117064321 tw9438471091208325525 tw13637400756715073037 tw2553267868756605452 tw11334923032192460848 tw9702206606432138451 tw9779603991277691212 tw467623502395204045 tw7668658667316343134
tw4830191121099460374 tw778070493010991135 tw9818396985608177347 tw479525569260908692 tw15539662864888666 tw9504007111846859631 tw18058552883716907822 tw4694238543826186677 tw2930206646014298404 tw6854099089702306971
tw15694632513090104238 tw8089228137621933170 tw4522665980172909182 tw3272884279399037699 tw5471509731036178931 tw1544456643591162373 tw7352265653294883999 tw3614996646672007166 tw4714874718049630251 tw11645556775160846301
tw11276731847127840853 tw8365008890150627332 tw877179937998094203 tw7304856616068158832 tw12949222236252031558 tw1249381838282802157 tw10244774871412648139 tw9253874173292218163 tw10883292134491829532 tw15885732759651369040
tw13007993740442441898 tw9215938328848991114 tw14786809997514022798 tw16424660208331485226 tw4252738508737459170 tw10796911553910947897 tw3844767644863693957 tw12659772758223141803 tw5550495521378683318 tw12140636794127180021
tw7671637431671917281 tw3299390850423816187 tw8588881470824482321 tw12810051550399849740 tw8714459315143979784 tw13052326427147136404 tw3360908999636299701 tw12409896572537622687 tw12995148515261234399 tw9519432061767866960
tw8809960042461036609 tw17128006036268452986 tw6921876211802539225 tw3723409897347751414 tw13290813833529293323 tw11867292903927503315 tw2618639983185546527 tw4193641639645313518 tw6909579800987663630 tw7523886982775984636
tw917348689022436352 tw5439641105197203661 tw2446491060474202823 tw5272549912790070163 tw7461526023860521541 tw13770262523701580484 tw16595970515161772192 tw5669540139123174357 tw16274858343626919614 tw11194009409362265559
tw6974113202233627734 tw7338550469309897017 tw16433006884290707655 tw6699238324422909797 tw9247139975370135130 tw3028171423839348824 tw12028292905655337523 tw182814897789207231 tw10101716037693963123 tw13385480329902617590
tw8961081000994781529 tw13470628319995487605 tw6912343144629040019 tw8779007742497262668 tw8437135131123517289 tw7132202680325825229 tw16224412935179748066 tw17447706393040849797 tw4976013763874721953 tw4758402546756277983
tw3977065269259888204 tw8650154713199269051 tw7741205074968804590 tw10880901095769429283 tw16557754018349435324 tw15995163203788200378 tw17661158289976232746 tw2688827894368331359 tw1051737262336125447 tw8367900000934582717
tw13993237851283956979 tw3977585850789208056 tw6671506689966251542 tw1078905390962283297 tw291323319581062632 tw5496680743264074245 tw4204131835788981119 tw7895099060163493665 tw4178518313808353348 tw14378908370964594283
tw5056531743806957674 tw13240690110182902747 tw559598583301527405 tw9398439088501932432 tw6826973037429469865 tw13845424801400341313 tw13618956480520861514 tw8166128850456360285 tw14260033260793954459 tw11217583394859386211
tw11931011142785626360 tw6296363757522716163 tw12259793207965013124 tw3114139255987013299 tw13965814823500215262 tw2652048145078051433 tw10828877236797210223 tw17405526439540017222 tw10759348982716585787 tw18132419334797253743
tw10899315751107286724 tw12357545675756183100 tw2505348094940299047 tw7556461265260715214 tw14984549559055238674 tw6732105314820002814 tw10271348885513589 tw6637162359671770369 tw6086784729321371576 tw10566952566029481913
tw16656829109886161355 tw3834181120304299287 tw6037726820060459386 tw8129477587033128361 tw16540510336349990643 tw14418091438195351684 tw16219474606329643408 tw2177873908151290072 tw7622391777184565237 tw10542148570026490636
tw17766050389967180156 tw13170767007644643445 tw13668806297945030379 tw12535683519677200054 tw18346630302020160837 tw15676740031667636869 tw3554213659806419314 tw16792655483830072437 tw14300196466598400322 tw5543959693670437302
tw2676352719313844503 tw12586459343771438080 tw4848381146565808735 tw2798186340477248614 tw4676571440881971686 tw11361345948405250963 tw8515116512598665115 tw10744441876579057276 tw9532021040187357320 tw8636369029600677267
tw9464137780819616660 tw2376267005521484768 tw17857323337184621347 tw6678895595513179106 tw8301250432710734309 tw10221477735259800277 tw14578083209547628396 tw3099375366332582684 tw2515330663408127113 tw5349146871450610248
tw8636246042723043806 tw4864087010939429738 tw9743595017018010110 tw17733294588352375227 tw10235657004931777032 tw10257860932123488521 tw620846955015647078 tw16706909153348417619 tw7127191849204396454 tw9894246531417732100
tw297751477799077642 tw15820649764207509805 tw4603816338491955214 tw11812253871054020106 tw6688283797192654450 tw6148567835306220053 tw343004213574329691 tw802238231557795269 tw17263389402870837405 tw5883252257614631173
tw12537501955389476274 tw17970373721425247088 tw1935393263275581935 tw2552725503868284538 tw12120701335549289486 tw5916243842651733506 tw15853000063435288864 tw16883475542558390207 tw17968434341907130603 tw5490737557181074946
tw868243391038097007 tw13037984357014310498 tw11937463818782432604 tw9254355787379393404 tw958008265386459742 tw15655489017445110785 tw14573512814356170508 tw9861651364603377787 tw14327956972903372939 tw13097643046103195105
tw6795882228092442309 tw34518899050586702 tw13695011668142887960 tw9844845574048693702 tw5977743038234179038 tw394543692342141689 tw3315412522231810699 tw1348693505903677708 tw11703326278949066564 tw6270177283128351290
tw13371137202444004499 tw12828096809461741609 tw11942493027890478471 tw2188537452198316506 tw9331754141743532006 tw17471822467516538242 tw3422228508297819591 tw14010293616915838468 tw11392709177275903118 tw3517585704994012240
tw6645163597011219104 tw11590008353874405688 tw5345832606237134963 tw15736000561614153569 tw6464757231412791916 tw15935337913524958530 tw8138530907201627892 tw4975829317451161329 tw16472631805197919559 tw14622675424110302138
tw13250034580184179713 tw489044504296078634 tw1469194894042440833 tw14179257497277350021 tw11424648154036132888 tw9144333352410777241 tw9984931364361916939 tw10173234574277006246 tw2697072222450278442 tw11089175767387772641
tw11545559602425273741 tw5807494067312148764 tw9421085942380210954 tw7462164010898228378 tw480922563125606788 tw5859209896881775601 tw17615231690226854736 tw7517750939704836655 tw15883131336178061160 tw5726164561942693905
tw1160009993005210825 tw6891945805361410806 tw1575172922581209228 tw5784984080118324323 tw13367571781980053195 tw17377242751066214985 tw15575958272689953404 tw5228103598859532350 tw9455766893590424393 tw15354402866918094844
tw5820169470366744406 tw4616005150791462298 tw8398643060869509696 tw7903984470057098559 tw14066305997243197045 tw4948173719891186322 tw56504367763819597 tw10968538583946249234 tw12814411315884628071 tw2341266778726897837
tw14436249887145236897:True)
set_option maxRecDepth 100000 in
set_option maxHeartbeats 0 in
theorem PySem.Challenge.cw_dutyproof_k45_whole_papers_keep_holds : PySem.Challenge.rw_dutyproof_k45_whole_papers_keep.Holds := by
 w_on;o_law;k_head;(case hw=>w_witness2)
 k_fill
 refine LW.walk (l:=PySem.Challenge.rw_dutyproof_k45_whole_papers_keep) rfl rfl (λ w h Y=>⟨W.km_in_of Y,W.km_tabs_of Y⟩) ?HC ?F
 case HC=>exact λ w=>by kernel_rfl
 case F =>
  intro w mg fa h KX G hmg
  refine' LW.fin KX G hmg ?aA ?aB ?aD ?aE ?aF ?aG ?aH ?aI ?aJ ?aK ?aL ?aM ?aN ?aO ?aP ?aQ ?aR ?aS ?aT ?aU ?aV ?aW ?aX ?aY ?aZ ?bA ?bB ?bC ?bD ?bE ?bF ?bG ?bH ?bI ?bJ ?bK ?bL ?bM ?bN ?bO ?bP ?bQ ?bR ?bS ?bT ?bU ?bV ?bW ?bX ?bY ?bZ ?cA ?cB ?cC ?cD ?cE ?cF ?cG ?cH ?cI ?cJ ?cL ?cM ?cN ?cO ?cP ?cQ ?cR ?cT ?cU ?cV ?cW ?cX ?cY ?cZ ?dA ?dB ?dC ?dD ?dE ?dF ?dG ?dH ?dI ?dJ ?dK ?dL ?dM ?dN ?dO ?dP ?dQ ?dR ?dS ?dT ?dU ?dV ?dW ?dX ?dY ?dZ ?eA ?eB ?eC ?eD ?eE ?eF ?eG ?eH ?eI ?eJ ?eK ?eL ?eM ?eN ?eO ?eP
  (case aA|aB|aD|aE|aF=>k_is)
  (case aG=>exact L4.Jz KX G LW.Jmx)
  (case aH=>exact L4.Jz KX G LW.Jfz)
  (case aI=>exact L4.Jz KX G LW.Jlx)
  (case aJ=>exact L4.Jz KX G LW.Jpq)
  (case aK=>exact L4.Jz KX G LW.Jpp)
  (case aL=>exact L4.Jz KX G LW.Jlt)
  (case aM=>exact L4.Jz KX G LW.Jpt)
  (case aN=>exact L4.Jz KX G LW.Jib)
  (case aO=>exact L4.Jz KX G LW.Je5)
  (case aP=>exact L4.Jz KX G LW.Jlv)
  (case aQ=>exact L4.Jz KX G LW.Jpu)
  (case aR=>exact L4.Jz KX G LW.Jmv)
  (case aS=>exact L4.Jz KX G LW.Jie)
  (case aT=>exact L4.Jz KX G LW.Jsf)
  (case aU=>exact L4.Jz KX G LW.Jjw)
  (case aV=>exact L4.Jz KX G LW.Jhm)
  (case aW=>exact L4.Jz KX G LW.Jpn)
  (case aX=>exact L4.Jz KX G LW.Jju)
  (case aY=>exact L4.Jz KX G LW.Jyu)
  (case aZ=>exact L4.Jz KX G LW.Jpo)
  (case bA=>exact L4.Jz KX G LW.Jyt)
  (case bB=>exact L4.Jz KX G LW.Jsd)
  (case bC=>exact L4.Jz KX G LW.Jps)
  (case bD=>exact L4.Jz KX G LW.Juu)
  (case bE=>exact L4.Jz KX G LW.Jse)
  (case bF=>exact L4.Jz KX G LW.Jlp)
  (case bG=>exact L4.Jz KX G LW.Jia)
  (case bH=>exact L4.Jz KX G LW.Jpm)
  (case bI=>exact L4.Jz KX G LW.Jlu)
  (case bJ=>exact L4.Jz KX G LW.J10)
  (case bK=>exact L4.Jz KX G LW.Jys)
  (case bL=>exact L4.Jz KX G LW.Jsg)
  (case bM=>exact L4.Jz KX G LW.Jlw)
  (case bN=>exact L4.Jz KX G LW.Jmw)
  (case bO=>exact L4.Jz KX G LW.Jic)
  (case bP=>exact L4.Jz KX G LW.Jjv)
  (case bQ=>exact L4.Jz KX G LW.Jlq)
  (case bR=>exact L4.Jz KX G LW.Jls)
  (case bS=>exact L4.Jz KX G LW.Jlr)
  (case bT=>exact L4.Jz KX G LW.Jpr)
  (case bU=>exact L4.Jz KX G LW.Jid)
  (case bV=>(refine' LW.J03 KX G ?eQ ?eR ?eS ?eT;(case eQ|eR|eS|eT=>k_is)))
  (case bW=>(refine' LW.Jlb ?eU ?eV ?eW ?eX ?eY ?eZ ?fA ?fB;(case eU|eV|eW|eX|eY|eZ|fA|fB=>k_is)))
  (case bX=>exact L4.Qj LW.Jln)
  (case bY=>(refine' LW.Yt ?fC ?fD ?fE ?fF ?fG ?fH ?fI ?fJ ?fK ?fL ?fM ?fN ?fO ?fP ?fQ ?fR ?fS ?fT ?fU ?fV ?fW ?fX ?fY ?fZ ?gA ?gB ?gC ?gD ?gE ?gF;(case fC|fD|fE|fF|fG|fH|fI|fJ|fK|fL|fM|fN|fO|fP|fQ|fR|fS|fT|fU|fV|fW|fX|fY|fZ|gA|gB|gC|gD|gE|gF=>k_is)))
  (case bZ=>exact L4.Jug LW.Jjq)
  (case cA=>exact L4.Qj LW.Jdr)
  (case cB=>exact L4.Qj LW.Jhk)
  (case cC=>exact L4.Qj LW.Je3)
  (case cD=>exact L4.Qj LW.Jjr)
  (case cE=>exact L4.Qj LW.Jh7)
  (case cF=>(refine' LW.Yt ?gG ?gH ?gI ?gJ ?gK ?gL ?gM ?gN ?gO ?gP ?gQ ?gR ?gS ?gT ?gU ?gV ?gW ?gX ?gY ?gZ ?iA ?iB ?iC ?iD ?iE ?iF ?iG ?iH ?iI ?iJ;(case gG|gH|gI|gJ|gK|gL|gM|gN|gO|gP|gQ|gR|gS|gT|gU|gV|gW|gX|gY|gZ|iA|iB|iC|iD|iE|iF|iG|iH|iI|iJ=>k_is)))
  (case cG=>exact L4.Jug LW.Jlk)
  (case cH=>exact L4.Qj LW.Jll)
  (case cI=>exact L4.Qj LW.Jlm)
  (case cJ=>exact L4.Qj LW.Jjs)
  (case cL=>(refine' LW.Yt ?iK ?iL ?iM ?iN ?iO ?iP ?iQ ?iR ?iS ?iT ?iU ?iV ?iW ?iX ?iY ?iZ ?jA ?jB ?jC ?jD ?jE ?jF ?jG ?jH ?jI ?jJ ?jK ?jL ?jM ?jN;(case iK|iL|iM|iN|iO|iP|iQ|iR|iS|iT|iU|iV|iW|iX|iY|iZ|jA|jB|jC|jD|jE|jF|jG|jH|jI|jJ|jK|jL|jM|jN=>k_is)))
  (case cM=>exact L4.Jug LW.Jjt)
  (case cN=>exact L4.Qj LW.Jfy)
  (case cO=>exact L4.Qj LW.Jh9)
  (case cP=>exact L4.Qj LW.Je4)
  (case cQ=>exact L4.Qj LW.Jbp)
  (case cR=>(refine' LW.Yt ?jO ?jP ?jQ ?jR ?jS ?jT ?jU ?jV ?jW ?jX ?jY ?jZ ?lA ?lB ?lC ?lD ?lE ?lF ?lG ?lH ?lI ?lJ ?lK ?lL ?lM ?lN ?lO ?lP ?lQ ?lR;(case jO|jP|jQ|jR|jS|jT|jU|jV|jW|jX|jY|jZ|lA|lB|lC|lD|lE|lF|lG|lH|lI|lJ|lK|lL|lM|lN|lO|lP|lQ|lR=>k_is)))
  (case cT=>exact L4.Jug LW.Jh8)
  (case cU=>exact L4.Qj LW.Jfg)
  (case cV=>exact L4.Qj LW.Jhl)
  (case cW=>exact L4.Qj LW.Je4)
  (case cX=>exact L4.Qj LW.Jbp)
  (case cY=>(refine' LW.Yt ?lS ?lT ?lU ?lV ?lW ?lX ?lY ?lZ ?mA ?mB ?mC ?mD ?mE ?mF ?mG ?mH ?mI ?mJ ?mK ?mL ?mM ?mN ?mO ?mP ?mQ ?mR ?mS ?mT ?mU ?mV;(case lS|lT|lU|lV|lW|lX|lY|lZ|mA|mB|mC|mD|mE|mF|mG|mH|mI|mJ|mK|mL|mM|mN|mO|mP|mQ|mR|mS|mT|mU|mV=>k_is)))
  (case cZ|dA|dB|dC|dD|dE|dF|dG|dH|dI|dJ|dK|dL|dM|dN=>k_is)
  (case dO|dP|dQ|dR|dS|dT|dU|dV|dW|dX|dY|dZ=>kernel_rfl)
  (case eA|eB|eC|eD|eE|eF|eG|eH|eI|eJ|eK|eL|eM|eN|eO=>k_is)
  (case eP=>(refine' LW.J02 ?mW ?mX ?mY ?mZ ?nA;(case mW|mX|mY|mZ|nA=>k_is)))

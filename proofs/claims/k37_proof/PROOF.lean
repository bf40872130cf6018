import PyProof.Rows.All
import Wide.All
import OpenK.AllK
import Wide.FinOn
import Lean
import PyProof.EqAt
import PyProof.EqKinds
import PyProof.TupleCall
import PyProof.ExcBaseAll.ValueError
import PyProof.ExcAttrAll.ValueError
import PyProof.NsDelKeeps
import PySem.Challenge.RW_dutyproof_k37_no_thing_held_by_two
open PySem renaming Value→Za,Shared→Zc,Addr→Zd,wpAny_bind→Ze,wpAny→Zs,wpAny_pure→Zu,mainGlobals→Zx,Program→Z5,model→Z6,starEach→Z8,Around→ZI,World→ZP,mem_of_lookup→ZY,wpAny_holding→ZZ,wpAny_Call_Name_kw→Zad,wpAny_mono→Zae,Heap→Zag,codeAny_builtin→Zal,wpAny_tryCatch→Zan,compareOp→Zas,FuncData→Zax,plainId_quiet→Za1,assignEach→ZaA,eval→ZaK,binaryOp→ZaM,backTo→ZaT,Scope→ZaU,wpAny_truthy_bool→ZaV,wpAny_pyIter_list→ZaX,wpAny_updateSeq→Zbd,wpAny_letGo→Zbe,NameKind→Zbf,sizeLine_eq→Zbl,wpAny_seqItems→Zbm,wpAny_standAt→Zb2,wpAny_getItem_str_slice→Zb9,keywordEach→ZbC,Spec→ZbE,rawInt→ZbG,attributeBase→ZbN,Arguments→ZbO,holding→ZbQ,foldedSetIterable→ZbR,pyNext→ZbU,bootBuiltins→ZbZ,seqItems?→Zca,scanBound→Zcb,behindInMarks→Zcj,wpAny_newList→Zck,Operator→Zcm,letOwnedTupleGo→Zco,BindsTo→Zcq,wpAny_loadPart'→Zcs,sysModules→Zcu,builtinsNs→Zcv,PyData→Zcw,sliceBounds→Zcz,wpAny_field→Zc0,codeAny→Zc5,Keyword→Zc8,codeAny_mono→ZcA,strKind→ZcO,backToKw→ZcP,richCompare→ZcR,Stmt→ZcY,wpAny_execs_nil→ZcZ,post_val_or_str→Zdb,swapsWith→Zdj,call_meets→Zdm,wpAny_setField→Zdo,closureFor→Zdp,getMethod→Zd6,codeAmong→Zd8,lastMarks→Zd9,noteFrame→ZdA,updateSeq→ZdB,wpAny_pyNext_list_item→ZdJ,Result→ZdK,getItem→ZdM,assign→ZdN,wpAny_pyNext_list_end→ZdW,pyIter→Zeb,bindArgs→Zec,seqIndex_of→Zee,subscripted→Zef,callerA→Zel,assignInOrder→Zeq,wpAny_call→Zeu,argsOk→Zev,wpAny_rule→Zew,Within→Zex,seqIndex_neg→Ze0,valueAt→Ze1,standAt→Ze2,Builtin→Ze4,IsPart→Ze6,setFlight→Ze7,strValues→Ze8
open List renaming getElem?_eq_getElem→Zb,length_map→Zh,getD_eq_getElem?_getD→Zi,mem_append_right→Zj,getElem?_eq_some_iff→Zk,mem_cons_of_mem→Zm,length_append→Zo,size_toArray→Zq,getElem?_map→Zt,mem_singleton→Zy,getElem_mem→Zz,map_cons→Z0,getElem?_append_right→Z2,mem_cons_self→Z3,mem_cons→Z4,length_cons→Z7,getElem?_append_left→Z9,mem_map→ZB,getElem?_set_ne→ZC,range→ZF,getElem?_set_self→ZG,replicate→ZJ,getElem_map→ZM,not_mem_nil→ZN,append_assoc→ZQ,mem_append→ZS,cons_append→ZV,lookup_cons→ZX,length_singleton→Zaa,nil_append→Zac,all_cons→Zah,append_nil→Zak,mem_append_left→Zam,take_succ_eq_append_getElem→Zao,mem_range→Zar,getElem?_cons_succ→Zat,mem_iff_getElem→Zau,set_append_left→Zav,length_filter_le→Za3,getElem?_cons_zero→Za5,map_map→Za7,drop_eq_getElem_cons→Za8,replicate_succ→Za9,eq_nil_of_length_eq_zero→ZaB,mem_filter→ZaF,toArray→ZaI,map_append→ZaJ,length_take→ZaN,filter_cons_of_pos→ZaP,filter_cons_of_neg→ZaQ,take_of_length_le→ZaY,length_nil→Zbc,getElem?_eq_none→Zbg,all_eq_true→Zbh,set_cons_zero→Zbi,map_nil→Zbk,length_set→Zbn,length_replicate→Zbt,lookup→Zbv,reverse_cons→Zbw,flatten_cons→Zbx,length_range→Zb0,length_reverse→Zb6,getElem?_replicate→Zb7,find?_cons→ZbK,ext_getElem?→ZbT,mem_of_getElem?→ZbV,mapM_cons→ZbW,ext_getElem→Zcc,pairwise_iff_getElem→Zce,take_succ_cons→Zcf,any_cons→Zci,nodup_cons→Zcr,set_cons_succ→Zcx,pairwise_cons→Zcy,length_eq_zero_iff→Zc2,findIdx?_eq_some_iff_getElem→Zc3,drop_eq_nil_of_le→ZcB,eraseIdxIfInBounds_toArray→ZcE,set_append_right→ZcG,getElem_inj→ZcI,length_drop→ZcJ,filter_cons→ZcN,mem_of_mem_drop→ZcV,pairwise_append→ZcW,getElem_reverse→ZcX,filterMap_cons→Zdd,getElem?_range→Zde,map_congr_left→Zdf,findIdx?_cons→Zdr,getElem_range→Zds,filter_append→Zdt,findIdx?_eq_none_iff→Zdw,pairwise_map→Zdx,sum_cons→Zd3,length_erase_of_mem→Zd4,drop_length→ZdE,any_eq_true→ZdG,take_length→ZdH,nodup_range→ZdI,range_succ_eq_map→ZdO,set_set→ZdS,of_mem_zip→ZdT,range_succ→ZdU,getElem?_toArray→ZdY,dropLast_eq_take→ZdZ,take_zero→Zeh,map_drop→Zer
open PySem.Heap renaming get?_push_of_some→Zg,get?_update_other→Zr,lt_size→Zv,get?_push_size→Zw,get?_update_self→Za2,SameBut→Zc4,size_push→Zc6
open Nat renaming le_refl→Zl,ne_of_lt→Z1,lt_of_lt_of_le→ZE,le_trans→ZO,zero_le→ZT,lt_succ_self→Zaz,ne_of_gt→ZaG,le_succ→Zbb,lt_succ_of_lt→Zbz,le_of_lt→ZbF,add_right_cancel→ZbY,lt_irrefl→Zch,le_of_eq→Zc7,succ_le_succ→ZcK,le_of_not_lt→ZcL,sub_self→Zdh,eq_zero_or_pos→Zdq,add_assoc→Zd2,min_eq_left→ZdV,le_of_ble_eq_true→Zea
open Bool renaming and_eq_true→Zn,false_ne_true→Zp,false_eq_true→ZU,or_eq_true→Zay,not_eq_true'→ZaC,true_eq_false→Zbr,eq_false_iff→ZbS,not_false→ZbX,not_true→Zcn,eq_iff_iff→Zcp,or_eq_false_iff→ZcS
open Option renaming map_eq_some_iff→ZA,isSome_iff_exists→Zbj,some→Zby,bind_some→ZbA,join_some→ZbB,getD_some→ZdF
open Int renaming emod_lt_of_pos→ZD,emod_nonneg→ZH,le_refl→ZaO,toNat_natCast→ZaW,mul_le_mul_of_nonneg_left→ZbD,le_trans→ZbI,lt_of_le_of_lt→ZbJ,toNat→Zeo
open Ne renaming symm→ZK
open PySem.F renaming plain_min_loop→ZL,plain_max_loop→Za6,entry_min_loop→ZaZ,plainAttrs_list→Zc1,entry_max_loop→ZcC,slot_dict_setdefault→Zda,args_tuple_add_2→Zdy,entry_tuple_add→Zd7,plain_list_iadd→ZdD,slot_tuple_add→ZdL
open PySem.Value renaming none→ZR,int→ZbM,bool→ZcH,ref→Zdi,str→Zek,type→Zes
open PySem.Around renaming under_plainId→ZW,under→Zey
open Option.some renaming inj→Zab,injEq→ZaD
open PySem.Obj renaming mapSeq→Zaf,mapFields→ZaE,data_mapFields→ZaL,isFreed_of_fields→ZcF
open PyProof.Rows renaming seqObj→Zai,callWith_type1→ZaR,signs→Zbs,evalAll_cons→Zbu,IntsAre→Zb4,callWith_builtin1→Zb8,evalAll_nil→Zcl,get?_update_seq→Zct,subscriptTail_builtinR→Zc9,mirror_size→ZcU,AllBare→Zdg,spliced_more→Zdu,spliced_none→Zdv,subscriptTail→Zdz,listUpdate_at→Zd1,size_push'→ZdQ,envOfC→Zed
open True renaming intro→Zaj
open PySem.PyData renaming canLay0→Zap,canLayAll0→Zaq,eqv→Zb3,eqvAll→ZbP,list→ZcQ,tuple→Ze3
open PySem.Str renaming ofString→Zaw,length→Zet
open PySem.NameKind renaming free→Za0,cell→Zd0
open PySem.Builtin.Builtins renaming bindParams→Za4
open ForInStep renaming yield→ZaH
open Array renaming getD_eq_getD_getElem?→ZaS,length_toList→Zba,getElem?_eq_some_iff→Zbq,getElem?_eq_getElem→Zcd,getElem?_toList→ZdX
open PyProof.Rows.F renaming plain_set_update_loop→Zbo,entry_set_update_loop→Zcg
open False renaming elim→Zbp
open PySem.Builtin.List renaming listTooLong→Zb1
open PySem.W renaming kas_rev→Zb5,kas_asc→ZbH,kas_sort→ZbL,kas_descPart→ZcD,kas_desc→ZcT,kas_place→Zdk,kas_count→ZdC,kas_tail3→Zen
open PySem.Walks renaming list→ZcM
open List.cons renaming injEq→Zdc
open PySem.Calls renaming Name_function_global→Zdl,spliced_cons→Zdn,callWith_builtin→ZdP
open PySem.Builtin.Range renaming rangeSize→Zd5
open PySem.Txt renaming slice_le→ZdR,slice→Zem
open PyProof.Rows.IntsAre renaming int_at→Zeg
open Sum renaming inl→Zei,inr→Zej
open PySem.Paired renaming length→Zep
open PySem.Code renaming isFrame→Zez
open PySem.Data renaming cell→Ze5
noncomputable section
set_option Elab.async false
set_option linter.all false
set_option maxRecDepth 100000
theorem Zf {p:Prop}(h:False):p:=h.elim
namespace L2
open PySem PySem.Spec PyProof.Rows
abbrev Key:=Sum Int Str
def X1:Key->Za->Bool
 | .inl k,v=>Value.isInt k v
 | .inr x,v=>Value.isStrOf x v
def keyH (w:ZP):Key->Int
 | .inl k=>hashInt k
 | .inr x=>hashStr w x
theorem Vz:∀{k:Key}{v:Za},X1 k v=true->(∃i t,k=Zei i/\v=ZbM i t)∨(∃x t,k=Zej x/\v=Zek x t)
 | .inl i,v,h=>by
  obtain⟨t,e⟩:=Value.isInt_shape (k:=i) (v:=v) h
  exact .inl ⟨i,t,rfl,e⟩
 | .inr x,v,h=>by
  obtain⟨t,e⟩:=Value.isStrOf_shape (x:=x) (v:=v) h
  exact .inr ⟨x,t,rfl,e⟩
theorem Jsg (i:Int)(t:Tok):X1 (.inl i) (.int i t)=true:=by simp[X1,Value.isInt]
theorem Jsh (x:Str)(t:Tok):X1 (.inr x) (.str x t)=true:=by simp[X1,Value.isStrOf]
theorem J1o (a b:Int):decide ((Zei a:Key)=Zei b)=(a==b):=by
 by_cases e:a=b
 ·subst e;simp
 ·have h:¬(Zei a:Key)=Zei b:=λ q=>e (Sum.inl.inj q)
  rw[decide_eq_false h]
  exact(beq_eq_false_iff_ne.mpr e).symm
theorem J1r (a b:Str):decide ((Zej a:Key)=Zej b)=decide (a=b):=by
 by_cases e:a=b
 ·subst e;simp
 ·have h:¬(Zej a:Key)=Zej b:=λ q=>e (Sum.inr.inj q)
  rw[decide_eq_false h,decide_eq_false e]
theorem J1p (a:Int)(b:Str):decide ((Zei a:Key)=Zej b)=false:=decide_eq_false (λ q=>nomatch q)
theorem J1q (a:Str)(b:Int):decide ((Zej a:Key)=Zei b)=false:=decide_eq_false (λ q=>nomatch q)
def Vh (prog:Z5)(w:ZP):PySem.KeyKind prog w Key where
 is:=X1
 hash:=keyH w
 inj:=λ v a b ha hb=>by
  rcases Vz ha with⟨i,t,rfl,rfl⟩|⟨x,t,rfl,rfl⟩
  ·rcases Vz hb with⟨j,u,rfl,e⟩|⟨y,u,rfl,e⟩
   ·injection e with e1 _;rw[e1]
   ·exact nomatch e
  ·rcases Vz hb with⟨j,u,rfl,e⟩|⟨y,u,rfl,e⟩
   ·exact nomatch e
   ·injection e with e1 _;rw[e1]
 byValue:=λ k v h=>by
  rcases Vz h with⟨i,t,rfl,rfl⟩|⟨x,t,rfl,rfl⟩<;>rfl
 pyHash:=λ hv h=>by
  rcases Vz hv with⟨i,t,rfl,rfl⟩|⟨x,t,rfl,rfl⟩
  ·exact wpAny_pyHash_int h
  ·exact wpAny_pyHash_str h
 eqBool:=λ hu hv h=>by
  rcases Vz hu with⟨i,t,rfl,rfl⟩|⟨x,t,rfl,rfl⟩
  ·rcases Vz hv with⟨j,u,rfl,rfl⟩|⟨y,u,rfl,rfl⟩
   ·rw[J1o] at h;exact wpAny_eqBool_int h
   ·rw[J1p] at h;exact SeqAt.EqAt.int_str i t y u _ _ _ _ h
  ·rcases Vz hv with⟨j,u,rfl,rfl⟩|⟨y,u,rfl,rfl⟩
   ·rw[J1q] at h;exact SeqAt.EqAt.str_int x t j u _ _ _ _ h
   ·rw[J1r] at h;exact wpAny_eqBool_str h
 «strs» :=λ k x t v h=>by
  rcases Vz h with⟨i,u,rfl,e⟩|⟨y,u,rfl,e⟩
  ·exact nomatch e
  ·injection e with e1 _
   subst e1
   cases v<;>rfl
theorem Jn1 (prog:Z5)(w:ZP)(i:Int)(t:Tok):(Vh prog w).is (.inl i) (.int i t)=true:=Jsg i t
theorem Jn2 (prog:Z5)(w:ZP)(x:Str)(t:Tok):(Vh prog w).is (.inr x) (.str x t)=true:=Jsh x t
inductive V where
 | non|bl (b:Bool)|int (i:Int)|str (x:Str)|byt (b:Array UInt8)|flt (b:UInt64)|ref (a:Zd)|ty (n:String)
 deriving DecidableEq
def RelV:V->Za->Prop
 | .non,u=>u=ZR
 | .bl b,u=>u=ZcH b
 | .int i,u=>∃t,u=ZbM i t
 | .str x,u=>∃t,u=Zek x t
 | .byt b,u=>∃t,u=Value.bytes b t
 | .flt b,u=>∃t,u=Value.float b t
 | .ref a,u=>u=Zdi a
 | .ty n,u=>u=Zes n
abbrev Vals:List V->List Za->Prop:=Paired RelV
theorem Vals.length {xs:List V}{us:List Za}(r:Vals xs us):xs.length=us.length:=Zep r
theorem Vals.get:∀{xs:List V}{us:List Za}{i:Nat}{x:V},Vals xs us->xs[i]?=some x->∃u,us[i]?=some u/\RelV x u
 | _,_,_,_,.nil,e=>by simp at e
 | _,_,0,_,.cons r _,e=>by simp at e;subst e;exact⟨_,rfl,r⟩
 | _,_,i+1,x,.cons _ t,e=>by
  obtain⟨u,h1,h2⟩:=Vals.get (i:=i) (x:=x) t (by simpa using e)
  exact⟨u,by simpa using h1,h2⟩
theorem Vals.set {x:V}{u:Za}(r:RelV x u):∀{xs:List V}{us:List Za}(i:Nat),Vals xs us->Vals (xs.set i x) (us.set i u)
 | _,_,_,.nil=>.nil
 | _,_,0,.cons _ t=>.cons r t
 | _,_,i+1,.cons q t=>.cons q (Vals.set r i t)
theorem Vals.append:∀{xs ys:List V}{us ws:List Za},Vals xs us->Vals ys ws->Vals (xs++ys) (us++ws)
 | _,_,_,_,.nil,s=>s
 | _,_,_,_,.cons r t,s=>.cons r (Vals.append t s)
theorem Vals.take:∀{xs:List V}{us:List Za}(n:Nat),Vals xs us->Vals (xs.take n) (us.take n)
 | _,_,0,_=>.nil
 | _,_,_+1,.nil=>.nil
 | _,_,n+1,.cons r t=>.cons r (Vals.take n t)
theorem Vals.drop:∀{xs:List V}{us:List Za}(n:Nat),Vals xs us->Vals (xs.drop n) (us.drop n)
 | _,_,0,r=>r
 | _,_,_+1,.nil=>.nil
 | _,_,n+1,.cons _ t=>Vals.drop n t
def RelO:Option V->Option Za->Prop
 | some v,some u=>RelV v u
 | none,none=>True
 | _,_=>False
def KV {κ:Type}:List (κ×V)->List (κ×Za)->Prop:=Paired λ (p:κ×V)(q:κ×Za)=>p.1=q.1/\RelV p.2 q.2
def kV:Key->V
 | .inl i=>.int i
 | .inr x=>.str x
inductive HO where
 /-- a list -/
 | lst (xs:List V)
 /-- a tuple (never changes) -/
 | tup (xs:List V)
 /-- a dict whose keys are ints and texts; one whose keys are tuples of ints and texts (the empty one is both) -/
 | dK (kvs:List (Key×V))|dT (kvs:List (List Key×V))
 /-- a set of ints: its members, its size -/
 | set (S:Int->Bool) (n:Nat)
 /-- an instance of the class at C, its dict at dx, its attributes -/
 | ins (C dx:Zd) (fs:List (Str×V))
 /-- the dict of the instance at x -/
 | own (x:Zd)
 /-- the dict of an exception -/
 | xd (fs:List (Str×V))
 /-- a bound method, f of x -/
 | met (f x:Zd)
 /-- a range object lo, lo + 1, .. below hi -/
 | rng (lo hi:Int)
 /-- a thing that is known to the object (the script; a dict while a loop walks it): read, never written while it is so -/
 | frz (o:Obj) (u:HO)
 /-- a code object's table -/
 | tbl (ps:Array Za)
 /-- any other thing, by what is true of its one object (a def of one's own: SetO a S n := HO.ext λ h => ..) -/
 | ext (φ:Zag->Prop)
abbrev Hp:=Zd->Option HO
def upd (H:Hp)(a:Zd)(o:HO):Hp:=λ b=>if b=a then some o else H b
theorem J7 {H:Hp}{a:Zd}{o:HO}:upd H a o a=some o:=by unfold upd;rw[if_pos rfl]
theorem Jp {H:Hp}{a b:Zd}{o:HO}(h:b≠a):upd H a o b=H b:=by unfold upd;rw[if_neg h]
theorem Vi {H:Hp}{a b:Zd}{o:HO}(h:H a=some o)(h':H b=none):a≠b:=by
 intro e;subst e;rw[h] at h';cases h'
section
variable (P:Z5)(w:ZP)
def JG (H:Hp)(h:Zag)(a:Zd):HO->Prop
 | .lst xs=>xs.length<=sizeLine/\∃(its:List Za) (n:Nat),Vals xs its/\h.get? a=some { cls:=.type "list",data:=.seq its.toArray n }
 | .tup xs=>xs.length<=sizeLine/\∃its:List Za,Vals xs its/\IsTup h a its.toArray
 | .dK kvs=>kvs.length<=sizeLine/\(a==Zcu)=false/\∃vs,KV kvs vs/\h.DictOf (Vh P w) a vs
 | .dT kvs=>kvs.length<=sizeLine/\(a==Zcu)=false/\∃xs:List (List Key×Zd×Za),
   Paired (λ (p:List Key×V)(q:List Key×Zd×Za)=>p.1=q.1/\H q.2.1=some (.tup (p.1.map kV))/\RelV p.2 q.2.2) kvs xs /\
   ∃o es ep,h.get? a=some o/\o.ExactDict/\o.data=.dict es ep/\es.toList=xs.map (entryOfKey (tupleKind (Vh P w)))/\(xs.map (·.1)).Nodup
 | .set S n=>h.SetOf (intKind P w) a S n
 | .ins C dx fs=>H dx=some (.own a)/\fs.length<=1000/\dx≠a/\h.get? a=some (W.instObj C dx) /\
   ∃mA,h.Ns1 dx mA/\(∀f,RelO (fs.lookup f) (mA f))/\Zex mA (fs.map (·.1))
 | .own _=>∃o,h.get? a=some o
 | .xd fs=>∃mA,h.Ns1 a mA/\∀f,RelO (fs.lookup f) (mA f)
 | .rng lo hi=>∃t u v,h.get? a=some { cls:=.type "range",data:=.fields #[.int lo t,.int hi u,.int 1 v] }
 | .frz o u=>h.get? a=some o/\JG H h a u
 | .tbl ps=>h.get? a=some { cls:=.none,data:=.fields ps }
 | .met f x=>h.get? a=some (W.methodObj (.ref f) (.ref x))
 | .ext φ=>φ h/\(∃o,h.get? a=some o)/\∀h1 h2:Zag,φ h1->(∀o,h1.get? a=some o->h2.get? a=some o)->φ h2
def HOk (H:Hp)(h:Zag):Prop:=∀a o,H a=some o->JG P w H h a o
end
section
variable {P:Z5}{w:ZP}{H H':Hp}{h h':Zag}{a:Zd}{o:HO}
theorem JG.lt (x:JG P w H h a o):a<h.objs.size:=by
 cases o with
 | lst xs=>obtain⟨_,_,_,_,e⟩:=x;exact Zv e
 | tup xs=>obtain⟨_,_,_,p⟩:=x;exact p.lt
 | dK kvs=>obtain⟨_,_,_,_,o,_,_,e,_⟩:=x;exact Zv e
 | dT kvs=>obtain⟨_,_,_,_,o,_,_,e,_⟩:=x;exact Zv e
 | set S n=>obtain⟨o,_,_,_,e,_⟩:=x;exact Zv e
 | ins C dx fs=>obtain⟨_,_,_,e,_⟩:=x;exact Zv e
 | own y=>obtain⟨_,e⟩:=x;exact Zv e
 | xd fs=>obtain⟨_,⟨_,_,_,e,_⟩,_⟩:=x;exact Zv e
 | rng lo hi=>obtain⟨_,_,_,e⟩:=x;exact Zv e
 | frz ob u=>obtain⟨e,_⟩:=x;exact Zv e
 | tbl ps=>exact Zv (show h.get? a=some _ from x)
 | met f y=>exact Zv (show h.get? a=some _ from x)
 | ext φ=>obtain⟨_,⟨_,e⟩,_⟩:=x;exact Zv e
theorem Paired.mapP {α β:Type}{F G:α->β->Prop}:∀{l₁:List α}{l₂:List β},Paired F l₁ l₂->(∀a b,F a b->G a b)->Paired G l₁ l₂
 | _,_,.nil,_=>.nil
 | _,_,.cons r t,f=>.cons (f _ _ r) (Paired.mapP t f)
theorem JG.stay (x:JG P w H h a o)(k:∀b u,(b=a∨H b=some (.own a))->h.get? b=some u->h'.get? b=some u)
  (ho:∀b,H b=some (.own a)->H' b=some (.own a))(ht:∀b xs,H b=some (.tup xs)->H' b=some (.tup xs)):JG P w H' h' a o:=by
 induction o with
 | lst xs=>obtain⟨z,its,n,r,e⟩:=x;exact⟨z,its,n,r,k _ _ (.inl rfl) e⟩
 | tup xs=>obtain⟨z,its,r,ob,e,c⟩:=x;exact⟨z,its,r,ob,k _ _ (.inl rfl) e,c⟩
 | dK kvs=>obtain⟨z,y,vs,r,ob,es,ep,e,c⟩:=x;exact⟨z,y,vs,r,ob,es,ep,k _ _ (.inl rfl) e,c⟩
 | dT kvs =>
  obtain⟨z,y,xs,r,ob,es,ep,e,c⟩:=x
  exact⟨z,y,xs,Paired.mapP r λ p q z=>⟨z.1,ht _ _ z.2.1,z.2.2⟩,ob,es,ep,k _ _ (.inl rfl) e,c⟩
 | set S n=>obtain⟨ob,es,ep,t,e,c⟩:=x;exact⟨ob,es,ep,t,k _ _ (.inl rfl) e,c⟩
 | ins C dx fs =>
  obtain⟨d,z,ne,e,mA,⟨od,es,ep,e2,c⟩,r⟩:=x
  exact⟨ho _ d,z,ne,k _ _ (.inl rfl) e,mA,⟨od,es,ep,k _ _ (.inr d) e2,c⟩,r⟩
 | own y=>obtain⟨ob,e⟩:=x;exact⟨ob,k _ _ (.inl rfl) e⟩
 | xd fs=>obtain⟨mA,⟨od,es,ep,e,c⟩,r⟩:=x;exact⟨mA,⟨od,es,ep,k _ _ (.inl rfl) e,c⟩,r⟩
 | rng lo hi=>obtain⟨t,u,v,e⟩:=x;exact⟨t,u,v,k _ _ (.inl rfl) e⟩
 | frz ob u ih=>obtain⟨e,q⟩:=x;exact⟨k _ _ (.inl rfl) e,ih q⟩
 | tbl ps =>
  have e:h.get? a=some { cls:=.none,data:=.fields ps }:=x
  show h'.get? a=some { cls:=.none,data:=.fields ps }
  exact k a _ (.inl rfl) e
 | met f y =>
  have e:h.get? a=some (W.methodObj (.ref f) (.ref y)):=x
  show h'.get? a=some (W.methodObj (.ref f) (.ref y))
  exact k a _ (.inl rfl) e
 | ext φ=>obtain⟨p,⟨o,e⟩,st⟩:=x;exact⟨st _ _ p λ o q=>k _ _ (.inl rfl) q,⟨o,k _ _ (.inl rfl) e⟩,st⟩
theorem HOk.lt (x:HOk P w H h)(e:H a=some o):a<h.objs.size:=(x a o e).lt
theorem HOk.fresh (x:HOk P w H h)(e:h.objs.size<=a):H a=none:=by
 cases q:H a with
 | none=>rfl
 | some u=>exact absurd (ZE (x.lt q) e) (Zch _)
theorem HOk.kept (x:HOk P w H h)(k:∀b u,h.get? b=some u->h'.get? b=some u):HOk P w H h':=λ a o e =>
 (x a o e).stay (λ b u _ q=>k b u q) (λ _ q=>q) λ _ _ q=>q
theorem HOk.laid (x:HOk P w H h)(k:∀b u,h.get? b=some u->h'.get? b=some u)(hp:h.objs.size<=a)(new:JG P w (upd H a o) h' a o):HOk P w (upd H a o) h':=λ b u e=>by
 have hn:=x.fresh hp
 by_cases hb:b=a
 ·subst hb;rw[J7] at e;cases e;exact new
 ·rw[Jp hb] at e
  exact(x b u e).stay (λ c v _ q=>k c v q) (λ c q=>by rw[Jp (Vi q hn)];exact q) λ c xs q=>by rw[Jp (Vi q hn)];exact q
end
def Rd (H:Hp)(a:Zd)(u:HO):Prop:=H a=some u∨∃o,H a=some (.frz o u)
theorem Rd.of {H:Hp}{a:Zd}{u:HO}(h:H a=some u):Rd H a u:=.inl h
theorem Rd.ok {P:Z5}{w:ZP}{H:Hp}{h:Zag}{a:Zd}{u:HO}(r:Rd H a u)(x:HOk P w H h):JG P w H h a u:=by
 rcases r with r|⟨o,r⟩
 ·exact x a u r
 ·obtain⟨_,q⟩:=x a _ r
  exact q
def Mut:Option HO->Prop
 | some (.lst _)=>True
 | some (.dK _)=>True
 | some (.dT _)=>True
 | some (.set _ _)=>True
 | some (.ins _ _ _)=>True
 | some (.ext _)=>True
 | _=>False
section
variable {P:Z5}{w:ZP}{H:Hp}{h h':Zag}{x e:Zd}{o':HO}
theorem HOk.write (ok:HOk P w H h)(mu:Mut (H x))(he:e=x∨H e=some (.own x))(k:∀b u,b≠e->h.get? b=some u->h'.get? b=some u)(heo:∃u,h'.get? e=some u)
  (new:JG P w (upd H x o') h' x o'):HOk P w (upd H x o') h':=λ b u q=>by
 have nown:∀c y,H c=some (.own y)->c≠x:=λ c y r z=>by subst z;rw[r] at mu;exact mu
 have ntup:∀c xs,H c=some (.tup xs)->c≠x:=λ c xs r z=>by subst z;rw[r] at mu;exact mu
 by_cases hb:b=x
 ·subst hb;rw[J7] at q;cases q;exact new
 ·rw[Jp hb] at q
  by_cases hbe:b=e
  ·have q':H b=some (.own x):=by
    rcases he with z|z
    ·exact absurd (hbe.trans z) hb
    ·rw[hbe];exact z
   rw[q] at q';cases q'
   obtain⟨v,hv⟩:=heo
   exact⟨v,by rw[hbe];exact hv⟩
  ·refine(ok b u q).stay (λ c v hc r=>k c v ?_ r) (λ c r=>by rw[Jp (nown c b r)];exact r) λ c xs r=>by rw[Jp (ntup c xs r)];exact r
   rcases hc with rfl|hc
   ·exact hbe
   ·rintro rfl
    rcases he with z|z
    ·exact nown c b hc z
    ·rw[hc] at z;cases z;exact hb rfl
end
structure Un (fs ex:List Zd)(H H':Hp)(h h':Zag):Prop where
 keep:∀b o,h.get? b=some o->H b=none->b∉fs->b∉ex->h'.get? b=some o
 slot:∀b o,h.get? b=some o->H b=none->b∈fs->b∉ex->∃sl,h'.get? b=some { o with slots:=sl }
 free:∀b o,h.get? b=some o->H b=none->b∉ex->H' b=none
 there:∀b o,h.get? b=some o->b∉ex->∃o',h'.get? b=some o'
 tups:∀b xs,H b=some (.tup xs)->H' b=some (.tup xs)
 frzs:∀b o u,H b=some (.frz o u)->H' b=some (.frz o u)
 tbls:∀b ps,H b=some (.tbl ps)->∃more,H' b=some (.tbl (ps++more))
section
variable {fs fs' ex ex':List Zd}{H H1 H2:Hp}{h h1 h2 h':Zag}{a x e:Zd}{o:HO}
theorem Un.any (u:Un fs ex H H1 h h1){b:Zd}{ob:Obj}(q:h.get? b=some ob)(n:H b=none)(hx:b∉ex):∃sl,h1.get? b=some { ob with slots:=sl }:=by
 by_cases hb:b∈fs
 ·exact u.slot b ob q n hb hx
 ·exact⟨ob.slots,u.keep b ob q n hb hx⟩
theorem Un.kept (k:∀b u,h.get? b=some u->h'.get? b=some u):Un fs ex H H h h' :=
 ⟨λ b ob q _ _ _=>k b ob q,λ b ob q _ _ _=>⟨ob.slots,k b ob q⟩,λ _ _ _ n _=>n,λ b ob q _=>⟨ob,k b ob q⟩,λ _ _ q=>q,λ _ _ _ q=>q,λ _ ps q=>⟨#[],by rw[q];simp⟩⟩
theorem Un.refl:Un fs ex H H h h:=Un.kept λ _ _ q=>q
theorem Un.laid (k:∀b u,h.get? b=some u->h'.get? b=some u)(hp:h.objs.size<=a)(hn:H a=none):Un fs ex H (upd H a o) h h' where
 keep:=λ b u q _ _ _=>k b u q
 slot:=λ b u q _ _ _=>⟨u.slots,k b u q⟩
 free:=λ b u q n _=>by rw[Jp (Z1 (ZE (Zv q) hp))];exact n
 there:=λ b u q _=>⟨u,k b u q⟩
 tups:=λ b xs q=>by rw[Jp (Vi q hn)];exact q
 frzs:=λ b u xs q=>by rw[Jp (Vi q hn)];exact q
 tbls:=λ b ps q=>⟨#[],by rw[Jp (Vi q hn),q];simp⟩
theorem Un.write (mu:Mut (H x))(he:e=x∨H e=some (.own x))(k:∀b u,b≠e->h.get? b=some u->h'.get? b=some u)(heo:∃u,h'.get? e=some u):Un fs ex H (upd H x o) h h':=by
 have hx:∀b,H b=none->b≠x:=λ b n z=>by subst z;rw[n] at mu;exact mu
 have hb:∀b,H b=none->b≠e:=λ b n z=>by
  subst z
  rcases he with r|r
  ·exact hx b n r
  ·rw[n] at r;cases r
 have hm:∀b u,H b=some u->¬Mut (some u)->b≠x:=λ b u q nm z=>by subst z;rw[q] at mu;exact nm mu
 refine⟨λ b u q n _ _=>k b u (hb b n) q,λ b u q n _ _=>⟨u.slots,k b u (hb b n) q⟩,λ b u q n _=>by rw[Jp (hx b n)];exact n,λ b u q _=>?_,
  λ b xs q=>by rw[Jp (hm b _ q λ z=>z)];exact q,λ b u xs q=>by rw[Jp (hm b _ q λ z=>z)];exact q,λ b ps q=>⟨#[],by rw[Jp (hm b _ q λ z=>z),q];simp⟩⟩
 by_cases hbe:b=e
 ·subst hbe;exact heo
 ·exact⟨u,k b u hbe q⟩
end
def trk (h:Zag)(H:Hp):List Zd:=(ZF h.objs.size).filter λ a=>(H a).isSome
def hidT (h:Zag)(H:Hp):Zag:=W.hideAll h (trk h H)
theorem Jr4 (h:Zag)(H:Hp):(hidT h H).objs.size=h.objs.size:=W.hideAll_size _ _
theorem Juh {h:Zag}{H:Hp}{b:Zd}{o:Obj}(e:h.get? b=some o)(n:H b=none):(hidT h H).get? b=some o :=
 W.hideAll_get _ e λ hm=>by
  have q:(H b).isSome=true:=(ZaF.mp hm).2
  rw[n] at q;simp at q
theorem Jzi {h:Zag}{H:Hp}{b:Zd}{o:Obj}(e:(hidT h H).get? b=some o):h.get? b=some o/\H b=none:=by
 have e':h.get? b=some o:=W.of_hideAll (trk h H) e
 refine⟨e',?_⟩
 cases q:H b with
 | none=>rfl
 | some x =>
  have hm:b∈trk h H:=ZaF.mpr ⟨Zar.mpr (Zv e'),by simp[q]⟩
  have z:(hidT h H).get? b=none:=W.hideAll_none (trk h H) hm
  rw[z] at e;cases e
def Jxv (g h:Zag)(L:Zd):List (Zd×Obj):=(ZF h.objs.size).filterMap λ a=>if a=L∨(g.get? a).isSome=true then none else(h.get? a).map λ o=>(a,o)
def rest (g h:Zag)(L d:Zd):List (Zd×Obj):=(Jxv g h L).filter λ p=>decide (p.1≠d)
structure Mod (K:W.Frag)(mg:Str->Option Za)(base:Zag):Prop where
 kin:K.In base
 glob:base.Ns Zx mg
 blt:∃mb,base.Ns Zcv mb/\∀x:Str,x≠"__name__"->mb x=ZbZ x
 nolimit:base.NoLimit
structure Cx where
 prog:Z5
 w:ZP
 K:W.Frag
 mg:Str->Option Za
 base:Zag
 A:ZI
 N:List Str
 s₀:Zc
 H₀:Hp
 env:Env
 outer:List Env
 stack:List Env
 ex:List Zd
 fn:Str->Bool
 calm:Bool
 pn:List (Zd×Obj)
 xe:Za->Zc->Prop
def frs (l:List Env):List Zd:=l.filterMap (·.frame)
abbrev Cx.fs (X:Cx):List Zd:=frs X.outer
def Vis (sc:ZaU)(x:Str):Prop:=sc.names.lookup x=some .local∨sc.names.lookup x=some .cell∨sc.names.lookup x=some .free
def Loc (sc:ZaU)(x:Str):Prop:=sc.names.lookup x=some .local∨sc.names.lookup x=some .cell
def Look (env:Env)(h:Zag)(m:Str->Option Za)(x:Str)(u:Za):Prop :=
 (env.kindOf x=some .local/\m x=some u)∨((env.kindOf x=some .cell∨env.kindOf x=some .free)/\∃c,env.cells.lookup x=some c/\h.IsCell c (some u))
structure Cx.Ok (X:Cx):Prop where
 mod:Mod X.K X.mg X.base
 kind:X.env.scope.kind=.function
 glob:X.env.globals=Zx
 blt:X.env.builtins=Zcv
 above:X.s₀.heap.objs.size<=X.env.locals
 inj:∀x y c,X.env.cells.lookup x=some c->X.env.cells.lookup y=some c->x=y
 has:∀x,(X.env.kindOf x=some .cell∨X.env.kindOf x=some .free)->∃c,X.env.cells.lookup x=some c
 cab:∀x c,X.fn x=true->X.env.cells.lookup x=some c->X.s₀.heap.objs.size<=c
 hd:X.calm=true->X.A.handled=none
 frames:X.A.frames=some X.stack
 stk:X.stack=X.outer∨(X.stack=X.env::X.outer/\X.env.frame=some X.env.locals)
 exf:∀b∈X.ex,b≠X.env.locals/\∀x c,X.env.cells.lookup x=some c->c≠b
 bs:∀b o,X.base.get? b=some o->X.s₀.heap.get? b=some o/\X.H₀ b=none
 bsz:X.base.objs.size<=X.s₀.heap.objs.size
 noex:∀b o,X.base.get? b=some o->b∉X.ex
 exfs:∀b∈X.ex,b∉X.fs
 funs:X.s₀.heap.FunFrames X.base X.outer
 frf:∀b∈X.fs,X.H₀ b=none
structure Inv (X:Cx)(pins:List (Zd×Obj))(σ:List (Option V))(H:Hp)(s:Zc):Prop where
 ok:X.Ok
 os:s.os=X.s₀.os
 bare:Zdg s.gens
 base:Un X.fs X.ex X.H₀ H X.s₀.heap s.heap
 loc:∃m,s.heap.Ns X.env.locals m/\∀(i:Nat)(x:Str)(v:V),X.N[i]?=some x->σ[i]?=some (some v)->Vis X.env.scope x->∃u,RelV v u/\Look X.env s.heap m x u
 cell:∀x c,X.env.cells.lookup x=some c->∃v,s.heap.IsCell c v
 free:H X.env.locals=none
 freeC:∀x c,X.env.cells.lookup x=some c->H c=none
 pin:∀p∈X.pn++pins,s.heap.get? p.1=some p.2/\H p.1=none/\p.1≠X.env.locals/\p.1∉X.fs/\∀v,p.2.data≠.cell v
 hok:HOk X.prog X.w H s.heap
 len:σ.length=X.N.length
section
variable {X:Cx}{pins:List (Zd×Obj)}{σ:List (Option V)}{H H':Hp}{s:Zc}{h':Zag}
theorem Cx.Ok.nofr (ok:X.Ok){b:Zd}{o:Obj}(e:X.base.get? b=some o):b∉X.fs:=λ hb=>by
 have:=(ok.funs.mem hb).1
 rw[e] at this;cases this
theorem Inv.bs (I:Inv X pins σ H s):∀b o,X.base.get? b=some o->s.heap.get? b=some o/\H b=none:=λ b o e =>
 ⟨I.base.keep b o (I.ok.bs b o e).1 (I.ok.bs b o e).2 (I.ok.nofr e) (I.ok.noex b o e),I.base.free b o (I.ok.bs b o e).1 (I.ok.bs b o e).2 (I.ok.noex b o e)⟩
theorem Inv.bk (I:Inv X pins σ H s):∀b o,X.base.get? b=some o->s.heap.get? b=some o:=λ b o e=>(I.bs b o e).1
theorem Inv.mod (I:Inv X pins σ H s):Mod X.K X.mg X.base:=I.ok.mod
theorem Inv.kIn (I:Inv X pins σ H s):X.K.In s.heap:=I.ok.mod.kin.keeps I.bk
theorem Inv.lt (I:Inv X pins σ H s):X.env.locals<s.heap.objs.size:=let ⟨_,hn,_⟩:=I.loc;hn.lt
theorem Inv.sz (I:Inv X pins σ H s):X.s₀.heap.objs.size<=s.heap.objs.size:=ZO I.ok.above (ZbF I.lt)
theorem Inv.nofs (I:Inv X pins σ H s){a:Zd}(h:s.heap.objs.size<=a):a∉X.fs:=λ hb=>by
 obtain⟨_,o,ho,_⟩:=I.ok.funs.mem hb
 exact absurd (ZE (Zv ho) (ZO I.sz h)) (Zch _)
theorem Inv.cne (I:Inv X pins σ H s):∀x c,X.env.cells.lookup x=some c->c≠X.env.locals:=λ x c e z=>by
 obtain⟨v,o,ho,hd⟩:=I.cell x c e
 obtain⟨m,⟨o',es,ep,ho',hd',_⟩,_⟩:=I.loc
 rw[z,ho'] at ho;cases ho;rw[hd'] at hd;cases hd
theorem Inv.funs (I:Inv X pins σ H s):s.heap.FunFrames X.base X.outer:=by
 have all:∀(l:List Env),(∀b∈frs l,b∈X.fs)->X.s₀.heap.FunFrames X.base l->s.heap.FunFrames X.base l:=by
  intro l
  induction l with
  | nil=>intro _ _;trivial
  | cons env r ih =>
   intro hs hl
   obtain⟨hk,⟨L,o,hf,hn,ho,hd⟩,hr⟩:=hl
   have hL:L∈X.fs:=hs L (by unfold frs;rw[Zdd,hf];exact Z3)
   obtain⟨sl,e⟩:=I.base.slot L o ho (I.ok.frf L hL) hL λ z=>I.ok.exfs L z hL
   exact⟨hk,⟨L,_,hf,hn,e,hd⟩,ih (λ b hb=>hs b (by unfold frs;rw[Zdd,hf];exact Zm _ hb)) hr⟩
 exact all X.outer (λ _ hb=>hb) I.ok.funs
theorem Inv.stack (I:Inv X pins σ H s):s.heap.FunFrames X.base X.stack:=by
 rcases I.ok.stk with e|⟨e,hf⟩
 ·rw[e];exact I.funs
 ·rw[e]
  obtain⟨m,hn,_⟩:=I.loc
  refine .cons (by rw[I.ok.kind];decide) hf hn ?_ I.funs
  exact Heap.get?_none_of_le (ZO I.ok.bsz I.ok.above)
theorem Inv.stkSub (I:Inv X pins σ H s):∀b∈frs X.stack,b∈X.env.locals::X.fs:=λ b hb=>by
 rcases I.ok.stk with e|⟨e,hf⟩
 ·rw[e] at hb;exact Zm _ hb
 ·rw[e] at hb
  unfold frs at hb
  rw[Zdd,hf] at hb
  exact hb
theorem Inv.stkFree (I:Inv X pins σ H s):∀b∈frs X.stack,H b=none:=λ b hb=>by
 rcases Z4.mp (I.stkSub b hb) with e|hb
 ·rw[e];exact I.free
 ·obtain⟨_,o,ho,_⟩:=I.ok.funs.mem hb
  exact I.base.free b o ho (I.ok.frf b hb) λ z=>I.ok.exfs b z hb
theorem Inv.step {g':Array GenState}{t':Nat}{d':Drawn}{ch:List Zd}(I:Inv X pins σ H s)
  (hch:∀b∈ch,(b∈X.ex∨X.s₀.heap.objs.size<=b)/\b≠X.env.locals/\(∀x c,X.env.cells.lookup x=some c->c≠b)/\∀p∈X.pn++pins,p.1≠b)
  (keep:∀b o,b≠X.env.locals->b∉X.fs->b∉ch->s.heap.get? b=some o->H b=none->h'.get? b=some o)
  (slot:∀b o,b≠X.env.locals->b∈X.fs->b∉ch->s.heap.get? b=some o->H b=none->∃sl,h'.get? b=some { o with slots:=sl })(free:∀b o,b∉ch->s.heap.get? b=some o->H b=none->H' b=none)
  (there:∀b o,b∉ch->s.heap.get? b=some o->∃o',h'.get? b=some o')
  (tups:∀b xs,H b=some (.tup xs)->H' b=some (.tup xs))(frzs:∀b o u,H b=some (.frz o u)->H' b=some (.frz o u))(tbls:∀b ps,H b=some (.tbl ps)->∃more,H' b=some (.tbl (ps++more)))
  (ns:∀m,s.heap.Ns X.env.locals m->h'.Ns X.env.locals m)(hok:HOk X.prog X.w H' h')(hg:Zdg g') :
  Inv X pins σ H' { s with heap:=h',gens:=g',drawn:=d',toks:=t' }:=by
 have neL:∀b o,X.s₀.heap.get? b=some o->b≠X.env.locals:=λ b o e=>Z1 (ZE (Zv e) I.ok.above)
 have neC:∀b o,X.s₀.heap.get? b=some o->b∉X.ex->b∉ch:=λ b o e hx hb=>by
  rcases(hch b hb).1 with z|z
  ·exact hx z
  ·exact absurd (ZE (Zv e) z) (Zch _)
 have cellK:∀x c,X.env.cells.lookup x=some c->∀v,s.heap.IsCell c v->h'.IsCell c v:=λ x c e v ⟨o,ho,hd⟩=>by
  have nch:c∉ch:=λ z=>(hch c z).2.2.1 x c e rfl
  by_cases hc:c∈X.fs
  ·obtain⟨sl,q⟩:=slot c o (I.cne x c e) hc nch ho (I.freeC x c e)
   exact⟨_,q,hd⟩
  ·exact⟨o,keep c o (I.cne x c e) hc nch ho (I.freeC x c e),hd⟩
 refine⟨I.ok,I.os,hg,⟨λ b o e n hb hx=>?_,λ b o e n hb hx=>?_,λ b o e n hx=>?_,λ b o e hx=>?_,λ b xs e=>tups b xs (I.base.tups b xs e),λ b o xs e=>frzs b o xs (I.base.frzs b o xs e),λ b ps e=>?_⟩,?_,λ x c e=>?_,?_,λ x c e=>?_,λ p hp=>?_,hok,I.len⟩
 ·exact keep b o (neL b o e) hb (neC b o e hx) (I.base.keep b o e n hb hx) (I.base.free b o e n hx)
 ·obtain⟨sl,e1⟩:=I.base.slot b o e n hb hx
  obtain⟨sl',e2⟩:=slot b _ (neL b o e) hb (neC b o e hx) e1 (I.base.free b o e n hx)
  exact⟨sl',e2⟩
 ·obtain⟨o',e1⟩:=I.base.there b o e hx
  exact free b o' (neC b o e hx) e1 (I.base.free b o e n hx)
 ·obtain⟨o',e1⟩:=I.base.there b o e hx
  exact there b o' (neC b o e hx) e1
 ·obtain⟨m1,e1⟩:=I.base.tbls b ps e
  obtain⟨m2,e2⟩:=tbls b _ e1
  exact⟨m1++m2,by rw[e2,Array.append_assoc]⟩
 ·obtain⟨m,hn,hl⟩:=I.loc
  refine⟨m,ns m hn,λ i x v e1 e2 e3=>?_⟩
  obtain⟨u,r,l⟩:=hl i x v e1 e2 e3
  refine⟨u,r,?_⟩
  rcases l with l|⟨k,c,e,z⟩
  ·exact .inl l
  ·exact .inr ⟨k,c,e,cellK x c e _ z⟩
 ·obtain⟨v,z⟩:=I.cell x c e
  exact⟨v,cellK x c e v z⟩
 ·obtain⟨m,⟨o,_,_,ho,_⟩,_⟩:=I.loc
  exact free _ o (λ z=>(hch _ z).2.1 rfl) ho I.free
 ·obtain⟨v,o,ho,hd⟩:=I.cell x c e
  exact free c o (λ z=>(hch c z).2.2.1 x c e rfl) ho (I.freeC x c e)
 ·obtain⟨e,n,ne,nf,d⟩:=I.pin p hp
  have nch:p.1∉ch:=λ z=>(hch p.1 z).2.2.2 p hp rfl
  exact⟨keep p.1 p.2 ne nf nch e n,free p.1 p.2 nch e n,ne,nf,d⟩
theorem Inv.un {t':Nat}(I:Inv X pins σ H s)(u:Un X.fs [] H H' s.heap h')(hok:HOk X.prog X.w H' h'):Inv X pins σ H' { s with heap:=h',toks:=t' }:=by
 obtain⟨m,⟨o,es,ep,ho,r⟩,_⟩:=id I.loc
 obtain⟨sl,hL⟩:=u.any ho I.free (by simp)
 exact I.step (g':=s.gens) (d':=s.drawn) (ch:=[]) (λ _ z=>nomatch z) (λ b o _ hb _ e n=>u.keep b o e n hb (by simp)) (λ b o _ hb _ e n=>u.slot b o e n hb (by simp)) (λ b o _ e n=>u.free b o e n (by simp)) (λ b o _ e=>u.there b o e (by simp)) u.tups u.frzs u.tbls (λ m' hm=>by
  obtain⟨o',es',ep',ho',r'⟩:=hm
  rw[ho] at ho';cases ho'
  exact⟨_,es',ep',hL,r'⟩) hok I.bare
theorem Inv.call {g':Array GenState}{t':Nat}{d':Drawn}{ch:List Zd}(I:Inv X pins σ H s)(u:Un (frs X.stack) ch H H' s.heap h')(hok:HOk X.prog X.w H' h')(hg:Zdg g')
  (hch:∀b∈ch,(b∈X.ex∨X.s₀.heap.objs.size<=b)/\b≠X.env.locals/\(∀x c,X.env.cells.lookup x=some c->c≠b)/\∀p∈X.pn++pins,p.1≠b) :
  Inv X pins σ H' { s with heap:=h',gens:=g',drawn:=d',toks:=t' }:=by
 obtain⟨m,⟨o,es,ep,ho,r⟩,_⟩:=id I.loc
 obtain⟨sl,hL⟩:=u.any ho I.free λ z=>(hch _ z).2.1 rfl
 exact I.step (ch:=ch) hch (λ b o hL hb hc e n=>u.keep b o e n (λ z=>(Z4.mp (I.stkSub b z)).elim hL hb) hc) (λ b o _ _ hc e n=>u.any e n hc) (λ b o hc e n=>u.free b o e n hc) (λ b o hc e=>u.there b o e hc) u.tups u.frzs u.tbls (λ m' hm=>by
  obtain⟨o',es',ep',ho',r'⟩:=hm
  rw[ho] at ho';cases ho'
  exact⟨_,es',ep',hL,r'⟩) hok hg
theorem Inv.turned {t':Nat}{it:Zd}(I:Inv X pins σ H s)(k:∀b o,b≠it->s.heap.get? b=some o->h'.get? b=some o)(hn:H it=none)(hL:it≠X.env.locals)
  (h1:it∈X.ex∨X.s₀.heap.objs.size<=it)(h2:∀x c,X.env.cells.lookup x=some c->c≠it)(h3:∀p∈X.pn++pins,p.1≠it):Inv X pins σ H { s with heap:=h',toks:=t' }:=by
 have nit:∀b u,H b=some u->b≠it:=λ b u e z=>by rw[z,hn] at e;cases e
 refine I.step (g':=s.gens) (d':=s.drawn) (ch:=[it]) (λ b hb=>?_) (λ b o _ _ hc e _=>k b o (λ z=>hc (by simp[z])) e) (λ b o _ _ hc e _=>⟨o.slots,k b o (λ z=>hc (by simp[z])) e⟩) (λ _ _ _ _ n=>n)
  (λ b o hc e=>⟨o,k b o (λ z=>hc (by simp[z])) e⟩) (λ _ _ e=>e) (λ _ _ _ e=>e) (λ b ps e=>⟨#[],by rw[e];simp⟩) (λ m hm=>?_) (λ b u e=>?_) I.bare
 ·have e:b=it:=by simpa using hb
  subst e
  exact⟨h1,hL,h2,h3⟩
 ·obtain⟨o,es,ep,ho,r⟩:=hm
  exact⟨o,es,ep,k _ o (ZK hL) ho,r⟩
 ·refine(I.hok b u e).stay (λ c v hc q=>k c v ?_ q) (λ _ q=>q) λ _ _ q=>q
  rcases hc with z|z
  ·rw[z];exact nit b u e
  ·exact nit c _ z
theorem Inv.tok (I:Inv X pins σ H s)(t:Nat):Inv X pins σ H { s with toks:=t }:=I.un (h':=s.heap) (t':=t) Un.refl I.hok
theorem Inv.kept {t':Nat}(I:Inv X pins σ H s)(k:∀b u,s.heap.get? b=some u->h'.get? b=some u):Inv X pins σ H { s with heap:=h',toks:=t' }:=I.un (Un.kept k) (I.hok.kept k)
theorem Inv.laid {a:Zd}{o:HO}{t':Nat}(I:Inv X pins σ H s)(k:∀b u,s.heap.get? b=some u->h'.get? b=some u)(hp:s.heap.objs.size<=a)(new:JG X.prog X.w (upd H a o) h' a o) :
  Inv X pins σ (upd H a o) { s with heap:=h',toks:=t' }:=I.un (Un.laid k hp (I.hok.fresh hp)) (I.hok.laid k hp new)
theorem Inv.write {x e:Zd}{o:HO}{t':Nat}(I:Inv X pins σ H s)(mu:Mut (H x))(he:e=x∨H e=some (.own x))(k:∀b u,b≠e->s.heap.get? b=some u->h'.get? b=some u)(heo:∃u,h'.get? e=some u)
  (new:JG X.prog X.w (upd H x o) h' x o):Inv X pins σ (upd H x o) { s with heap:=h',toks:=t' }:=I.un (Un.write mu he k heo) (I.hok.write mu he k heo new)
theorem Inv.pins_of {pins':List (Zd×Obj)}(I:Inv X pins σ H s)(h:∀p∈pins',s.heap.get? p.1=some p.2/\H p.1=none/\p.1≠X.env.locals/\p.1∉X.fs/\∀v,p.2.data≠.cell v):Inv X pins' σ H s :=
 ⟨I.ok,I.os,I.bare,I.base,I.loc,I.cell,I.free,I.freeC,λ p hp=>(ZS.mp hp).elim (λ z=>I.pin p (Zam _ z)) (h p),I.hok,I.len⟩
theorem Jo0 {N:List Str}(hN:N.Nodup){i j:Nat}{x:Str}(a:N[i]?=some x)(b:N[j]?=some x):i=j:=by
 obtain⟨h1,e1⟩:=Zk.mp a
 obtain⟨h2,e2⟩:=Zk.mp b
 exact(ZcI hN).mp (e1.trans e2.symm)
theorem Jtg {M:Model}{A:ZI}{E:Za->Zc->Prop}{i:Nat}{x:Str}{v:V}{u:Za}{Q:Unit->Zc->Prop}(I:Inv X pins σ H s)(hN:X.N.Nodup)(hi:X.N[i]?=some x)(hx:Loc X.env.scope x)(r:RelV v u)
  (h:∀s',Inv X pins (σ.set i (some v)) H s'->(∃a,Zc4 a s.heap s'.heap/\(a=X.env.locals∨X.env.cells.lookup x=some a))->Q () s')(hf:X.fn x=true∨X.env.scope.names.lookup x=some .local:=by assumption):Zs M A (storeName X.env x u) Q E s:=by
 obtain⟨m,hn,hl⟩:=id I.loc
 have hcls:(X.env.scope.kind==.class||(X.env.scope.kind==.module&&X.env.locals != X.env.globals))=false:=by rw[I.ok.kind];rfl
 have hiσ:i<σ.length:=by rw[I.len];exact(Zk.mp hi).1
 have cne:=I.cne
 have tracked:∀{a:Zd}{h':Zag},(∃o,s.heap.get? a=some o/\H a=none)->Zc4 a s.heap h'->HOk X.prog X.w H h':=λ {a h'} ha hs b ob e=>by
  obtain⟨_,_,hfree⟩:=ha
  refine(I.hok b ob e).stay (λ c w' hc q=>(hs.2 c ?_).trans q) (λ _ q=>q) λ _ _ q=>q
  rintro rfl
  rcases hc with rfl|hc
  ·rw[hfree] at e;cases e
  ·rw[hfree] at hc;cases hc
 rcases hx with hk|hk
 ·refine wpAny_storeName_local hk hn (λ h' hn' hs=>?_) hcls
  obtain⟨oL,_,_,hoL,_⟩:=id hn
  refine h _ ⟨I.ok,I.os,I.bare,⟨λ b o e n hb hx=>?_,λ b o e n hb hx=>?_,I.base.free,λ b o e hx=>?_,I.base.tups,I.base.frzs,I.base.tbls⟩,⟨_,hn',λ j y v' e1 e2 e3=>?_⟩,λ y c e=>?_,I.free,I.freeC,λ p hp=>?_,tracked ⟨oL,hoL,I.free⟩ hs,by simpa using I.len⟩ ⟨_,hs,.inl rfl⟩
  ·exact(hs.2 b (Z1 (ZE (Zv e) I.ok.above))).trans (I.base.keep b o e n hb hx)
  ·obtain⟨sl,e1⟩:=I.base.slot b o e n hb hx
   exact⟨sl,(hs.2 b (Z1 (ZE (Zv e) I.ok.above))).trans e1⟩
  ·obtain⟨o',e1⟩:=I.base.there b o e hx
   exact⟨o',(hs.2 b (Z1 (ZE (Zv e) I.ok.above))).trans e1⟩
  ·by_cases hj:j=i
   ·subst hj
    rw[hi] at e1;cases e1
    rw[ZG hiσ] at e2
    cases e2
    exact⟨u,r,.inl ⟨hk,by simp⟩⟩
   ·rw[ZC (ZK hj)] at e2
    obtain⟨u',r',q⟩:=hl j y v' e1 e2 e3
    refine⟨u',r',?_⟩
    rcases q with⟨k,e⟩|⟨k,c,e,z⟩
    ·refine .inl ⟨k,?_⟩
     have:y≠x:=λ e=>hj (Jo0 hN e1 (e▸hi))
     simp[this,e]
    ·exact .inr ⟨k,c,e,z.sameBut hs (cne y c e)⟩
  ·obtain⟨w',z⟩:=I.cell y c e
   exact⟨w',z.sameBut hs (cne y c e)⟩
  ·obtain⟨e,n,ne,nf,d⟩:=I.pin p hp
   exact⟨(hs.2 p.1 ne).trans e,n,ne,nf,d⟩
 ·have hfn:X.fn x=true:=by
   rcases hf with z|z
   ·exact z
   ·rw[z] at hk;cases hk
  obtain⟨c,hc⟩:=I.ok.has x (.inl hk)
  obtain⟨w',z⟩:=I.cell x c hc
  refine wpAny_storeName_cell I.ok.kind hk hc z (λ h' hc' hs=>?_)
  obtain⟨oc,hoc,hocd⟩:=id z
  refine h { s with heap:=h' } ⟨I.ok,I.os,I.bare,⟨λ b o e n hb hx=>?_,λ b o e n hb hx=>?_,I.base.free,λ b o e hx=>?_,I.base.tups,I.base.frzs,I.base.tbls⟩,⟨m,hn.sameBut hs (ZK (cne x c hc)),λ j y v' e1 e2 e3=>?_⟩,λ y c' e=>?_,I.free,I.freeC,λ p hp=>?_,tracked ⟨oc,hoc,I.freeC x c hc⟩ hs,by simpa using I.len⟩ ⟨c,hs,.inr hc⟩
  ·exact(hs.2 b (Z1 (ZE (Zv e) (I.ok.cab x c hfn hc)))).trans (I.base.keep b o e n hb hx)
  ·obtain⟨sl,e1⟩:=I.base.slot b o e n hb hx
   exact⟨sl,(hs.2 b (Z1 (ZE (Zv e) (I.ok.cab x c hfn hc)))).trans e1⟩
  ·obtain⟨o',e1⟩:=I.base.there b o e hx
   exact⟨o',(hs.2 b (Z1 (ZE (Zv e) (I.ok.cab x c hfn hc)))).trans e1⟩
  ·by_cases hj:j=i
   ·subst hj
    rw[hi] at e1;cases e1
    rw[ZG hiσ] at e2
    cases e2
    exact⟨u,r,.inr ⟨.inl hk,c,hc,hc'⟩⟩
   ·rw[ZC (ZK hj)] at e2
    obtain⟨u',r',q⟩:=hl j y v' e1 e2 e3
    refine⟨u',r',?_⟩
    rcases q with q|⟨k,c',e,z'⟩
    ·exact .inl q
    ·refine .inr ⟨k,c',e,z'.sameBut hs ?_⟩
     rintro rfl
     exact hj (Jo0 hN e1 (I.ok.inj _ _ _ e hc▸hi))
  ·by_cases hcc:c'=c
   ·subst hcc;exact⟨_,hc'⟩
   ·obtain⟨w2,z2⟩:=I.cell y c' e
    exact⟨w2,z2.sameBut hs hcc⟩
  ·obtain⟨e,n,ne,nf,d⟩:=I.pin p hp
   refine⟨(hs.2 p.1 ?_).trans e,n,ne,nf,d⟩
   intro q
   rw[q,hoc] at e
   have q':oc=p.2:=Zab e
   exact d w' (by rw[<- q'];exact hocd)
theorem Jf7 {M:Model}{A:ZI}{E:Za->Zc->Prop}{i:Nat}{x:Str}{v:V}{u:Za}{Q:Unit->Zc->Prop}(I:Inv X pins σ H s)(hN:X.N.Nodup)(hi:X.N[i]?=some x)(hx:Loc X.env.scope x)(r:RelV v u)
  (h:∀s',Inv X pins (σ.set i (some v)) H s'->Q () s')(hf:X.fn x=true∨X.env.scope.names.lookup x=some .local:=by assumption):Zs M A (storeName X.env x u) Q E s :=
 Jtg I hN hi hx r (λ s' I' _=>h s' I') hf
theorem Inv.call' {s':Zc}{ch:List Zd}(I:Inv X pins σ H s)(ho:s'.os=s.os)(u:Un (frs X.stack) ch H H' s.heap s'.heap)(hok:HOk X.prog X.w H' s'.heap)(hg:Zdg s'.gens)
  (hch:∀b∈ch,(b∈X.ex∨X.s₀.heap.objs.size<=b)/\b≠X.env.locals/\(∀x c,X.env.cells.lookup x=some c->c≠b)/\∀p∈X.pn++pins,p.1≠b):Inv X pins σ H' s':=by
 obtain⟨h',g',d',t',o'⟩:=s'
 have e:o'=s.os:=ho
 subst e
 exact I.call (g':=g') (t':=t') (d':=d') u hok hg hch
end
abbrev XK:=Za->Option Zd->Hp->Prop
abbrev St:=List (Option V)
abbrev VK:=V->Hp->Prop
abbrev TE:=St->Hp->VK->Prop
abbrev TT:=St->Hp->(Bool->Hp->Prop)->Prop
abbrev TA:=St->Hp->(List V->Hp->Prop)->Prop
structure Ends where
 nx:St->Hp->Prop
 rt:VK
 bk:St->Hp->Prop:=λ _ _=>False
 ct:St->Hp->Prop:=λ _ _=>False
abbrev TS:=Ends->St->Hp->Prop
def EP (X:Cx)(pins:List (Zd×Obj))(σ:St)(Q:VK)(u:Za)(s':Zc):Prop:=∃v H',Inv X pins σ H' s'/\RelV v u/\Q v H'
def TP (X:Cx)(pins:List (Zd×Obj))(σ:St)(Q:Bool->Hp->Prop)(b:Bool)(s':Zc):Prop:=∃H',Inv X pins σ H' s'/\Q b H'
def SP (X:Cx)(pins:List (Zd×Obj))(D:Ends)(f:Flow)(s':Zc):Prop :=
 match f with
 | .next=>∃σ' H',Inv X pins σ' H' s'/\D.nx σ' H'
 | .brk=>∃σ' H',Inv X pins σ' H' s'/\D.bk σ' H'
 | .cont=>∃σ' H',Inv X pins σ' H' s'/\D.ct σ' H'
 | .ret u=>∃v σ' H',Inv X pins σ' H' s'/\RelV v u/\D.rt v H'
def PE (X:Cx)(e:Expr)(t:TE):Prop :=
 ∀(pins:List (Zd×Obj))(s:Zc)(σ:St)(H:Hp)(Q:VK),Inv X pins σ H s->t σ H Q->Zs (Z6 X.prog X.w) X.A (ZaK e X.env) (EP X pins σ Q) X.xe s
def PSs (X:Cx)(st:List ZcY)(t:TS):Prop :=
 ∀(pins:List (Zd×Obj))(s:Zc)(σ:St)(H:Hp)(D:Ends),Inv X pins σ H s->t D σ H->Zs (Z6 X.prog X.w) X.A (execs st X.env) (SP X pins D) X.xe s
theorem thn {α:Type}{t:Sem α}{Q Q':α->Zc->Prop}{M:Model}{A:ZI}{E:Za->Zc->Prop}{s:Zc}(h:Zs M A t Q E s)(hQ:∀a s,Q a s->Q' a s):Zs M A t Q' E s:=Zae h hQ λ _ _ x=>x
section
variable {X:Cx}
def tVar (i:Nat):TE:=λ σ H Q=>∃v,σ[i]?=some (some v)/\Q v H
def tC (v:V):TE:=λ _ H Q=>Q v H
theorem J2j {i:Nat}{x:Str}{pos:Pos}(hN:X.N[i]?=some x)(hv:Vis X.env.scope x)(hd:(x==("__debug__":Str))=false:=by decide)(hcd:(x==("__classdict__":Str))=false:=by decide):PE X (.Name x pos) (tVar i):=by
 intro pins s σ H Q I h
 obtain⟨v,e,h⟩:=h
 obtain⟨m,hn,hl⟩:=I.loc
 obtain⟨u,r,l⟩:=hl i x v hN e hv
 have fin:EP X pins σ Q u s:=⟨v,H,I,r,h⟩
 rcases l with⟨hk,hm⟩|⟨hk,c,hc,hcell⟩
 ·exact wpAny_Name (wpAny_loadName_local I.ok.kind hk hn hm fin) hd
 ·rcases hk with hk|hk
  ·exact wpAny_Name (wpAny_loadName_cell I.ok.kind hk hc hcell fin) hd
  ·exact wpAny_Name (wpAny_loadName_free I.ok.kind hk hc hcell fin hcd) hd
theorem J2g {i j pos}:PE X (.Constant (.int i) j pos) (tC (.int i)):=λ _ _ _ H _ I h=>wpAny_Constant_int ⟨.int i,H,I.tok _,⟨_,rfl⟩,h⟩
theorem J4r {b j pos}:PE X (.Constant (.bool b) j pos) (tC (.bl b)):=λ _ _ _ H _ I h=>Constant_bool ⟨.bl b,H,I,rfl,h⟩
theorem J2h {j pos}:PE X (.Constant .none j pos) (tC .non):=λ _ _ _ H _ I h=>Constant_none ⟨.non,H,I,rfl,h⟩
theorem J2i {x j pos}:PE X (.Constant (.str x) j pos) (tC (.str x)):=λ _ _ _ H _ I h=>Calls.Constant_str ⟨.str x,H,I.tok _,⟨_,rfl⟩,h⟩
def Gl (X:Cx)(x:Str):Prop:=X.env.kindOf x=some .globalImplicit
theorem VW {E:Za->Zc->Prop}{pins:List (Zd×Obj)}{s:Zc}{σ:St}{H:Hp}{x:Str}{u:Za}{pos:Pos}{Q:Za->Zc->Prop}(I:Inv X pins σ H s)(hg:Gl X x)(hm:X.mg x=some u)(h:Q u s)
  (hd:(x==("__debug__":Str))=false:=by decide):Zs (Z6 X.prog X.w) X.A (ZaK (.Name x pos) X.env) Q E s :=
 Zdl I.ok.kind hg (Calls.loadGlobal_global (by rw[I.ok.glob];exact I.mod.glob.keeps I.bk) hm h) hd
theorem QC {E:Za->Zc->Prop}{pins:List (Zd×Obj)}{s:Zc}{σ:St}{H:Hp}{x:Str}{u:Za}{pos:Pos}{Q:Za->Zc->Prop}(I:Inv X pins σ H s)(hg:Gl X x)(hm:X.mg x=none)(hv:ZbZ x=some u)(h:Q u s)
  (hn:x≠"__name__":=by decide)(hd:(x==("__debug__":Str))=false:=by decide):Zs (Z6 X.prog X.w) X.A (ZaK (.Name x pos) X.env) Q E s:=by
 obtain⟨mb,h1,h2⟩:=I.mod.blt
 exact Zdl I.ok.kind hg (Calls.loadGlobal_builtin (by rw[I.ok.glob];exact I.mod.glob.keeps I.bk) hm (by rw[I.ok.blt];exact h1.keeps I.bk) ((h2 x hn).trans hv) h) hd
theorem Jzm {x:Str}{v:V}{u:Za}{pos:Pos}(hg:Gl X x)(hm:X.mg x=some u)(r:RelV v u)(hd:(x==("__debug__":Str))=false:=by decide):PE X (.Name x pos) (tC v) :=
 λ _ _ _ H _ I h=>VW I hg hm ⟨v,H,I,r,h⟩ hd
variable {a b:Expr}{ta tb:TE}{pos:Pos}
variable {tA tB':TT}{rest:List Expr}
end
def SqL (K:W.Frag)(H:Hp)(a:Zd)(xs:List V):Prop :=
 Rd H a (.lst xs) ∨
  ∃(o:Obj) (its:Array Za) (n:Nat),K.lookup a=some o/\o.cls=.type "list"/\o.dict=none/\o.data=.seq its n/\its.size<=sizeLine/\Vals xs its.toList
def SqT (K:W.Frag)(H:Hp)(a:Zd)(xs:List V):Prop :=
 Rd H a (.tup xs) ∨
  ∃(o:Obj) (its:Array Za) (n:Nat),K.lookup a=some o/\o.cls=.type "tuple"/\o.data=.seq its n/\its.size<=sizeLine/\Vals xs its.toList
def absV:Za->Option V
 | .none=>some .non
 | .bool b=>some (.bl b)
 | .int i _=>some (.int i)
 | .str x _=>some (.str x)
 | .bytes b _=>some (.byt b)
 | .float b _=>some (.flt b)
 | .ref a=>some (.ref a)
 | .type n=>some (.ty n)
 | _=>none
theorem RelV.abs {x:V}{u:Za}(r:RelV x u):absV u=some x:=by
 cases x with
 | non=>cases r;rfl
 | bl _=>cases r;rfl
 | int _=>obtain⟨t,rfl⟩:=r;rfl
 | str _=>obtain⟨t,rfl⟩:=r;rfl
 | byt _=>obtain⟨t,rfl⟩:=r;rfl
 | flt _=>obtain⟨t,rfl⟩:=r;rfl
 | ref _=>cases r;rfl
 | ty _=>cases r;rfl
theorem RelV.inj {x y:V}{u:Za}(r:RelV x u)(q:RelV y u):x=y:=Zab (r.abs.symm.trans q.abs)
theorem Vals.inj:∀{xs ys:List V}{us:List Za},Vals xs us->Vals ys us->xs=ys
 | _,_,_,.nil,.nil=>rfl
 | _,_,_,.cons r t,.cons r' t'=>by rw[r.inj r',Vals.inj t t']
section
variable {X:Cx}{pins:List (Zd×Obj)}{σ:St}{H:Hp}{s:Zc}{a:Zd}{xs ys:List V}
theorem SqL.of {K:W.Frag}(h:H a=some (.lst xs)):SqL K H a xs:=.inl (.inl h)
theorem SqT.of {K:W.Frag}(h:H a=some (.tup xs)):SqT K H a xs:=.inl (.inl h)
theorem Inv.list (I:Inv X pins σ H s)(h:SqL X.K H a xs):∃its:List Za,Vals xs its/\PlainL s.heap a its.toArray/\xs.length<=sizeLine:=by
 rcases h with h|⟨o,its,n,hk,hc,hd,hs,hz,r⟩
 ·obtain⟨z,its,n,r,e⟩:=h.ok I.hok
  exact⟨its,r,⟨_,n,e,rfl,rfl,rfl⟩,z⟩
 ·refine⟨its.toList,r,⟨o,n,I.kIn a o hk,hc,hd,by simpa using hs⟩,?_⟩
  have e:=r.length
  simp only[Zba] at e
  omega
theorem Inv.tuple (I:Inv X pins σ H s)(h:SqT X.K H a xs):∃its:List Za,Vals xs its/\IsTup s.heap a its.toArray/\xs.length<=sizeLine:=by
 rcases h with h|⟨o,its,n,hk,hc,hs,hz,r⟩
 ·obtain⟨z,its,r,p⟩:=h.ok I.hok
  exact⟨its,r,p,z⟩
 ·refine⟨its.toList,r,⟨o,I.kIn a o hk,hc,n,by simpa using hs⟩,?_⟩
  have e:=r.length
  simp only[Zba] at e
  omega
theorem Inv.list_inj (I:Inv X pins σ H s)(h:SqL X.K H a xs)(h':SqL X.K H a ys):xs=ys:=by
 obtain⟨its,r,⟨o,n,e,_,_,d⟩,_⟩:=I.list h
 obtain⟨its',r',⟨o',n',e',_,_,d'⟩,_⟩:=I.list h'
 rw[e] at e';cases e'
 rw[d] at d'
 injection d' with d1 _
 have:its=its':=by simpa using congrArg Array.toList d1
 subst this
 exact r.inj r'
theorem Inv.tuple_inj (I:Inv X pins σ H s)(h:SqT X.K H a xs)(h':SqT X.K H a ys):xs=ys:=by
 obtain⟨its,r,⟨o,e,_,n,d⟩,_⟩:=I.tuple h
 obtain⟨its',r',⟨o',e',_,n',d'⟩,_⟩:=I.tuple h'
 rw[e] at e';cases e'
 rw[d] at d'
 injection d' with d1 _
 have:its=its':=by simpa using congrArg Array.toList d1
 subst this
 exact r.inj r'
end
abbrev Cx.wish (X:Cx)(E:Za->Zc->Prop):Cx:={ X with xe:=E }
abbrev Cx.nox (X:Cx):Cx:=X.wish λ _ _=>False
theorem Cx.Ok.wish {X:Cx}(ok:X.Ok)(E:Za->Zc->Prop):(X.wish E).Ok :=
 ⟨ok.mod,ok.kind,ok.glob,ok.blt,ok.above,ok.inj,ok.has,ok.cab,ok.hd,ok.frames,ok.stk,ok.exf,ok.bs,ok.bsz,ok.noex,ok.exfs,ok.funs,ok.frf⟩
theorem Cx.Ok.unwish {X:Cx}{E:Za->Zc->Prop}(ok:(X.wish E).Ok):X.Ok :=
 ⟨ok.mod,ok.kind,ok.glob,ok.blt,ok.above,ok.inj,ok.has,ok.cab,ok.hd,ok.frames,ok.stk,ok.exf,ok.bs,ok.bsz,ok.noex,ok.exfs,ok.funs,ok.frf⟩
section
variable {X:Cx}{pins:List (Zd×Obj)}{σ:St}{H:Hp}{s:Zc}{E:Za->Zc->Prop}
theorem Inv.wish (I:Inv X pins σ H s)(E:Za->Zc->Prop):Inv (X.wish E) pins σ H s:=⟨I.ok.wish E,I.os,I.bare,I.base,I.loc,I.cell,I.free,I.freeC,I.pin,I.hok,I.len⟩
theorem Inv.unwish (I:Inv (X.wish E) pins σ H s):Inv X pins σ H s:=⟨I.ok.unwish,I.os,I.bare,I.base,I.loc,I.cell,I.free,I.freeC,I.pin,I.hok,I.len⟩
end
section
variable {X:Cx}{st:ZcY}{rest:List ZcY}{t u:TS}{e:Expr}{te:TE}{pos:Pos}
theorem Inv.quiet {pins:List (Zd×Obj)}{σ:St}{H:Hp}{s:Zc}(I:Inv X pins σ H s):interactive X.env=false:=by simp[interactive,I.ok.kind]
end
abbrev TSet:=V->V->V->Hp->(Hp->Prop)->Prop
def PSet (X:Cx)(t:TSet):Prop :=
 ∀(pins:List (Zd×Obj))(s:Zc)(σ:St)(H:Hp)(o i v:V)(ov iv u:Za)(Q:Hp->Prop),Inv X pins σ H s->RelV o ov->RelV i iv->RelV v u->t o i v H Q ->
  Zs (Z6 X.prog X.w) X.A (setItem ov iv u) (λ _ s'=>∃H',Inv X pins σ H' s'/\Q H') X.xe s
abbrev TIp:=V->V->Hp->VK->Prop
section
variable {X:Cx}{pos:Pos}
def ipI (f:Int->Int->Int):TIp:=λ x y H Q=>∃i j,x=.int i/\y=.int j/\Q (.int (f i j)) H
end
structure It where
 go:Nat->Hp->Prop
 yld:Nat->Hp->V->Hp->Prop
 stop:Nat->Hp->Prop
def FpOk (X:Cx)(pins:List (Zd×Obj))(H:Hp)(b:Zd):Prop :=
 H b=none/\b≠X.env.locals/\b∉X.fs/\(b∈X.ex∨X.s₀.heap.objs.size<=b)/\(∀x c,X.env.cells.lookup x=some c->c≠b)/\∀p∈X.pn++pins,p.1≠b
theorem Inv.fpOk {X:Cx}{pins:List (Zd×Obj)}{σ:St}{H H':Hp}{s:Zc}{b:Zd}(I:Inv X pins σ H s)(hb:s.heap.objs.size<=b)(hn:H' b=none):FpOk X pins H' b:=by
 refine⟨hn,ZaG (ZE I.lt hb),I.nofs hb,.inr (ZO I.sz hb),λ x c e z=>?_,λ p hp z=>?_⟩
 ·obtain⟨v,q⟩:=I.cell x c e
  exact absurd (ZE q.lt (by rw[z];exact hb)) (Zch _)
 ·exact absurd (ZE (Zv (I.pin p hp).1) (by rw[z];exact hb)) (Zch _)
structure Turn (P:Z5)(w:ZP)(K:W.Frag)(tg:Expr)(J:It)(fp:List Zd)(it:Zd)(tn:Nat->Zag->Prop):Prop where
 mem:it∈fp
 obj:∀i h,tn i h->∀b∈fp,∃o,h.get? b=some o/\∀v,o.data≠.cell v
 keep:∀i h h',tn i h->(∀b∈fp,∀o,h.get? b=some o->h'.get? b=some o)->tn i h'
 item:∀(X:Cx),X.prog=P->X.w=w->X.K=K->X.calm=true->∀(i:Nat)(pins:List (Zd×Obj))(s:Zc)(σ:St)(H:Hp)(E:Za->Zc->Prop),Inv X pins σ H s->(∀b∈fp,FpOk X pins H b)->tn i s.heap->J.go i H ->
  Zs (Z6 P w) X.A (ZbU (.ref it)) (λ r s1=>∃u,r=some u /\
   Zs (Z6 P w) X.A (Zco tg (.ref it) u) (λ _ s2=>∃x H',Inv X pins σ H' s2/\RelV x u/\J.yld i H x H'/\tn (i+1) s2.heap/\∀b∈fp,H' b=none) E s1) E s
 done:∀(X:Cx),X.prog=P->X.w=w->X.K=K->X.calm=true->∀(i:Nat)(pins:List (Zd×Obj))(s:Zc)(σ:St)(H:Hp)(E:Za->Zc->Prop),Inv X pins σ H s->(∀b∈fp,FpOk X pins H b)->tn i s.heap->J.stop i H ->
  Zs (Z6 P w) X.A (ZbU (.ref it)) (λ r s1=>r=none/\Inv X pins σ H s1) E s
 self:∀(A:ZI)(i:Nat)(s:Zc)(Q:Za->Zc->Prop)(E:Za->Zc->Prop),tn i s.heap->Q (.ref it) s->Zs (Z6 P w) A (Zeb (.ref it)) Q E s
abbrev TI:=St->Hp->(It->Hp->Prop)->Prop
def PIE (X:Cx)(pins:List (Zd×Obj))(σ:St)(tg:Expr)(R:It->Hp->Prop)(itv:Za)(s2:Zc):Prop :=
 ∃(it:Zd)(fp:List Zd)(tn:Nat->Zag->Prop)(J:It)(H':Hp),itv=.ref it/\Inv X pins σ H' s2/\Turn X.prog X.w X.K tg J fp it tn/\tn 0 s2.heap/\(∀b∈fp,FpOk X pins H' b)/\R J H'
def PI (X:Cx)(tg iter:Expr)(wi:TI):Prop :=
 ∀(pins:List (Zd×Obj))(s:Zc)(σ:St)(H:Hp)(R:It->Hp->Prop),Inv X pins σ H s->wi σ H R ->
  Zs (Z6 X.prog X.w) X.A (ZaK iter X.env) (λ v s1=>Zs (Z6 X.prog X.w) X.A (Zeb v) (PIE X pins σ tg R) X.xe s1) X.xe s
theorem Juf {M:Model}{A:ZI}{E:Za->Zc->Prop}{s:Zc}{tg:Expr}{it:Zd}{u:Za}{o:Obj}{n:String}{vs:Array Za}{Q:Unit->Zc->Prop}(ho:s.heap.get? it=some o)(hc:o.cls=.type n)(hd:o.data=.fields vs)
  (hn:["enumerate","zip","dict_itemiterator","dict_reverseitemiterator","odict_iterator","itertools.zip_longest","itertools.pairwise"].contains n=false)(hQ:Q () s):Zs M A (Zco tg (.ref it) u) Q E s:=by
 unfold Zco
 cases tg<;>first
  | exact Zu hQ
  | (cases u<;>first
    | exact Zu hQ
    | (refine Ze (wpAny_load ho ?_)
       rw[hc,hd]
       show Zs M A (if (["enumerate","zip","dict_itemiterator","dict_reverseitemiterator","odict_iterator","itertools.zip_longest","itertools.pairwise"].contains n&&vs[0]?==some (ZbG _))=true then _ else _) Q E s
       rw[if_neg (by intro h;rw[hn,Bool.false_and] at h;cases h)]
       exact Zu hQ))
def Itl (K:W.Frag)(a:Zd):It :=
 ⟨λ i H=>∃xs x,SqL K H a xs/\xs[i]?=some x,λ i H x H'=>H'=H/\∀xs,SqL K H a xs->xs[i]?=some x,λ i H=>∃xs,SqL K H a xs/\xs.length<=i⟩
def Itt (K:W.Frag)(a:Zd):It :=
 ⟨λ i H=>∃xs x,SqT K H a xs/\xs[i]?=some x,λ i H x H'=>H'=H/\∀xs,SqT K H a xs->xs[i]?=some x,λ i H=>∃xs,SqT K H a xs/\xs.length<=i⟩
def Itr (lo:Int)(n:Nat):It:=⟨λ i _=>i<n,λ i H x H'=>H'=H/\x=.int (lo+i),λ i _=>n<=i⟩
theorem Jm8 {P:Z5}{w:ZP}{K:W.Frag}{tg:Expr}(a it:Zd):Turn P w K tg (Itl K a) [it] it (λ i h=>h.IsListIter it a i) where
 mem:=by simp
 obj:=λ i h st b hb=>by
  have e:b=it:=by simpa using hb
  subst e
  obtain⟨o,e,c,d⟩:=st
  exact⟨o,e,λ v z=>by rw[d] at z;cases z⟩
 keep:=λ i h h' st k=>st.at λ o e=>k it (by simp) o e
 item:=by
  intro X hP hw hK hc i pins s σ H E I hf st hg
  subst hP hw hK
  obtain⟨xs,x,hq,hx⟩:=hg
  obtain⟨its,rv,p,hz⟩:=I.list hq
  obtain⟨u,hu,ru⟩:=rv.get hx
  obtain⟨f0,f1,f2,f3,f4,f5⟩:=hf it (by simp)
  refine ZdJ st p.isList (x:=u) (by simpa using hu) λ h' st' sb=>?_
  have I1:Inv X pins σ H { s with heap:=h' }:=I.turned (t':=s.toks) (λ b o hb e=>(sb.2 b hb).trans e) f0 f1 f3 f4 f5
  obtain⟨o,e,c,d⟩:=id st'
  exact⟨u,rfl,Juf (s:={ s with heap:=h' }) e c d (by decide) ⟨x,H,I1,ru,⟨rfl,λ ys hy=>by rw[I.list_inj hy hq];exact hx⟩,st',λ b hb=>(hf b hb).1⟩⟩
 done:=by
  intro X hP hw hK hc i pins s σ H E I hf st hg
  subst hP hw hK
  obtain⟨xs,hq,hx⟩:=hg
  obtain⟨its,rv,p,hz⟩:=I.list hq
  obtain⟨f0,f1,f2,f3,f4,f5⟩:=hf it (by simp)
  have hl:=rv.length
  exact ZdW (I.ok.hd hc) st p.isList (by simp;omega) λ h' eb=>⟨rfl,I.turned (t':=s.toks) (λ b o hb e=>eb b o hb e) f0 f1 f3 f4 f5⟩
 self:=λ _ _ _ _ _ st h=>wpAny_pyIter_listiter st h
theorem Jq3 {P:Z5}{w:ZP}{K:W.Frag}{tg:Expr}(a it:Zd):Turn P w K tg (Itt K a) [it] it (λ i h=>h.IsTupleIter it a i) where
 mem:=by simp
 obj:=λ i h st b hb=>by
  have e:b=it:=by simpa using hb
  subst e
  obtain⟨o,e,c,d⟩:=st
  exact⟨o,e,λ v z=>by rw[d] at z;cases z⟩
 keep:=λ i h h' st k=>st.at λ o e=>k it (by simp) o e
 item:=by
  intro X hP hw hK hc i pins s σ H E I hf st hg
  subst hP hw hK
  obtain⟨xs,x,hq,hx⟩:=hg
  obtain⟨its,rv,p,hz⟩:=I.tuple hq
  obtain⟨u,hu,ru⟩:=rv.get hx
  obtain⟨f0,f1,f2,f3,f4,f5⟩:=hf it (by simp)
  refine wpAny_pyNext_tuple_item st (show s.heap.IsTuple a its.toArray from p) (x:=u) (by simpa using hu) λ h' st' sb=>?_
  have I1:Inv X pins σ H { s with heap:=h' }:=I.turned (t':=s.toks) (λ b o hb e=>(sb.2 b hb).trans e) f0 f1 f3 f4 f5
  obtain⟨o,e,c,d⟩:=id st'
  exact⟨u,rfl,Juf (s:={ s with heap:=h' }) e c d (by decide) ⟨x,H,I1,ru,⟨rfl,λ ys hy=>by rw[I.tuple_inj hy hq];exact hx⟩,st',λ b hb=>(hf b hb).1⟩⟩
 done:=by
  intro X hP hw hK hc i pins s σ H E I hf st hg
  subst hP hw hK
  obtain⟨xs,hq,hx⟩:=hg
  obtain⟨its,rv,p,hz⟩:=I.tuple hq
  obtain⟨f0,f1,f2,f3,f4,f5⟩:=hf it (by simp)
  have hl:=rv.length
  exact wpAny_pyNext_tuple_end (I.ok.hd hc) st (show s.heap.IsTuple a its.toArray from p) (by simp;omega) λ h' eb=>⟨rfl,I.turned (t':=s.toks) (λ b o hb e=>eb b o hb e) f0 f1 f3 f4 f5⟩
 self:=λ _ _ _ _ _ st h=>wpAny_pyIter_tupleiter st h
theorem Jq2 {P:Z5}{w:ZP}{K:W.Frag}{tg:Expr}(it:Zd)(lo:Int)(n:Nat):Turn P w K tg (Itr lo n) [it] it (λ i h=>IsRangeIter h it (lo+(i:Nat)*1) ((n:Int)-(i:Nat)) 1) where
 mem:=by simp
 obj:=λ i h st b hb=>by
  have e:b=it:=by simpa using hb
  subst e
  exact⟨_,st,λ v z=>by
   have z':Data.fields _=Ze5 v:=z
   cases z'⟩
 keep:=λ i h h' st k=>k it (by simp) _ st
 item:=by
  intro X hP hw hK hc i pins s σ H E I hf st hg
  subst hP hw hK
  obtain⟨f0,f1,f2,f3,f4,f5⟩:=hf it (by simp)
  have W:=Walks.range (prog:=X.prog) (w:=X.w) (I.ok.hd hc) it lo 1 n
  refine W.item i s _ _ hg st λ v h' tk hv st' kk=>?_
  obtain⟨t,rfl⟩:=hv
  have I1:Inv X pins σ H { s with heap:=h',toks:=tk }:=I.turned (λ b o hb e=>kk b o (by simpa using hb) e) f0 f1 f3 f4 f5
  refine⟨_,rfl,Juf (s:={ s with heap:=h',toks:=tk }) (n:="range_iterator") st' rfl rfl (by decide) ⟨.int (lo+i),H,I1,⟨t,?_⟩,⟨rfl,rfl⟩,st',λ b hb=>(hf b hb).1⟩⟩
  rw[Int.mul_one]
 done:=by
  intro X hP hw hK hc i pins s σ H E I hf st hg
  subst hP hw hK
  obtain⟨f0,f1,f2,f3,f4,f5⟩:=hf it (by simp)
  exact wpAny_pyNext_range_end (I.ok.hd hc) st (by have:n<=i:=hg;omega) λ h' eb=>⟨rfl,I.turned (t':=s.toks) (λ b o hb e=>eb b o hb e) f0 f1 f3 f4 f5⟩
 self:=λ _ _ _ _ _ st h=>wpAny_pyIter_rangeiter st h
section
variable {X:Cx}{tg:Expr}
theorem Jvg {pins:List (Zd×Obj)}{σ:St}{H:Hp}{s:Zc}{R:It->Hp->Prop}{E:Za->Zc->Prop}{lo hi:Int}{t u v:Tok}{tk:Nat}(I:Inv X pins σ H s)(h1: -(2^62)<=lo)(h2:lo<2^62)(h3: -(2^62)<=hi)(h4:hi<2^62)
  (q:R (Itr lo (hi-lo).toNat) H):Zs (Z6 X.prog X.w) X.A (Zeb (.ref s.heap.objs.size)) (PIE X pins σ tg R) E { s with heap:=s.heap.push { cls:=.type "range",data:=.fields #[.int lo t,.int hi u,.int 1 v] },toks:=tk }:=by
 refine wpAny_pyIter_range (IsRange.new ..) (small_one h1 h2 h3 h4) ?_
 have I1:Inv X pins σ H { s with heap:=s.heap.push { cls:=.type "range",data:=.fields #[.int lo t,.int hi u,.int 1 v] },toks:=tk }:=I.kept λ b o e=>Zg _ e
 refine⟨(s.heap.push { cls:=.type "range",data:=.fields #[.int lo t,.int hi u,.int 1 v] }).objs.size,[(s.heap.push { cls:=.type "range",data:=.fields #[.int lo t,.int hi u,.int 1 v] }).objs.size],_,_,H,rfl,
  I1.kept (t':=tk) λ b o e=>Zg _ e,Jq2 _ lo (hi-lo).toNat,?_,λ b hb=>?_,q⟩
 ·have e1:lo+((0:Nat):Int)*1=lo:=by simp
  have e2:(((hi-lo).toNat:Nat):Int)-((0:Nat):Int)=Zd5 lo hi 1:=by rw[rangeSize_one];split<;>omega
  show IsRangeIter _ _ (lo+((0:Nat):Int)*1) ((((hi-lo).toNat:Nat):Int)-((0:Nat):Int)) 1
  rw[e1,e2]
  exact Zw _ rfl
 ·have e:b=(s.heap.push { cls:=.type "range",data:=.fields #[.int lo t,.int hi u,.int 1 v] }).objs.size:=by simpa using hb
  subst e
  exact I1.fpOk (Zl _) (I1.hok.fresh (Zl _))
def QE (fp:List Zd)(h:Zag):List (Zd×Obj):=fp.filterMap λ b=>(h.get? b).map λ o=>(b,o)
theorem Yl {fp:List Zd}{h:Zag}{b:Zd}{o:Obj}(hb:b∈fp)(e:h.get? b=some o):(b,o)∈QE fp h:=List.mem_filterMap.mpr ⟨b,hb,by rw[e];rfl⟩
theorem Jsy {fp:List Zd}{h:Zag}{p:Zd×Obj}(hp:p∈QE fp h):p.1∈fp/\h.get? p.1=some p.2:=by
 obtain⟨b,hb,e⟩:=List.mem_filterMap.mp hp
 cases q:h.get? b with
 | none=>rw[q] at e;cases e
 | some o =>
  rw[q] at e
  have e':(b,o)=p:=Zab e
  subst e'
  exact⟨hb,q⟩
theorem Inv.pinned {pins:List (Zd×Obj)}{σ:St}{H:Hp}{s:Zc}{fp:List Zd}(I:Inv X pins σ H s)(hf:∀b∈fp,FpOk X pins H b)(ho:∀b∈fp,∃o,s.heap.get? b=some o/\∀v,o.data≠.cell v):Inv X (pins++QE fp s.heap) σ H s :=
 I.pins_of λ p hp=>(ZS.mp hp).elim (λ z=>I.pin p (Zj _ z)) λ z=>by
  obtain⟨hb,e⟩:=Jsy z
  obtain⟨f0,f1,f2,_⟩:=hf p.1 hb
  obtain⟨o,e',d⟩:=ho p.1 hb
  rw[e] at e';cases e'
  exact⟨e,f0,f1,f2,d⟩
theorem Inv.unpinned {pins pl:List (Zd×Obj)}{σ:St}{H:Hp}{s:Zc}(I:Inv X (pins++pl) σ H s):Inv X pins σ H s:=I.pins_of λ p hp=>I.pin p (Zj _ (Zam _ hp))
end
abbrev R2:=V->V->Hp->VK->Prop
def OpR (X:Cx)(f:Za->Za->Sem Za)(r:R2):Prop :=
 ∀(pins:List (Zd×Obj))(s:Zc)(σ:St)(H:Hp)(x y:V)(v u:Za)(Q:VK),Inv X pins σ H s->RelV x v->RelV y u->r x y H Q ->
  Zs (Z6 X.prog X.w) X.A (f v u) (EP X pins σ Q) X.xe s
def UnR (X:Cx)(f:Za->Sem Za)(r:V->Hp->VK->Prop):Prop :=
 ∀(pins:List (Zd×Obj))(s:Zc)(σ:St)(H:Hp)(x:V)(v:Za)(Q:VK),Inv X pins σ H s->RelV x v->r x H Q ->
  Zs (Z6 X.prog X.w) X.A (f v) (EP X pins σ Q) X.xe s
def Xm (X:Cx)(f:Za)(r:List V->Hp->VK->Prop):Prop :=
 ∀(pins:List (Zd×Obj))(s:Zc)(σ:St)(H:Hp)(xs:List V)(us:List Za)(Q:VK),Inv X pins σ H s->Vals xs us->r xs H Q ->
  Zs (Z6 X.prog X.w) X.A (call f us) (EP X pins σ Q) X.xe s
def TruR (X:Cx)(r:V->Hp->(Bool->Hp->Prop)->Prop):Prop :=
 ∀(pins:List (Zd×Obj))(s:Zc)(σ:St)(H:Hp)(x:V)(v:Za)(Q:Bool->Hp->Prop),Inv X pins σ H s->RelV x v->r x H Q ->
  Zs (Z6 X.prog X.w) X.A (truthy v) (TP X pins σ Q) X.xe s
def rI (C:Int->Int->Prop)(g:Int->Int->V):R2:=λ x y H Q=>∃i j,x=.int i/\y=.int j/\C i j/\Q (g i j) H
def rI0 (g:Int->Int->V):R2:=λ x y H Q=>∃i j,x=.int i/\y=.int j/\Q (g i j) H
def rU (g:Int->V):V->Hp->VK->Prop:=λ x H Q=>∃i,x=.int i/\Q (g i) H
section
variable {X:Cx}{a b c:Expr}{ta tb tc:TE}{pos:Pos}
theorem opI {f:Za->Za->Sem Za}{C:Int->Int->Prop}{g:Int->Int->Int}
  (rule:∀(i j:Int)(t u:Tok)(s:Zc)(Q:Za->Zc->Prop)(E:Za->Zc->Prop),C i j->Q (.int (g i j) s.toks) { s with toks:=s.toks+1 }->Zs (Z6 X.prog X.w) X.A (f (.int i t) (.int j u)) Q E s) :
  OpR X f (rI C λ i j=>.int (g i j)):=by
 intro pins s σ H x y v u Q I rx ry h
 obtain⟨i,j,rfl,rfl,hc,q⟩:=h
 obtain⟨t,rfl⟩:=rx
 obtain⟨t',rfl⟩:=ry
 exact rule i j t t' s _ _ hc ⟨.int (g i j),H,I.tok _,⟨_,rfl⟩,q⟩
theorem opI0 {f:Za->Za->Sem Za}{g:Int->Int->Int}
  (rule:∀(i j:Int)(t u:Tok)(s:Zc)(Q:Za->Zc->Prop)(E:Za->Zc->Prop),Q (.int (g i j) s.toks) { s with toks:=s.toks+1 }->Zs (Z6 X.prog X.w) X.A (f (.int i t) (.int j u)) Q E s) :
  OpR X f (rI0 λ i j=>.int (g i j)):=by
 intro pins s σ H x y v u Q I rx ry h
 obtain⟨i,j,rfl,rfl,q⟩:=h
 obtain⟨t,rfl⟩:=rx
 obtain⟨t',rfl⟩:=ry
 exact rule i j t t' s _ _ ⟨.int (g i j),H,I.tok _,⟨_,rfl⟩,q⟩
theorem opB0 {f:Za->Za->Sem Za}{g:Int->Int->Bool}
  (rule:∀(i j:Int)(t u:Tok)(s:Zc)(Q:Za->Zc->Prop)(E:Za->Zc->Prop),Q (.bool (g i j)) s->Zs (Z6 X.prog X.w) X.A (f (.int i t) (.int j u)) Q E s) :
  OpR X f (rI0 λ i j=>.bl (g i j)):=by
 intro pins s σ H x y v u Q I rx ry h
 obtain⟨i,j,rfl,rfl,q⟩:=h
 obtain⟨t,rfl⟩:=rx
 obtain⟨t',rfl⟩:=ry
 exact rule i j t t' s _ _ ⟨.bl (g i j),H,I,rfl,q⟩
def CPow (i j:Int):Prop:=0<=j/\j<=1000000/\i.natAbs<2^64
theorem J18:OpR X (ZaM .Add) (rI0 λ i j=>.int (i+j)):=opI0 λ _ _ _ _ _ _ _ q=>add_int q
theorem J2d:OpR X (ZaM .Sub) (rI0 λ i j=>.int (i-j)):=opI0 λ _ _ _ _ _ _ _ q=>sub_int q
theorem J2a:OpR X (ZaM .Mod) (rI (λ _ j=>0<j) λ i j=>.int (i%j)):=opI λ i j _ _ _ _ _ hc q=>by
 have h1:(0:Int)<j:=hc
 exact mod_int' (by omega) (by rw[Int.fmod_eq_emod_of_nonneg i (by omega)];exact q)
theorem J2b:OpR X (ZaM .Pow) (rI CPow λ i j=>.int (i^j.toNat)):=opI λ _ _ _ _ _ _ _ hc q=>pow_int_small hc.1 hc.2.1 hc.2.2 q
theorem unI {f:Za->Sem Za}{g:Int->Int}
  (rule:∀(i:Int)(t:Tok)(s:Zc)(Q:Za->Zc->Prop)(E:Za->Zc->Prop),Q (.int (g i) s.toks) { s with toks:=s.toks+1 }->Zs (Z6 X.prog X.w) X.A (f (.int i t)) Q E s) :
  UnR X f (rU λ i=>.int (g i)):=by
 intro pins s σ H x v Q I rx h
 obtain⟨i,rfl,q⟩:=h
 obtain⟨t,rfl⟩:=rx
 exact rule i t s _ _ ⟨.int (g i),H,I.tok _,⟨_,rfl⟩,q⟩
theorem J29:UnR X (unaryOp .USub) (rU λ i=>.int (-i)):=unI λ _ _ _ _ _ q=>neg_int q
end
def scal:V->V->Bool
 | .non,.non=>true|.non,.int _=>true|.int _,.non=>true|.non,.bl _=>true|.bl _,.non=>true|.non,.str _=>true|.str _,.non=>true
 | .int _,.int _=>true|.bl _,.bl _=>true|.str _,.str _=>true|.byt _,.byt _=>true
 | .int _,.str _=>true|.str _,.int _=>true|.bl _,.str _=>true|.str _,.bl _=>true
 | _,_=>false
def rEq:R2:=λ x y H Q=>scal x y=true/\Q (.bl (decide (x=y))) H
def rNe:R2:=λ x y H Q=>scal x y=true/\Q (.bl (!decide (x=y))) H
theorem Jrq {i j:Int}:decide (V.int i=V.int j)=(i==j):=by
 rw[Zcp]
 simp
theorem Jwp {i j:Bool}:decide (V.bl i=V.bl j)=(i==j):=by
 rw[Zcp]
 simp
theorem Jrr {i j:Str}:decide (V.str i=V.str j)=(i==j):=by
 rw[Zcp]
 simp
theorem Jrp {i j:Array UInt8}:decide (V.byt i=V.byt j)=(i.toList==j.toList):=by
 rw[Zcp]
 cases i
 cases j
 simp
section
variable {X:Cx}{a b c:Expr}{ta tb tc:TE}{pos:Pos}
theorem J9 {pins:List (Zd×Obj)}{σ:St}{H:Hp}{s:Zc}{Q:VK}{k k':Bool}(I:Inv X pins σ H s)(q:Q (.bl k) H)(e:k=k'):EP X pins σ Q (.bool k') s:=by
 subst e
 exact⟨.bl k,H,I,rfl,q⟩
theorem J4l:OpR X (Zas .Eq) rEq:=by
 intro pins s σ H x y v u Q I rx ry h
 obtain⟨hs,q⟩:=h
 cases x with
 | non =>
  cases rx
  cases y with
  | non=>cases ry;exact PySem.EqNone.eq_none_none (J9 I q (by simp))
  | bl j=>cases ry;exact PySem.EqNone.eq_none_bool (J9 I q (by simp))
  | int j=>obtain⟨t',rfl⟩:=ry;exact PySem.EqNone.eq_none_int (J9 I q (by simp))
  | str j=>obtain⟨t',rfl⟩:=ry;exact PySem.EqNone.eq_none_str (J9 I q (by simp))
  | _=>exact absurd (show false=true from hs) Zp
 | bl i =>
  cases rx
  cases y with
  | non=>cases ry;exact PySem.EqNone.eq_bool_none (J9 I q (by simp))
  | bl j=>cases ry;exact eq_bool (J9 I q Jwp)
  | str j=>obtain⟨t',rfl⟩:=ry;exact PySem.EqMixed.eq_bool_str (J9 I q (by simp))
  | _=>exact absurd (show false=true from hs) Zp
 | int i =>
  obtain⟨t,rfl⟩:=rx
  cases y with
  | non=>cases ry;exact PySem.EqNone.eq_int_none (J9 I q (by simp))
  | int j=>obtain⟨t',rfl⟩:=ry;exact eq_int (J9 I q Jrq)
  | str j=>obtain⟨t',rfl⟩:=ry;exact PySem.EqMixed.eq_int_str (J9 I q (by simp))
  | _=>exact absurd (show false=true from hs) Zp
 | str i =>
  obtain⟨t,rfl⟩:=rx
  cases y with
  | non=>cases ry;exact PySem.EqNone.eq_str_none (J9 I q (by simp))
  | bl j=>cases ry;exact PySem.EqMixed.eq_str_bool (J9 I q (by simp))
  | int j=>obtain⟨t',rfl⟩:=ry;exact PySem.EqMixed.eq_str_int (J9 I q (by simp))
  | str j=>obtain⟨t',rfl⟩:=ry;exact eq_str (J9 I q Jrr)
  | _=>exact absurd (show false=true from hs) Zp
 | byt i =>
  obtain⟨t,rfl⟩:=rx
  cases y with
  | byt j=>obtain⟨t',rfl⟩:=ry;exact W.eq_bytes (J9 I q Jrp)
  | _=>exact absurd (show false=true from hs) Zp
 | _=>cases y<;>exact absurd (show false=true from hs) Zp
theorem J4q:OpR X (Zas .NotEq) rNe:=by
 intro pins s σ H x y v u Q I rx ry h
 obtain⟨hs,q⟩:=h
 cases x with
 | non =>
  cases rx
  cases y with
  | non=>cases ry;exact PySem.EqNone.ne_none_none (J9 I q (by simp))
  | bl j=>cases ry;exact PySem.EqNone.ne_none_bool (J9 I q (by simp))
  | int j=>obtain⟨t',rfl⟩:=ry;exact PySem.EqNone.ne_none_int (J9 I q (by simp))
  | str j=>obtain⟨t',rfl⟩:=ry;exact PySem.EqNone.ne_none_str (J9 I q (by simp))
  | _=>exact absurd (show false=true from hs) Zp
 | bl i =>
  cases rx
  cases y with
  | non=>cases ry;exact PySem.EqNone.ne_bool_none (J9 I q (by simp))
  | bl j=>cases ry;exact ne_bool (J9 I q (congrArg not Jwp))
  | str j=>obtain⟨t',rfl⟩:=ry;exact PySem.EqMixed.ne_bool_str (J9 I q (by simp))
  | _=>exact absurd (show false=true from hs) Zp
 | int i =>
  obtain⟨t,rfl⟩:=rx
  cases y with
  | non=>cases ry;exact PySem.EqNone.ne_int_none (J9 I q (by simp))
  | int j=>obtain⟨t',rfl⟩:=ry;exact ne_int (J9 I q (congrArg not Jrq))
  | str j=>obtain⟨t',rfl⟩:=ry;exact PySem.EqMixed.ne_int_str (J9 I q (by simp))
  | _=>exact absurd (show false=true from hs) Zp
 | str i =>
  obtain⟨t,rfl⟩:=rx
  cases y with
  | non=>cases ry;exact PySem.EqNone.ne_str_none (J9 I q (by simp))
  | bl j=>cases ry;exact PySem.EqMixed.ne_str_bool (J9 I q (by simp))
  | int j=>obtain⟨t',rfl⟩:=ry;exact PySem.EqMixed.ne_str_int (J9 I q (by simp))
  | str j=>obtain⟨t',rfl⟩:=ry;exact ne_str (J9 I q (congrArg not Jrr))
  | _=>exact absurd (show false=true from hs) Zp
 | byt i =>
  obtain⟨t,rfl⟩:=rx
  cases y with
  | byt j=>obtain⟨t',rfl⟩:=ry;exact W.ne_bytes (J9 I q (congrArg not Jrp))
  | _=>exact absurd (show false=true from hs) Zp
 | _=>cases y<;>exact absurd (show false=true from hs) Zp
theorem J4p:OpR X (Zas .Lt) (rI0 λ i j=>.bl (decide (i<j))):=opB0 λ _ _ _ _ _ _ _ q=>lt_int q
theorem J4o:OpR X (Zas .LtE) (rI0 λ i j=>.bl (decide (i<=j))):=opB0 λ _ _ _ _ _ _ _ q=>le_int q
theorem J4n:OpR X (Zas .Gt) (rI0 λ i j=>.bl (decide (j<i))):=opB0 λ _ _ _ _ _ _ _ q=>gt_int q
theorem J4m:OpR X (Zas .GtE) (rI0 λ i j=>.bl (decide (j<=i))):=opB0 λ _ _ _ _ _ _ _ q=>ge_int q
theorem Jsz:OpR X (Zas .Lt) (λ x y H Q=>∃i j,x=.str i/\y=.str j/\Q (.bl (decide (i.cps.toList<j.cps.toList))) H):=by
 intro pins s σ H x y v u Q I rx ry h
 obtain⟨i,j,rfl,rfl,q⟩:=h
 obtain⟨t,rfl⟩:=rx
 obtain⟨t',rfl⟩:=ry
 exact lt_str (J9 I q rfl)
def TruV (K:W.Frag)(x:V)(H:Hp)(k:Bool):Prop :=
 match x with
 | .non=>k=false
 | .bl b=>k=b
 | .int i=>k=(i != 0)
 | .str y=>y.length<=sizeLine/\k=((y.length:Int) != 0)
 | .byt y=>y.size<=sizeLine/\k=((y.size:Int) != 0)
 | .ref p=>(∃xs,SqL K H p xs/\k=!xs.isEmpty)∨(∃xs,SqT K H p xs/\k=!xs.isEmpty)∨∃kvs,H p=some (.dK kvs)/\k=!kvs.isEmpty
 | _=>False
theorem Jqf {κ:Type}{kvs:List (κ×V)}{vs:List (κ×Za)}(r:KV kvs vs):(!vs.isEmpty)=!kvs.isEmpty:=by
 cases r<;>rfl
theorem Jix {xs:List V}{its:List Za}(r:Vals xs its):(!its.toArray.isEmpty)=!xs.isEmpty:=by
 cases r<;>simp
theorem VX:(sizeLine:Nat)<2^63:=by rw[Zbl];decide
theorem VJ:TruR X (λ x H Q=>∃k,TruV X.K x H k/\Q k H):=by
 intro pins s σ H x v Q I rx h
 obtain⟨k,e,q⟩:=h
 have hl:=VX
 have hs:sizeLine=16777216:=Zbl
 cases x with
 | non =>
  cases rx
  have e':k=false:=e
  subst e'
  exact truthy_none ⟨H,I,q⟩
 | bl b =>
  cases rx
  have e':k=b:=e
  subst e'
  exact ZaV ⟨H,I,q⟩
 | int i =>
  obtain⟨t,rfl⟩:=rx
  have e':k=(i != 0):=e
  subst e'
  exact PySem.P.truthy_int ⟨H,I,q⟩
 | str y =>
  obtain⟨t,rfl⟩:=rx
  obtain⟨hy,e'⟩:y.length<=sizeLine/\k=((y.length:Int) != 0):=e
  subst e'
  exact PySem.P.truthy_str (by omega) ⟨H,I.tok _,q⟩
 | byt y =>
  obtain⟨t,rfl⟩:=rx
  obtain⟨hy,e'⟩:y.size<=sizeLine/\k=((y.size:Int) != 0):=e
  subst e'
  exact W.truthy_bytes (by omega) ⟨H,I.tok _,q⟩
 | ref p =>
  cases rx
  have e':(∃xs,SqL X.K H p xs/\k=!xs.isEmpty)∨(∃xs,SqT X.K H p xs/\k=!xs.isEmpty)∨∃kvs,H p=some (.dK kvs)/\k=!kvs.isEmpty:=e
  rcases e' with⟨xs,hx,e'⟩|⟨xs,hx,e'⟩|⟨kvs,hx,e'⟩
  ·subst e'
   obtain⟨its,r,pl,hz⟩:=I.list hx
   have hlen:=r.length
   exact wpAny_truthy_list pl.isList (by simp only[Zq];omega) ⟨H,I.tok _,by rw[Jix r];exact q⟩
  ·subst e'
   obtain⟨its,r,pl,hz⟩:=I.tuple hx
   have hlen:=r.length
   exact truthy_tuple pl (by simp only[Zq];omega) ⟨H,I.tok _,by rw[Jix r];exact q⟩
  ·subst e'
   obtain⟨hz,hS,vs,r,m⟩:kvs.length<=sizeLine/\(p==Zcu)=false/\∃vs,KV kvs vs/\s.heap.DictOf (Vh X.prog X.w) p vs:=I.hok p _ hx
   have hlen:kvs.length=vs.length:=Zep r
   exact wpAny_truthy_dict hS m (by omega) ⟨H,I.tok _,by rw[Jqf r];exact q⟩
 | _=>exact Zf e
theorem Jqp:OpR X (ZaM .Add) (λ x y H Q=>∃i j,x=.str i/\y=.str j/\i.length+j.length<=sizeLine/\Q (.str (i++j)) H):=by
 intro pins s σ H x y v u Q I rx ry h
 obtain⟨i,j,rfl,rfl,hz,q⟩:=h
 obtain⟨t,rfl⟩:=rx
 obtain⟨t',rfl⟩:=ry
 exact add_str (λ t' tk=>⟨.str (i++j),H,I.tok _,⟨_,rfl⟩,q⟩) hz
theorem QU {x:V}{us:List Za}(r:Vals [x] us):∃u,us=[u]/\RelV x u:=by
 cases r with
 | cons r1 r2=>cases r2;exact⟨_,rfl,r1⟩
theorem J3b {x y:V}{us:List Za}(r:Vals [x,y] us):∃u w',us=[u,w']/\RelV x u/\RelV y w':=by
 cases r with
 | cons r1 r2 =>
  cases r2 with
  | cons r3 r4=>cases r4;exact⟨_,_,rfl,r1,r3⟩
theorem Jrl (hc:X.calm=true):Xm X (.builtin "max") (λ xs H Q=>∃i j,xs=[.int i,.int j]/\Q (.int (if j>i then j else i)) H):=by
 intro pins s σ H xs us Q I r h
 obtain⟨i,j,rfl,q⟩:=h
 obtain⟨u,w',rfl,⟨t,rfl⟩,⟨t',rfl⟩⟩:=J3b r
 refine max_two_ints (I.ok.hd hc) λ h' tk k=>⟨_,H,I.kept k,?_,q⟩
 by_cases hj:j>i
 ·rw[if_pos hj,if_pos hj];exact⟨_,rfl⟩
 ·rw[if_neg hj,if_neg hj];exact⟨_,rfl⟩
theorem Jrm (hc:X.calm=true):Xm X (.builtin "min") (λ xs H Q=>∃i j,xs=[.int i,.int j]/\Q (.int (if j<i then j else i)) H):=by
 intro pins s σ H xs us Q I r h
 obtain⟨i,j,rfl,q⟩:=h
 obtain⟨u,w',rfl,⟨t,rfl⟩,⟨t',rfl⟩⟩:=J3b r
 refine min_two_ints (I.ok.hd hc) λ h' tk k=>⟨_,H,I.kept k,?_,q⟩
 by_cases hj:j<i
 ·rw[if_pos hj,if_pos hj];exact⟨_,rfl⟩
 ·rw[if_neg hj,if_neg hj];exact⟨_,rfl⟩
def LenV (K:W.Frag)(x:V)(H:Hp)(n:Nat):Prop :=
 match x with
 | .str y=>y.length<=sizeLine/\n=y.length
 | .byt y=>y.size<=sizeLine/\n=y.size
 | .ref p=>(∃xs,SqL K H p xs/\n=xs.length)∨∃xs,SqT K H p xs/\n=xs.length
 | _=>False
theorem Jfz:Xm X (.builtin "len") (λ xs H Q=>∃x n,xs=[x]/\LenV X.K x H n/\Q (.int n) H):=by
 intro pins s σ H xs us Q I r h
 obtain⟨x,n,rfl,e,q⟩:=h
 obtain⟨u,rfl,rx⟩:=QU r
 have hl:=VX
 have hs:sizeLine=16777216:=Zbl
 cases x with
 | str y =>
  obtain⟨t,rfl⟩:=rx
  obtain⟨hy,e'⟩:y.length<=sizeLine/\n=y.length:=e
  subst e'
  exact len_str (by omega) ⟨.int _,H,I.tok _,⟨_,rfl⟩,q⟩
 | byt y =>
  obtain⟨t,rfl⟩:=rx
  obtain⟨hy,e'⟩:y.size<=sizeLine/\n=y.size:=e
  subst e'
  exact W.len_bytes (by omega) ⟨.int _,H,I.tok _,⟨_,rfl⟩,q⟩
 | ref p =>
  cases rx
  have e':(∃xs,SqL X.K H p xs/\n=xs.length)∨∃xs,SqT X.K H p xs/\n=xs.length:=e
  rcases e' with⟨xs,hx,e'⟩|⟨xs,hx,e'⟩
  ·subst e'
   obtain⟨its,r',pl,hz⟩:=I.list hx
   have hlen:=r'.length
   exact Calls.call_len_list pl.isList (by simp only[Zq];omega) ⟨.int xs.length,H,I.tok _,⟨_,by simp only[Zq];rw[hlen]⟩,q⟩
  ·subst e'
   obtain⟨its,r',pl,hz⟩:=I.tuple hx
   have hlen:=r'.length
   exact len_tuple pl (by simp only[Zq];omega) ⟨.int xs.length,H,I.tok _,⟨_,by simp only[Zq];rw[hlen]⟩,q⟩
 | _=>exact Zf e
end
structure ObjM (h:Zag)(x dx C:Zd)(mA:Str->Option Za):Prop where
 obj:h.get? x=some (W.instObj C dx)
 ns:h.Ns1 dx mA
 ne:dx≠x
theorem Jsr {h:Zag}{dx:Zd}{mA:Str->Option Za}(n:h.Ns1 dx mA):∃od,h.get? dx=some od/\∀name,W.lookIn name od=some (mA name):=by
 obtain⟨o,es,ep,ho,hd,hk,_,hm⟩:=n
 refine⟨o,ho,λ name=>?_⟩
 have e:=hm name
 unfold nsFind findBy at e
 rw[<- Array.find?_toList] at e
 unfold W.lookIn
 rw[hd]
 dsimp only
 split
 ·rename_i y q
  rw[q] at e
  exact congrArg some e
 ·rename_i q
  rw[q] at e
  have a:es.toList.any (·.refKey)=false:=by
   rw[List.any_eq_false]
   intro y hy
   obtain⟨z,t,hkey⟩:=hk y (Array.mem_toList_iff.mp hy)
   simp[DictEntry.refKey,hkey]
  have a':¬es.toList.any (·.refKey)=true:=by rw[a];exact Zp
  rw[if_neg a']
  exact congrArg some e
theorem ObjM.look {h:Zag}{x dx C:Zd}{mA:Str->Option Za}(I:ObjM h x dx C mA):∃od,W.InstAt h x (W.instObj C dx) C (some od)/\∀name,W.lookIn name od=some (mA name) :=
 let ⟨od,ho,hl⟩:=Jsr I.ns
 ⟨od,⟨I.obj,rfl,rfl,ho⟩,hl⟩
section
variable {prog:Z5}{w:ZP}{A:ZI}{E:Za->Zc->Prop}{s:Zc}{K:W.Frag}{x dx C f:Zd}{mA:Str->Option Za}{name:Str}{v:Za}
theorem Jyq {expr:Bool}{Q:Za->Zc->Prop}(X:K.In s.heap)(I:ObjM s.heap x dx C mA)(hg:W.plainGet K C name=true)(hh:W.hasDictIn K C=true)
  (ha:W.findIn K (.ref C) name=some none)(hv:mA name=some v)(hv':W.handedIn v=true)(h:Q v { s with toks:=s.toks+1 }) :
  Zs (Z6 prog w) A (getAttr (.ref x) name expr) Q E s:=by
 obtain⟨od,J,hl⟩:=I.look
 exact W.get_value X J (W.plainGet_of hg).1 (W.findObj_own hh ha rfl (by rw[hl,hv])) hv' h
theorem Jue {pl:Sem Bool}{Q:Za×List Za->Zc->Prop}(X:K.In s.heap)(I:ObjM s.heap x dx C mA)(hg:W.plainGet K C name=true)
  (hf:W.findIn K (.ref C) name=some (some (.ref f)))(ht:W.isFn K (.ref f)=true)(hv:mA name=none)(h:Q (.ref f,[.ref x]) s) :
  Zs (Z6 prog w) A (Zd6 (.ref x) name pl) Q E s:=by
 obtain⟨od,J,hl⟩:=I.look
 exact W.method_fn X J (W.plainGet_of hg).1 (W.plainGet_of hg).2 hf (beq_iff_eq.mp ht) (by show(W.lookIn name od).map (·.isSome)=some false;rw[hl,hv];rfl) h
theorem Jzy {ns:List Str}{Q:Unit->Zc->Prop}(X:K.In s.heap)(I:ObjM s.heap x dx C mA)
  (hs:W.findIn K (.ref C) "__setattr__"=some (some (.builtin "object.__setattr__")))(hp:W.plainOver K C=true)(ht:W.takerIn K C name=some none)(hh:W.hasDictIn K C=true)
  (hw:Zex mA ns)(hsz:ns.length<=sizeLine)
  (h:∀h',ObjM h' x dx C (λ y=>if y=name then some v else mA y)->Zc4 dx s.heap h'->Q () { s with heap:=h',toks:=s.toks+2 }) :
  Zs (Z6 prog w) A (setAttr (.ref x) name v) Q E s:=by
 obtain⟨od,J,hl⟩:=I.look
 refine W.set_plain X J hs (W.osa_open (s:={ s with toks:=s.toks+1 }) (r:=none) X J hp ht λ b=>?_)
 obtain⟨cd,hc,hd'⟩:=W.any_some hh
 have hx:s.heap.get? x=some ⟨.ref C,some dx,.plain,#[]⟩:=I.obj
 refine Ze (Zu (Ze (Ze (wpAny_loadPart hx (Ze (W.Looks.here (s:={ s with toks:=s.toks+1 }) (W.looks_clsIn X hc) ?_))))))
 rw[hd']
 refine Zu (a:=some dx) (Ze (Zu (Ze ?_)))
 refine wpAny_nsSet1 (s:={ s with toks:=s.toks+1 }) I.ns λ h' hn2 hs2=>?_
 obtain⟨oD,esD,epD,hoD,hdD,hcD⟩:=hn2.count (PySem.Within.cons name v hw)
 refine Ze (wpAny_lookBehind hoD (by rw[hdD];exact pastItsLine_dict (ZO hcD (by rw[Z7];omega))) ?_)
 exact Zu (h _ ⟨(hs2.2 _ (ZK I.ne)).trans I.obj,hn2,I.ne⟩ hs2)
theorem Ju3 {R:ZdK->Zc->Prop}{vs:List Za}{kw:List (Str×Za)}(X:K.In s.heap)(hm:W.makesIn K C=true)
  (hi:W.findIn K (.ref C) "__init__"=some (some (.ref f)))(hf:W.typeIn K (.ref f)=some (.type "function"))
  (h:Zc5 (Z6 prog w) (A.under (.builtin "type.__call__" ⟨.ref C::vs,kw⟩)) (.call (.ref f) ⟨.ref (s.heap.objs.size+1)::vs,kw⟩) (W.InitBack (s.heap.objs.size+1) R)
   { s with heap:=(s.heap.push W.emptyDict).push (W.instObj C s.heap.objs.size) }) :
  Zc5 (Z6 prog w) A (.call (.ref C) ⟨vs,kw⟩) R s:=by
 obtain⟨hh,g,d,t,os⟩:=s
 exact W.make_core (W.makes_of X hm) (W.looks_findIn X hi) (λ self=>W.bind_fn X self hf) (.inl rfl) h
end
def putF (f:Str)(v:V):List (Str×V)->List (Str×V)
 | []=>[(f,v)]
 | (g,x)::r=>if g=f then(g,v)::r else(g,x)::putF f v r
theorem Jhh (f g:Str)(v:V):∀fs:List (Str×V),(putF f v fs).lookup g=if g=f then some v else fs.lookup g
 | []=>by
  show Zbv g [(f,v)]=_
  by_cases h:g=f
  ·have hb:(g==f)=true:=beq_iff_eq.mpr h
   simp only[Zbv,hb,if_pos h]
  ·have hb:(g==f)=false:=beq_eq_false_iff_ne.mpr h
   simp only[Zbv,hb,if_neg h]
 | (k,x)::r=>by
  have ih:=Jhh f g v r
  rw[show putF f v ((k,x)::r)=(if k=f then(k,v)::r else(k,x)::putF f v r) from rfl]
  by_cases hk:k=f
  ·rw[if_pos hk]
   by_cases h:g=k
   ·have hb:(g==k)=true:=beq_iff_eq.mpr h
    simp only[Zbv,hb,if_pos (h.trans hk)]
   ·have hb:(g==k)=false:=beq_eq_false_iff_ne.mpr h
    simp only[Zbv,hb,if_neg (λ e:g=f=>h (e.trans hk.symm))]
  ·rw[if_neg hk]
   by_cases h:g=k
   ·have hb:(g==k)=true:=beq_iff_eq.mpr h
    simp only[Zbv,hb,if_neg (λ e:g=f=>hk (h.symm.trans e))]
   ·have hb:(g==k)=false:=beq_eq_false_iff_ne.mpr h
    simp only[Zbv,hb]
    exact ih
theorem Jhf (f:Str)(v:V):∀fs:List (Str×V),f∈(putF f v fs).map (·.1)/\∀g,g∈fs.map (·.1)->g∈(putF f v fs).map (·.1)
 | []=>⟨by simp[putF],λ g h=>by simp at h⟩
 | (k,x)::r=>by
  obtain⟨i1,i2⟩:=Jhf f v r
  rw[show putF f v ((k,x)::r)=(if k=f then(k,v)::r else(k,x)::putF f v r) from rfl]
  by_cases hk:k=f
  ·rw[if_pos hk]
   subst hk
   exact⟨by simp,λ g h=>by simpa using h⟩
  ·rw[if_neg hk]
   refine⟨?_,λ g h=>?_⟩
   ·rw[Z0]
    exact Zm _ i1
   ·rw[Z0] at h ⊢
    rcases Z4.mp h with e|e
    ·exact Z4.mpr (.inl e)
    ·exact Zm _ (i2 g e)
theorem Jhg (f:Str)(v:V):∀fs:List (Str×V),(putF f v fs).length<=fs.length+1
 | []=>by simp[putF]
 | (k,x)::r=>by
  have ih:=Jhg f v r
  rw[show putF f v ((k,x)::r)=(if k=f then(k,v)::r else(k,x)::putF f v r) from rfl]
  by_cases hk:k=f
  ·rw[if_pos hk,Z7,Z7];omega
  ·rw[if_neg hk,Z7,Z7];omega
theorem RelO.some_of {v:V}{o:Option Za}(r:RelO (some v) o):∃u,o=some u/\RelV v u:=by
 cases o with
 | none=>exact Zf r
 | some u=>exact⟨u,rfl,r⟩
theorem RelO.none_of {o:Option Za}(r:RelO none o):o=none:=by
 cases o with
 | none=>rfl
 | some u=>exact Zf r
theorem Jr3 {v:V}{u:Za}(r:RelV v u):W.handedIn u=true:=by
 cases v with
 | non=>cases (show u=ZR from r);rfl
 | bl b=>cases (show u=ZcH b from r);rfl
 | int i=>obtain⟨t,e⟩:=(show ∃t,u=ZbM i t from r);cases e;rfl
 | str x=>obtain⟨t,e⟩:=(show ∃t,u=Zek x t from r);cases e;rfl
 | byt b=>obtain⟨t,e⟩:=(show ∃t,u=Value.bytes b t from r);cases e;rfl
 | flt b=>obtain⟨t,e⟩:=(show ∃t,u=Value.float b t from r);cases e;rfl
 | ref a=>cases (show u=Zdi a from r);rfl
 | ty n=>cases (show u=Zes n from r);rfl
section
variable {P:Z5}{w:ZP}{H H':Hp}{h h':Zag}{a C dx:Zd}{fs fs':List (Str×V)}
theorem Jkb (hok:HOk P w H h)(e:H a=some (.ins C dx fs)):∃mA,ObjM h a dx C mA/\(∀f,RelO (fs.lookup f) (mA f))/\Zex mA (fs.map (·.1))/\fs.length<=1000/\H dx=some (.own a):=by
 obtain⟨d,z,ne,ob,mA,n,r,q⟩:=(show JG P w H h a (.ins C dx fs) from hok a _ e)
 exact⟨mA,⟨ob,n,ne⟩,r,q,z,d⟩
end
structure Cls (K:W.Frag)(C:Zd):Prop where
 pg:W.plainGet K C Str.empty=true
 hd:W.hasDictIn K C=true
 po:W.plainOver K C=true
 sa:W.findIn K (.ref C) "__setattr__"=some (some (.builtin "object.__setattr__"))
theorem Cls.get {K:W.Frag}{C:Zd}(c:Cls K C)(f:Str):W.plainGet K C f=true:=c.pg
def Q3 (K:W.Frag)(C:Zd)(f:Str):Prop:=W.findIn K (.ref C) f=some none
theorem Q3.taker {K:W.Frag}{C:Zd}{f:Str}(n:Q3 K C f):W.takerIn K C f=some none:=by
 unfold W.takerIn
 rw[show W.findIn K (.ref C) f=some none from n]
 rfl
structure Con (K:W.Frag)(C:Zd)(f:Str)(v:V)(u:Za):Prop where
 at_:W.findIn K (.ref C) f=some (some u)
 rel:RelV v u
 get:W.specialIn K u "__get__"=some none
 cp:W.copiedNames.contains f=false
structure Meth (K:W.Frag)(C:Zd)(m:Str)(f:Zd):Prop where
 at_:W.findIn K (.ref C) m=some (some (.ref f))
 fn:W.isFn K (.ref f)=true
 kp:W.keepIn K (.ref f)=true
section
variable {X:Cx}{pins:List (Zd×Obj)}{σ:St}{H:Hp}{s:Zc}{a C dx:Zd}{fs:List (Str×V)}{f:Str}{v:V}{A:ZI}{E:Za->Zc->Prop}
theorem Jiv {b:Bool}{Q:Za->Zc->Prop}(I:Inv X pins σ H s)(e:H a=some (.ins C dx fs))(c:Cls X.K C)(n:Q3 X.K C f)(l:fs.lookup f=some v)
  (h:∀u s',Inv X pins σ H s'->RelV v u->Q u s'):Zs (Z6 X.prog X.w) A (getAttr (.ref a) f b) Q E s:=by
 obtain⟨mA,O,r,_,_,_⟩:=Jkb I.hok e
 obtain⟨u,hu,ru⟩:=RelO.some_of (v:=v) (o:=mA f) (by rw[<- l];exact r f)
 exact Jyq I.kIn O (c.get f) c.hd n hu (Jr3 ru) (h u _ (I.tok _) ru)
theorem Jiw {m:Str}{g:Zd}{pl:Sem Bool}{Q:Za×List Za->Zc->Prop}(I:Inv X pins σ H s)(e:H a=some (.ins C dx fs))(c:Cls X.K C)(k:Meth X.K C m g)(l:fs.lookup m=none)
  (h:Q (.ref g,[.ref a]) s):Zs (Z6 X.prog X.w) A (Zd6 (.ref a) m pl) Q E s:=by
 obtain⟨mA,O,r,_,_,_⟩:=Jkb I.hok e
 have hn:mA m=none:=RelO.none_of (by rw[<- l];exact r m)
 exact Jue I.kIn O (c.get m) k.at_ k.fn hn h
theorem Ji1 {y:V}{u:Za}{Q:Unit->Zc->Prop}(I:Inv X pins σ H s)(e:H a=some (.ins C dx fs))(c:Cls X.K C)(n:Q3 X.K C f)(hl:fs.length<1000)(ry:RelV y u)
  (h:∀s',Inv X pins σ (upd H a (.ins C dx (putF f y fs))) s'->Q () s'):Zs (Z6 X.prog X.w) A (setAttr (.ref a) f u) Q E s:=by
 obtain⟨mA,O,r,wi,_,ho⟩:=Jkb I.hok e
 have hz:(fs.map (·.1)).length<=sizeLine:=by rw[Zh,Zbl];omega
 refine Jzy I.kIn O c.sa c.po n.taker c.hd wi hz λ h' O' sb=>h _ ?_
 have hd:∃o,h'.get? dx=some o:=let ⟨o,_,_,e',_⟩:=O'.ns;⟨o,e'⟩
 refine I.write (x:=a) (e:=dx) (by rw[e];exact Zaj) (.inr ho) (λ b q hb z=>(sb.2 b hb).trans z) hd ?_
 refine⟨by rw[Jp O.ne];exact ho,?_,O.ne,O'.obj,_,O'.ns,λ g=>?_,λ g hg=>?_⟩
 ·have:=Jhg f y fs;omega
 ·show RelO ((putF f y fs).lookup g) (if g=f then some u else mA g)
  rw[Jhh]
  by_cases q:g=f
  ·rw[if_pos q,if_pos q];exact ry
  ·rw[if_neg q,if_neg q];exact r g
 ·by_cases q:g=f
  ·rw[q];exact(Jhf f y fs).1
  ·refine(Jhf f y fs).2 g (wi g λ z=>hg ?_)
   show(if g=f then some u else mA g)=none
   rw[if_neg q];exact z
theorem Inv.made (I:Inv X pins σ H s):Inv X pins σ (upd (upd H s.heap.objs.size (.own (s.heap.objs.size+1))) (s.heap.objs.size+1) (.ins C s.heap.objs.size []))
  { s with heap:=(s.heap.push W.emptyDict).push (W.instObj C s.heap.objs.size) }:=by
 have e1:(s.heap.push W.emptyDict).get? s.heap.objs.size=some W.emptyDict:=Zw s.heap rfl
 have e2:((s.heap.push W.emptyDict).push (W.instObj C s.heap.objs.size)).get? (s.heap.objs.size+1)=some (W.instObj C s.heap.objs.size):=by
  have:=Zw (s.heap.push W.emptyDict) (o:=W.instObj C s.heap.objs.size) rfl
  rwa [Zc6] at this
 have e3:(s.heap.push W.emptyDict).Ns s.heap.objs.size (λ _=>none):=⟨W.emptyDict,#[],_,e1,rfl,(λ e he=>absurd he (by simp)),λ _=>rfl⟩
 have I1:=I.laid (a:=s.heap.objs.size) (o:=.own (s.heap.objs.size+1)) (h':=s.heap.push W.emptyDict) (t':=s.toks) (λ b u q=>Zg _ q) (Zl _) ⟨_,e1⟩
 refine I1.laid (a:=s.heap.objs.size+1) (o:=.ins C s.heap.objs.size []) (t':=s.toks) (λ b u q=>Zg _ q) (Zc7 (Zc6 _ _)) ?_
 have ne:s.heap.objs.size≠s.heap.objs.size+1:=Z1 (Zaz _)
 refine⟨by rw[Jp ne,J7],ZT _,ne,e2,λ _=>none,(Heap.Ns1.of_empty e3).at λ o q=>Zg _ q,λ _=>Zaj,λ y hy=>absurd rfl hy⟩
theorem Jxz {prog:Z5}{w:ZP}{env:Env}{e:Expr}{f:Str}{pos:Pos}{s:Zc}{Q:Za->Zc->Prop}(hb:ZbN e f env (ZaK e env)=ZaK e env)
  (h:Zs (Z6 prog w) A (ZaK e env) (λ o s₁=>Zs (Z6 prog w) A (getAttr o f true) Q E s₁) E s):Zs (Z6 prog w) A (ZaK (.Attribute e f pos) env) Q E s :=
 Attribute_any_ h (by rw[arm_eval_Attribute,hb])
end
section
variable {X:Cx}{o e value:Expr}{f:Str}{pos pos' tpos:Pos}{ta tv:TE}
end
section
variable {X:Cx}{pins:List (Zd×Obj)}{σ:St}{H:Hp}{s:Zc}{A:ZI}{E:Za->Zc->Prop}{Q:Za->Zc->Prop}{c:Za}{b:Bool}
inductive TyOf (K:W.Frag)(H:Hp):V->Za->Prop where
 | non:TyOf K H .non (.type "NoneType")
 | bl (x:Bool):TyOf K H (.bl x) (.type "bool")
 | int (i:Int):TyOf K H (.int i) (.type "int")
 | str (x:Str):TyOf K H (.str x) (.type "str")
 | flt (x:UInt64):TyOf K H (.flt x) (.type "float")
 | lst {a:Zd}{xs:List V}(e:H a=some (.lst xs)):TyOf K H (.ref a) (.type "list")
 | frz {a:Zd}{o:Obj}{xs:List V}(e:H a=some (.frz o (.lst xs))):TyOf K H (.ref a) (.type "list")
 | tup {a:Zd}{xs:List V}(e:H a=some (.tup xs)):TyOf K H (.ref a) (.type "tuple")
 | dK {a:Zd}{kvs:List (Key×V)}(e:H a=some (.dK kvs)):TyOf K H (.ref a) (.type "dict")
 | dT {a:Zd}{kvs:List (List Key×V)}(e:H a=some (.dT kvs)):TyOf K H (.ref a) (.type "dict")
 | ins {a C dx:Zd}{fs:List (Str×V)}(e:H a=some (.ins C dx fs)) (cl:Cls K C) (ha:W.findIn K (.ref C) "__class__"=some (some (.builtin "object.__class__")))
   (hn:W.specialIn K (.builtin "object.__class__") "__get__"=some (some (.builtin "getset_descriptor.__get__"))) (htk:W.takesIn K (.builtin "object.__class__")=some true)
   (hm:W.mroIn K C (.type "object")=some true):TyOf K H (.ref a) (.ref C)
end
structure Room (k:Nat)(A:ZI):Prop where
 hd:A.handled=none
 dp:A.depth+3*k+5<recursionLimit
 un:A.units+16*k+200<cLine
theorem Room.mono {j k:Nat}{A:ZI}(r:Room k A)(h:j<=k):Room j A:=⟨r.hd,by have:=r.dp;omega,by have:=r.un;omega⟩
theorem Room.deeper {k:Nat}{A:ZI}(r:Room (k+1) A)(env:Env):Room k (A.deeper env) :=
 ⟨r.hd,by have:=r.dp;show A.depth+1+3*k+5<_;omega,by have:=r.un;show A.units+3+16*k+200<_;omega⟩
theorem Room.in1 {k:Nat}{A:ZI}(r:Room (k+1) A):Room k A.in1 :=
 ⟨r.hd,by have:=r.dp;show A.depth+3*k+5<_;omega,by have:=r.un;show A.units+1+16*k+200<_;omega⟩
theorem Jql {A:ZI}{C:Zd}{us:List Za}{kw:List (Str×Za)}:(A.under (.builtin "type.__call__" ⟨.ref C::us,kw⟩)).depth=A.depth+1:=by
 first|rfl|simp[Zey,Code.weight,Code.isCreation,Code.isGuard,Code.isCaller,Code.frames,Zez,guardIds]
theorem Jqm {A:ZI}{C:Zd}{us:List Za}{kw:List (Str×Za)}:(A.under (.builtin "type.__call__" ⟨.ref C::us,kw⟩)).units=A.units+1:=by
 first|rfl|simp[Zey,Code.cUnits,Code.frames,Zez]
theorem Room.make {k:Nat}{A:ZI}(r:Room (k+1) A)(C:Zd)(us:List Za)(kw:List (Str×Za)):Room k (A.under (.builtin "type.__call__" ⟨.ref C::us,kw⟩)) :=
 ⟨r.hd,by have:=r.dp;rw[Jql];omega,by have:=r.un;rw[Jqm];omega⟩
theorem Room.depth {k:Nat}{A:ZI}(r:Room k A):A.depth<recursionLimit:=by have:=r.dp;omega
theorem Room.units {k:Nat}{A:ZI}(r:Room k A):A.units+64<cLine:=by have:=r.un;omega
section
variable {X:Cx}{e:Expr}{es:List Expr}{te:TE}{t:TA}{pos:Pos}
end
abbrev Sp:=List V->Hp->VK->XK->Prop
abbrev CXT:=List Env->Hp->Zc->XK->Za->Zc->Prop
structure Env0 (P:Z5)(w:ZP)(K:W.Frag)(mg:Str->Option Za)(base:Zag)(A:ZI)(outer:List Env)(s:Zc)(H:Hp):Prop where
 frames:A.frames=some outer
 mod:Mod K mg base
 bs:∀b o,base.get? b=some o->s.heap.get? b=some o/\H b=none
 bsz:base.objs.size<=s.heap.objs.size
 funs:s.heap.FunFrames base outer
 frf:∀b∈frs outer,H b=none
 hok:HOk P w H s.heap
 bare:Zdg s.gens
def CE (outer:List Env)(P:Z5)(w:ZP)(H:Hp)(s:Zc)(Q:VK)(u:Za)(s':Zc):Prop :=
 ∃v H',s'.os=s.os/\Zdg s'.gens/\Un (frs outer) [] H H' s.heap s'.heap/\HOk P w H' s'.heap/\RelV v u/\Q v H'
def CR (CX:CXT)(outer:List Env)(P:Z5)(w:ZP)(H:Hp)(s:Zc)(Q:VK)(E:XK)(r:ZdK)(s':Zc):Prop :=
 match r with
 | .ok (.ret u)=>CE outer P w H s Q u s'
 | .ok _=>False
 | .error e=>CX outer H s E e s'
structure FnOk (P:Z5)(w:ZP)(K:W.Frag)(mg:Str->Option Za)(base:Zag)(CX:CXT)(k:Nat)(f:Zd)(fd:Zax)(ps:List Str)(sp:Sp):Prop where
 len:∀vs H Q E,sp vs H Q E->vs.length=ps.length
 run:∀(A:ZI)(outer:List Env)(s:Zc)(H:Hp)(args:Args)(us:List Za)(vs:List V)(Q:VK)(E:XK),Room k A->Env0 P w K mg base A outer s H->Zcq s fd args (ps.zip us)->Vals vs us->sp vs H Q E ->
  Zc5 (Z6 P w) A (.call (.ref f) args) (CR CX outer P w H s Q E) s
theorem FnOk.imp {P:Z5}{w:ZP}{K:W.Frag}{mg:Str->Option Za}{base:Zag}{CX:CXT}{k:Nat}{f:Zd}{fd:Zax}{ps:List Str}{sp sp':Sp}(F:FnOk P w K mg base CX k f fd ps sp)
  (h:∀vs H Q E,sp' vs H Q E->sp vs H Q E):FnOk P w K mg base CX k f fd ps sp' :=
 ⟨λ vs H Q E q=>F.len vs H Q E (h _ _ _ _ q),λ A outer s H args us vs Q E hr he hb hv hs=>F.run A outer s H args us vs Q E hr he hb hv (h _ _ _ _ hs)⟩
theorem Env0.make {P:Z5}{w:ZP}{K:W.Frag}{mg:Str->Option Za}{base:Zag}{A:ZI}{outer:List Env}{s:Zc}{H:Hp}(e:Env0 P w K mg base A outer s H)(C:Zd)(us:List Za)(kw:List (Str×Za)) :
  Env0 P w K mg base (A.under (.builtin "type.__call__" ⟨.ref C::us,kw⟩)) outer s H:=⟨by first|exact e.frames|(simpa [Zey,Code.envs,Zez,pushEnvs] using e.frames),e.mod,e.bs,e.bsz,e.funs,e.frf,e.hok,e.bare⟩
section
variable {X:Cx}{pins:List (Zd×Obj)}{σ:St}{H:Hp}{s s':Zc}
theorem Inv.env0 (I:Inv X pins σ H s):Env0 X.prog X.w X.K X.mg X.base X.A X.stack s H :=
 ⟨I.ok.frames,I.ok.mod,I.bs,ZO I.ok.bsz I.sz,I.stack,I.stkFree,I.hok,I.bare⟩
theorem Inv.after {Q:VK}{u:Za}(I:Inv X pins σ H s)(h:CE X.stack X.prog X.w H s Q u s'):EP X pins σ Q u s':=by
 obtain⟨v,H',os,bare,un,hok,r,q⟩:=h
 obtain⟨hh,g,d,t,os'⟩:=s'
 obtain rfl:os'=s.os:=os
 exact⟨v,H',I.call (h':=hh) (g':=g) (d':=d) (t':=t) (ch:=[]) un hok bare (λ b z=>absurd z (by simp)),r,q⟩
end
def Qf (K:W.Frag)(fd:Zax)(ps:List Str)(ds:List Za):Prop :=
 ∀(s:Zc)(us:List Za),K.In s.heap->(us++ds).length=ps.length->Zcq s fd ⟨us,[]⟩ (ps.zip (us++ds))
theorem Qf.all {K:W.Frag}{fd:Zax}{ps:List Str}(h:∀us:List Za,us.length=ps.length->Zec fd ⟨us,[]⟩=pure (ps.zip us)):Qf K fd ps []:=λ s us _ hl=>by
 rw[Zak] at hl ⊢
 exact .of_eq (h us hl)
section
variable {X:Cx}{CX:CXT}{k:Nat}{f C:Zd}{fd:Zax}{ps:List Str}{sp:Sp}{dvs:List V}{ds:List Za}{E:XK}{x m:Str}{p pos apos:Pos}{e o:Expr}{es:List Expr}{ta:TE}{t:TA}
structure Mk (K:W.Frag)(C f:Zd):Prop where
 makes:W.makesIn K C=true
 init:W.findIn K (.ref C) "__init__"=some (some (.ref f))
 fn:W.isFn K (.ref f)=true
 kp:W.keepIn K (.ref C)=true
end
section
variable {X:Cx}{CX:CXT}{k:Nat}{f C:Zd}{fd:Zax}{ps ks:List Str}{sp:Sp}{E:XK}{x m:Str}{p pos apos kpos:Pos}{e o:Expr}{es:List Expr}{kws:List Zc8}{te ta:TE}{t tk:TA}{nm:Option Str}
structure KBinds (K:W.Frag)(fd:Zax)(ps ks:List Str)(g:List Za->List Za->List Za)(gV:List V->List V->List V):Prop where
 to:∀(s:Zc)(us ws:List Za),K.In s.heap->(g us ws).length=ps.length->Zcq s fd ⟨us,ks.zip ws⟩ (ps.zip (g us ws))
 rel:∀{vs:List V}{us:List Za}{zs:List V}{ws:List Za},Vals vs us->Vals zs ws->Vals (gV vs zs) (g us ws)
variable {g:List Za->List Za->List Za}{gV:List V->List V->List V}
end
structure FnScope (N P:List Str)(sc:ZaU):Prop where
 kind:sc.kind=.function
 co:sc.isCoroutine=false
 gen:sc.isGenerator=false
 nd:N.Nodup
 pre:N.take P.length=P
 par:∀x∈P,sc.names.lookup x=some .local∨sc.names.lookup x=some .cell
 nofree:∀y∈sc.names,y.2≠.free
theorem Jlr {kindOf:Str->Option Zbf}{x:Str}:∀{binds:List (Str×Za)}{m:Str->Option Za},(∀v,(x,v)∉binds)->bindL kindOf binds m x=m x
 | [],_,_=>rfl
 | (n,v)::r,m,h=>by
  unfold bindL
  rw[Jlr λ w hw=>h w (Zm _ hw)]
  split
  ·have:x≠n:=by rintro rfl;exact h v Z3
   simp[this]
  ·rfl
theorem Jlp {kindOf:Str->Option Zbf}{x:Str}:∀{binds:List (Str×Za)}{m:Str->Option Za},(∀v,(x,v)∉binds)->bindC kindOf binds m x=m x
 | [],_,_=>rfl
 | (n,v)::r,m,h=>by
  unfold bindC
  rw[Jlp λ w hw=>h w (Zm _ hw)]
  split
  ·rfl
  ·have:x≠n:=by rintro rfl;exact h v Z3
   simp[this]
theorem Jlq {kindOf:Str->Option Zbf}{x:Str}{v:Za}:∀{P:List Str}{vs:List Za}{i:Nat}{m:Str->Option Za},P.Nodup->P[i]?=some x->vs[i]?=some v->kindOf x=some .local ->
  bindL kindOf (P.zip vs) m x=some v
 | [],_,_,_,_,h,_,_=>by simp at h
 | _::_,[],_,_,_,_,h,_=>by simp at h
 | p::P,w::vs,0,m,nd,h1,h2,hk=>by
  simp at h1 h2;subst h1;subst h2
  show bindL kindOf ((p,w)::P.zip vs) m p=_
  unfold bindL
  rw[Jlr λ v hv=>(Zcr.mp nd).1 (ZdT hv).1,if_pos hk]
  simp
 | p::P,w::vs,i+1,m,nd,h1,h2,hk=>by
  show bindL kindOf ((p,w)::P.zip vs) m x=_
  unfold bindL
  exact Jlq (i:=i) (Zcr.mp nd).2 (by simpa using h1) (by simpa using h2) hk
theorem Jlo {kindOf:Str->Option Zbf}{x:Str}{v:Za}:∀{P:List Str}{vs:List Za}{i:Nat}{m:Str->Option Za},P.Nodup->P[i]?=some x->vs[i]?=some v->kindOf x≠some .local ->
  bindC kindOf (P.zip vs) m x=some v
 | [],_,_,_,_,h,_,_=>by simp at h
 | _::_,[],_,_,_,_,h,_=>by simp at h
 | p::P,w::vs,0,m,nd,h1,h2,hk=>by
  simp at h1 h2;subst h1;subst h2
  show bindC kindOf ((p,w)::P.zip vs) m p=_
  unfold bindC
  rw[Jlp λ v hv=>(Zcr.mp nd).1 (ZdT hv).1,if_neg hk]
  simp
 | p::P,w::vs,i+1,m,nd,h1,h2,hk=>by
  show bindC kindOf ((p,w)::P.zip vs) m x=_
  unfold bindC
  exact Jlo (i:=i) (Zcr.mp nd).2 (by simpa using h1) (by simpa using h2) hk
def start (N:List Str)(vs:List V):St:=vs.map some++ZJ (N.length-vs.length) none
def cxOf (CX:CXT)(P:Z5)(w:ZP)(K:W.Frag)(mg:Str->Option Za)(base:Zag)(N:List Str)(qual:Str)(scope:ZaU)(f:Zd)(cd:Za)(A:ZI)(outer:List Env)(s:Zc)(H:Hp)(E:XK):Cx where
 prog:=P
 w:=w
 K:=K
 mg:=mg
 base:=base
 A:=A.deeper (Zed qual scope s.heap.objs.size f cd)
 N:=N
 s₀:=s
 H₀:=H
 env:=Zed qual scope s.heap.objs.size f cd
 outer:=outer
 stack:=Zed qual scope s.heap.objs.size f cd::outer
 ex:=[]
 calm:=true
 fn:=λ _=>true
 pn:=[]
 xe:=λ e s'=>Zs (Z6 P w) (A.deeper (Zed qual scope s.heap.objs.size f cd)) (leaving (Zed qual scope s.heap.objs.size f cd) e) (λ _ s''=>CX outer H s E e s'') (λ e' s''=>CX outer H s E e' s'') s'
theorem Jon {sc:ZaU}{n:Nat}{x:Str}(h:sc.names.lookup x=some .cell):∃c,(cellsFrom n sc.names []).lookup x=some c:=by
 have q:=W.cellsFrom_some sc.names n [] (.inl h)
 exact Zbj.mp q
theorem Jr9 {CX:CXT}{P:Z5}{w:ZP}{K:W.Frag}{mg:Str->Option Za}{base:Zag}{N ps:List Str}{qual:Str}{scope:ZaU}{f:Zd}{cd:Za}{A:ZI}{outer:List Env}{s s1:Zc}{H:Hp}{E:XK}{us:List Za}{vs:List V}
  (S:FnScope N ps scope)(hd:A.handled=none)(e0:Env0 P w K mg base A outer s H)(hl:vs.length=ps.length)(r:Vals vs us)
  (x:InCallC s s.heap.objs.size (bindL (Zed qual scope s.heap.objs.size f cd).kindOf (ps.zip us) λ _=>none) (cellsFrom (s.heap.objs.size+1) scope.names []) (bindC (Zed qual scope s.heap.objs.size f cd).kindOf (ps.zip us) λ _=>none) s1) :
  Inv (cxOf CX P w K mg base N qual scope f cd A outer s H E) [] (start N vs) H s1:=by
 have hpl:ps.length<=N.length:=by have:=congrArg List.length S.pre;rw[ZaN] at this;omega
 obtain⟨h1,tk,rfl,hk⟩:=x.done
 have noA:∀b:Zd,b∉(cxOf CX P w K mg base N qual scope f cd A outer s H E).ex:=λ b z=>absurd (show b∈([]:List Zd) from z) (by simp)
 refine⟨⟨e0.mod,S.kind,rfl,rfl,Zl _,λ y z c h1 h2=>?_,λ y hy=>?_,λ y c _ h=>?_,λ _=>hd,Around.frames_deeper e0.frames,.inr ⟨rfl,rfl⟩,λ b z=>absurd z (noA b),e0.bs,e0.bsz,λ b _ _=>noA b,λ b z=>absurd z (noA b),e0.funs,e0.frf⟩,
  rfl,e0.bare,Un.kept hk,⟨_,x.toInCall.ns,λ i y v h1 h2 h3=>?_⟩,λ y c h=>⟨_,x.cell y c h⟩,e0.hok.fresh (Zl _),λ y c h=>?_,λ p hp=>absurd (show p∈([]:List (Zd×Obj)) from hp) (by simp),e0.hok.kept hk,?_⟩
 ·exact name_of_addr x.apart (ZY h1) (ZY h2)
 ·have hy:scope.names.lookup y=some .cell∨scope.names.lookup y=some .free:=hy
  rcases hy with hy|hy
  ·exact Jon hy
  ·exact absurd rfl (S.nofree _ (ZY hy))
 ·exact ZbF (x.above y c (ZY h))
 ·have hi:i<vs.length:=by
   unfold start at h2
   by_cases hi:i<vs.length
   ·exact hi
   ·rw[Z2 (by simpa using hi)] at h2
    rw[Zb7] at h2
    split at h2<;>cases h2
  have ha:vs[i]?=some v:=by
   unfold start at h2
   rw[Z9 (by simpa using hi),Zt] at h2
   cases e:vs[i]? with
   | none=>rw[e] at h2;cases h2
   | some a=>rw[e] at h2;cases h2;rfl
  obtain⟨u,hu,rv⟩:=r.get ha
  have hp:ps[i]?=some y:=by
   rw[<- S.pre,List.getElem?_take_of_lt (by omega)];exact h1
  have ndP:ps.Nodup:=by rw[<- S.pre];exact S.nd.sublist (List.take_sublist _ _)
  refine⟨u,rv,?_⟩
  rcases S.par y (ZbV hp) with k|k
  ·exact .inl ⟨k,Jlq ndP hp hu k⟩
  ·obtain⟨c,e⟩:=Jon (n:=s.heap.objs.size+1) k
   refine .inr ⟨.inl k,c,e,?_⟩
   have q:=x.cell y c e
   rw[Jlo ndP hp hu (by show scope.names.lookup y≠_;rw[k];decide)] at q
   exact q
 ·exact e0.hok.fresh (ZbF (x.above y c (ZY h)))
 ·unfold start
  show _=N.length
  rw[Zo,Zh,Zbt]
  omega
theorem J3v {CX:CXT}{P:Z5}{w:ZP}{K:W.Frag}{mg:Str->Option Za}{base:Zag}{k:Nat}{f:Zd}{name qual:Str}{params:ZbO}{body:List ZcY}{scope:ZaU}{dV kV doc pm cdv ct oc:Za}{an od:Option Zd}
  {osl:Array (Option Za)}{N ps:List Str}{sp:Sp}(lk:K.lookup f=some ⟨oc,od,.func (W.fnOf name qual params body scope dV kV doc pm an cdv ct),osl⟩)(hcd:W.codeIn K cdv qual=true)(S:FnScope N ps scope)
  (len:∀vs H Q E,sp vs H Q E->vs.length=ps.length)
  (hbody:∀(A:ZI)(outer:List Env)(s:Zc)(H:Hp)(vs:List V)(Q:VK)(E:XK),Room k (A.deeper (Zed qual scope s.heap.objs.size f cdv))->sp vs H Q E ->
   ∃t,PSs (cxOf CX P w K mg base N qual scope f cdv A outer s H E) body t/\t { nx:=λ _ H'=>Q .non H',rt:=Q } (start N vs) H) :
  FnOk P w K mg base CX (k+1) f (W.fnOf name qual params body scope dV kV doc pm an cdv ct) ps sp:=by
 refine⟨len,λ A outer s H args us vs Q E hr e0 hb r hsp=>?_⟩
 have hl:=len _ _ _ _ hsp
 have KX:K.In s.heap:=e0.mod.kin.keeps λ b o e=>(e0.bs b o e).1
 have lim:s.heap.NoLimit:=e0.mod.nolimit.keeps λ b o e=>(e0.bs b o e).1
 have hkind:∀y∈ps.zip us,scope.names.lookup y.1=some .local∨(scope.names.lookup y.1=some .cell/\((cellsFrom (s.heap.objs.size+1) scope.names []).lookup y.1).isSome=true):=λ ⟨n,v⟩ hy=>by
  rcases S.par n (ZdT hy).1 with q|q
  ·exact .inl q
  ·exact .inr ⟨q,W.cellsFrom_some _ _ _ (.inl q)⟩
 refine codeAny_call_function hr.depth (KX _ _ lk) rfl S.co S.gen rfl (W.codeRec_of KX hcd) (hb _ _ _ _ ?_)
 refine wpAny_newFunctionEnv_cells S.kind hkind λ env he s1 x=>?_
 subst he
 refine⟨lim.keeps x.toInCall.keep,codeAny_func ?_⟩
 obtain⟨t,ht,hq⟩:=hbody A outer s H vs Q E (hr.deeper _) hsp
 have I:Inv (cxOf CX P w K mg base N qual scope f cdv A outer s H E) [] (start N vs) H s1:=Jr9 S hr.hd e0 hl r x
 refine Zae (ht [] s1 (start N vs) H _ I hq) (λ fl s' hs=>?_) λ e s' hs=>hs
 have fin:∀{σ':St}{H':Hp}{v:V}{u:Za},Inv (cxOf CX P w K mg base N qual scope f cdv A outer s H E) [] σ' H' s'->RelV v u->Q v H'->CE outer P w H s Q u s' :=
  λ {σ' H' v u} J rv q=>⟨v,H',J.os,J.bare,J.base,J.hok,rv,q⟩
 cases fl with
 | ret u =>
  obtain⟨v,σ',H',J,rv,q⟩:=hs
  exact fin J rv q
 | next =>
  obtain⟨σ',H',J,q⟩:=hs
  exact fin (v:=V.non) (u:=ZR) J rfl q
 | brk =>
  obtain⟨_,_,_,q⟩:=hs
  exact Zbp q
 | cont =>
  obtain⟨_,_,_,q⟩:=hs
  exact Zbp q
section
variable {X:Cx}{x:Str}{p pos:Pos}{e:Expr}{es:List Expr}{t:TA}{id T:String}{r:List V->Hp->VK->Prop}
end
end L2
namespace HT
open PySem PyProof.Rows
section
open PySem.SeqAt
open PySem.AutoSeq1 (wpAny_loadPart')
open PySem.MeetsSeq PySem.MeetsSeq2 PySem.MeetsSeq3
end
section
variable {prog:Z5}{w:ZP}{A:ZI}{E:Za->Zc->Prop}{s:Zc}
theorem cat_tup {t b:Zd}{vs ws:List Za}{Q:Za->Zc->Prop}(ht:IsTup s.heap t vs.toArray)(hb:IsTup s.heap b ws.toArray)(hv:vs≠[])
  (h1:ws=[]->Q (.ref t) s)(h2:ws≠[]->Q (.ref s.heap.objs.size) { s with heap:=s.heap.push { cls:=.type "tuple",data:=.seq (vs++ws).toArray } })
  (hsz:vs.length+ws.length<=sizeLine):Zs (Z6 prog w) A (ZaM .Add (.ref t) (.ref b)) Q E s:=by
 obtain⟨⟨cls,dd,data,sl⟩,ho,hc,n,hd⟩:=id ht
 obtain⟨⟨cls2,dd2,data2,sl2⟩,ho2,hc2,n2,hd2⟩:=id hb
 simp only at hc hd hc2 hd2
 subst hc hd hc2 hd2
 have e:vs.toArray++ws.toArray=(vs++ws).toArray:=by simp
 by_cases hw:ws=[]
 ·exact concat_meets ⟨_,ho,rfl⟩ ⟨_,ho2,rfl⟩ noFill_tuple_add seq_tuple_add ZdL Zd7 (Zdy _ _)
   (tuple_addW1 t b vs.toArray ws.toArray n n2 dd dd2 sl sl2 (by simpa using hv) (by simp[hw])) ⟨ho,ho2,h1 hw⟩
 ·refine concat_meets ⟨_,ho,rfl⟩ ⟨_,ho2,rfl⟩ noFill_tuple_add seq_tuple_add ZdL Zd7 (Zdy _ _)
   (tuple_addW2 t b vs.toArray ws.toArray n n2 dd dd2 sl sl2 (by simpa using hv) (by simpa using hw) (by rw[Zq,Zq];exact hsz)) ⟨ho,ho2,?_⟩
  rw[e]
  exact h2 hw
def sIx (n d:Nat):Option Int->Nat
 | none=>d
 | some v=>if v<0 then(v+(n:Int)).toNat else min v.toNat n
theorem sIx_none (n d:Nat):sIx n d none=d:=rfl
theorem sIx_nat (n d k:Nat):sIx n d (some (k:Int))=min k n:=by
 show(if (k:Int)<0 then((k:Int)+(n:Int)).toNat else min (k:Int).toNat n)=min k n
 rw[if_neg (by omega),ZaW]
end
end HT
namespace L2
open PySem PySem.Spec PyProof.Rows
abbrev TO:=St->Hp->(Option Int->Hp->Prop)->Prop
section
variable {X:Cx}{e:Expr}{te:TE}{lo hi:Option Expr}{tl th:TO}{pos p2:Pos}
def SlR (X:Cx)(r:V->Option Int->Option Int->Hp->VK->Prop):Prop :=
 ∀(pins:List (Zd×Obj))(s:Zc)(σ:St)(H:Hp)(x:V)(v vl vu:Za)(lo hi:Option Int)(sl:Zd)(Q:VK),Inv X pins σ H s->RelV x v->s.heap.IsSliceOf sl vl vu .none->Ze6 vl lo->Ze6 vu hi->r x lo hi H Q ->
  ∃T id,typeLookup (.type T) "__getitem__"=pure (some (.builtin id))/\s.TypeIs v T/\Zs (Z6 X.prog X.w) X.A (ZdM v (.ref sl)) (EP X pins σ Q) X.xe s
def cutV (xs:List V)(lo hi:Option Int):List V:=(xs.drop (HT.sIx xs.length 0 lo)).take (HT.sIx xs.length xs.length hi-HT.sIx xs.length 0 lo)
theorem Jnp (xs:List V)(lo hi:Option Int):(cutV xs lo hi).length<=xs.length:=by
 unfold cutV
 rw[ZaN,ZcJ]
 omega
def J4u (K:W.Frag):R2:=λ x y H Q=>∃a b xs ys,x=.ref a/\y=.ref b/\SqT K H a xs/\SqT K H b ys/\xs≠[]/\xs.length+ys.length<=sizeLine /\
 (ys=[]->Q (.ref a) H)/\(ys≠[]->∀p,H p=none->Q (.ref p) (upd H p (.tup (xs++ys))))
theorem Vals.nil_iff {xs:List V}{us:List Za}(r:Vals xs us):us=[]↔xs=[]:=by
 cases r with
 | nil=>simp
 | cons _ _=>simp
theorem Jzj:OpR X (ZaM .Add) (J4u X.K):=by
 intro pins s σ H x y v u Q I rx ry h
 obtain⟨a,b,xs,ys,rfl,rfl,ha,hb,hx,hz,q1,q2⟩:=h
 cases rx
 cases ry
 obtain⟨its,r1,p1,_⟩:=I.tuple ha
 obtain⟨its2,r2,p2,_⟩:=I.tuple hb
 refine HT.cat_tup p1 p2 (λ z=>hx (r1.nil_iff.mp z)) (λ z=>⟨.ref a,H,I,rfl,q1 (r2.nil_iff.mp z)⟩) (λ z=>?_) (by rw[<- r1.length,<-r2.length];exact hz)
 refine⟨.ref s.heap.objs.size,_,I.laid (t':=s.toks) (o:=.tup (xs++ys)) (λ b ob q=>Zg _ q) (Zl _) ?_,rfl,q2 (λ w=>z (r2.nil_iff.mpr w)) _ (I.hok.fresh (Zl _))⟩
 exact⟨by rw[Zo];exact hz,_,r1.append r2,IsTup.new _ _⟩
end
noncomputable def ixN (n:Nat)(i:Int):Option Nat:=if 0<=i then(if i<n then some i.toNat else none) else if -(n:Int)<=i then some (i+n).toNat else none
noncomputable def atI {α:Type}(xs:List α)(i:Int):Option α:=(ixN xs.length i).bind λ j=>xs[j]?
theorem Jsd {n:Nat}{i:Int}{j:Nat}(h:ixN n i=some j):seqIndex? i n=some j/\j<n/\ -(n:Int)<=i/\i<n:=by
 unfold ixN at h
 by_cases h0:0<=i
 ·rw[if_pos h0] at h
  by_cases h1:i<n
  ·rw[if_pos h1] at h
   have e:i.toNat=j:=Zab h
   exact⟨by rw[Zee h0 h1,e],by omega,by omega,h1⟩
  ·rw[if_neg h1] at h;cases h
 ·rw[if_neg h0] at h
  by_cases h1: -(n:Int)<=i
  ·rw[if_pos h1] at h
   have e:(i+n).toNat=j:=Zab h
   exact⟨by rw[Ze0 (by omega) h1,e],by omega,h1,by omega⟩
  ·rw[if_neg h1] at h;cases h
theorem Ji5 {α:Type}{xs:List α}{i:Int}{v:α}(h:atI xs i=some v):∃j,seqIndex? i xs.length=some j/\xs[j]?=some v/\j<xs.length/\ -(xs.length:Int)<=i/\i<xs.length:=by
 unfold atI at h
 cases e:ixN xs.length i with
 | none=>rw[e] at h;cases h
 | some j =>
  rw[e] at h
  obtain⟨h1,h2,h3,h4⟩:=Jsd e
  exact⟨j,h1,h,h2,h3,h4⟩
def Jq5 (b:Expr):Prop:=∀o i,Zef b false o i=operate [o,i] (ZdM o i)
def IxR (X:Cx)(r:R2):Prop :=
 ∀(value slice:Expr)(pins:List (Zd×Obj))(s:Zc)(σ:St)(H:Hp)(x y:V)(v u:Za)(Q:VK),Inv X pins σ H s->RelV x v->RelV y u->r x y H Q ->
  Zef slice false v u=operate [v,u] (ZdM v u)->Zs (Z6 X.prog X.w) X.A (Zdz value slice v u) (EP X pins σ Q) X.xe s
section
variable {X:Cx}{a b:Expr}{ta tb:TE}{pos:Pos}
def rIxL (K:W.Frag):R2:=λ x y H Q=>∃p xs i v,x=.ref p/\y=.int i/\SqL K H p xs/\atI xs i=some v/\Q v H
def rIxT (K:W.Frag):R2:=λ x y H Q=>∃p xs i v,x=.ref p/\y=.int i/\SqT K H p xs/\atI xs i=some v/\Q v H
def rIxS:R2:=λ x y H Q=>∃z i c,x=.str z/\y=.int i/\z.length<=sizeLine/\atI z.cps.toList i=some c/\Q (.str ⟨#[c]⟩) H
theorem Jse:IxR X (rIxL X.K):=by
 intro value slice pins s σ H x y v u Q I rx ry h hs
 obtain⟨p,xs,i,z,rfl,rfl,hq,he,q⟩:=h
 cases rx
 obtain⟨t,rfl⟩:=ry
 obtain⟨its,r,pl,hz⟩:=I.list hq
 obtain⟨j,h1,h2,h3,h4,h5⟩:=Ji5 he
 obtain⟨w,ew,rw'⟩:=r.get h2
 have hl:=r.length
 have hn:=VX
 have fin:EP X pins σ Q w s:=⟨z,H,I,rw',q⟩
 by_cases h0:0<=i
 ·have hj:i.toNat=j:=by
   rw[Zee h0 h5] at h1
   exact Zab h1
  exact item_listR pl.isList h0 (by omega) (by rw[hj];simpa using ew) fin hs
 ·have hj:(i+(its.toArray.size:Int)).toNat=j:=by
   rw[Ze0 (by omega) h4] at h1
   rw[Zq,<-hl]
   exact Zab h1
  exact Zc9 (x:=w) pl.isList.typeIs slot_list_getitem.lookup
   (wpAny_getItem_list_neg (Q:=λ r s'=>r=w/\EP X pins σ Q r s') pl.isList (by omega) (by rw[Zq]<;>omega) (by omega) (by rw[hj];simpa using ew) ⟨rfl,fin⟩) hs
theorem J1n:IxR X (rIxT X.K):=by
 intro value slice pins s σ H x y v u Q I rx ry h hs
 obtain⟨p,xs,i,z,rfl,rfl,hq,he,q⟩:=h
 cases rx
 obtain⟨t,rfl⟩:=ry
 obtain⟨its,r,pl,hz⟩:=I.tuple hq
 obtain⟨j,h1,h2,h3,h4,h5⟩:=Ji5 he
 obtain⟨w,ew,rw'⟩:=r.get h2
 have hl:=r.length
 have hn:=VX
 have fin:EP X pins σ Q w s:=⟨z,H,I,rw',q⟩
 exact Zc9 (x:=w) pl.typeIs slot_tuple_getitem.lookup
  (getItem_tuple (j:=j) (Q:=λ r s'=>r=w/\EP X pins σ Q r s') pl (by omega) (by omega) (by rw[Zq,<-hl];exact h1) (by simpa using ew) ⟨rfl,fin⟩) hs
theorem J1m:IxR X rIxS:=by
 intro value slice pins s σ H x y v u Q I rx ry h hs
 obtain⟨z,i,c,rfl,rfl,hz,he,q⟩:=h
 obtain⟨t,rfl⟩:=rx
 obtain⟨t',rfl⟩:=ry
 obtain⟨j,h1,h2,h3,h4,h5⟩:=Ji5 he
 have hl:z.cps.toList.length=z.length:=by simp[Zet]
 rw[hl] at h1 h4 h5
 have hn:=VX
 exact tail_any (typeIs_str s z t) slot_str_getitem.lookup (getItem_str (c:=c) (by
  have e1:decide (i< -(2^63:Int))=false:=decide_eq_false (by omega)
  have e2:decide (i ≥ 2^63)=false:=decide_eq_false (by omega)
  rw[e1,e2,Bool.or_false]) (by rw[h1];simpa using h2) ⟨.str ⟨#[c]⟩,H,I.tok _,⟨_,rfl⟩,q⟩) hs
theorem Jqn (its:List Za)(n j:Nat)(u:Za):Zaf (·.setIfInBounds j u) { cls:=.type "list",data:=.seq its.toArray n }={ cls:=.type "list",data:=.seq (its.set j u).toArray n }:=by
 simp[Zaf]
theorem Inv.lst {pins:List (Zd×Obj)}{σ:St}{H:Hp}{s:Zc}{p:Zd}{xs:List V}(I:Inv X pins σ H s)(h:H p=some (.lst xs)) :
  ∃(its:List Za) (n:Nat),Vals xs its/\s.heap.get? p=some { cls:=.type "list",data:=.seq its.toArray n }/\xs.length<=sizeLine:=by
 obtain⟨z,its,n,r,e⟩:=I.hok p _ h
 exact⟨its,n,r,e,z⟩
theorem Inv.lstUpd {pins:List (Zd×Obj)}{σ:St}{H:Hp}{s:Zc}{p:Zd}{xs ys:List V}{its its':List Za}{n n':Nat}{f:Obj->Obj}(I:Inv X pins σ H s)(h:H p=some (.lst xs))
  (ho:s.heap.get? p=some { cls:=.type "list",data:=.seq its.toArray n })(hf:f { cls:=.type "list",data:=.seq its.toArray n }={ cls:=.type "list",data:=.seq its'.toArray n' })(r:Vals ys its')(hz:ys.length<=sizeLine)(t:Nat) :
  Inv X pins σ (upd H p (.lst ys)) { s with heap:=s.heap.update p f,toks:=t }:=by
 have e:(s.heap.update p f).get? p=some { cls:=.type "list",data:=.seq its'.toArray n' }:=by
  rw[Za2 f ho (by rw[hf]<;>rfl),hf]
 refine I.write (x:=p) (e:=p) (by rw[h];trivial) (.inl rfl) (λ b u hb q=>(Zr _ _ (ZK hb)).trans q) ⟨_,e⟩ ?_
 exact⟨hz,its',n',r,e⟩
def J4v:V->V->V->Hp->(Hp->Prop)->Prop:=λ o i v H Q=>∃p xs k j,o=.ref p/\i=.int k/\H p=some (.lst xs)/\ixN xs.length k=some j/\Q (upd H p (.lst (xs.set j v)))
theorem Jvn:PSet X J4v:=by
 intro pins s σ H o i v ov iv u Q I ro ri rv h
 obtain⟨p,xs,k,j,rfl,rfl,hp,hj,q⟩:=h
 cases ro
 obtain⟨t,rfl⟩:=ri
 obtain⟨its,n,r,ho,hz⟩:=I.lst hp
 obtain⟨h1,h2,h3,h4⟩:=Jsd hj
 have hl:=r.length
 have hn:=VX
 have I':Inv X pins σ (upd H p (.lst (xs.set j v))) { s with heap:=s.heap.update p (Zaf (·.setIfInBounds j u)) } :=
  I.lstUpd hp ho (Jqn its n j u) (r.set rv j) (by rw[Zbn];exact hz) s.toks
 by_cases h0:0<=k
 ·have hk:k.toNat=j:=by
   rw[Zee h0 h4] at h1
   exact Zab h1
  exact W.ki_setAt ho h0 (by omega) (by rw[Zq,<-hl];exact h4) (by rw[hk];exact⟨_,I',q⟩)
 ·have hk:(k+(its.toArray.size:Int)).toNat=j:=by
   rw[Ze0 (by omega) h3] at h1
   rw[Zq,<-hl]
   exact Zab h1
  exact W.ki_setBack ho (by omega) (by rw[Zq,<-hl];exact h3) (by omega) (by rw[hk];exact⟨_,I',q⟩)
theorem Jm4 (lo hi:Option Int)(n:Nat):(Zcz lo hi none n).1=((HT.sIx n 0 lo:Nat):Int)/\(Zcz lo hi none n).2.1=((HT.sIx n n hi:Nat):Int)/\(Zcz lo hi none n).2.2=1:=by
 refine⟨?_,?_,rfl⟩
 ·cases lo with
  | none=>simp[Zcz,HT.sIx]
  | some i =>
   simp only[Zcz,HT.sIx,Option.getD_none,show(1:Int)>0 by decide,if_true]
   by_cases h:i<0
   ·simp only[h,if_true]<;>omega
   ·simp only[h,if_false]<;>omega
 ·cases hi with
  | none=>simp[Zcz,HT.sIx]
  | some i =>
   simp only[Zcz,HT.sIx,Option.getD_none,show(1:Int)>0 by decide,if_true]
   by_cases h:i<0
   ·simp only[h,if_true]<;>omega
   ·simp only[h,if_false]<;>omega
theorem Jko (its:List Za)(lo hi:Option Int):slicePick its.toArray lo hi none=((its.drop (HT.sIx its.length 0 lo)).take (HT.sIx its.length its.length hi-HT.sIx its.length 0 lo)).toArray:=by
 obtain⟨h1,h2,h3⟩:=Jm4 lo hi its.toArray.size
 unfold slicePick
 rw[h1,h2,h3]
 simp only[sliceRange_one,pick_run,Zq]<;>rfl
def rSlL (K:W.Frag):V->Option Int->Option Int->Hp->VK->Prop:=λ x lo hi H Q=>∃a xs,x=.ref a/\SqL K H a xs/\∀p,H p=none->Q (.ref p) (upd H p (.lst (cutV xs lo hi)))
theorem Jtc:SlR X (rSlL X.K):=by
 intro pins s σ H x v vl vu lo hi sl Q I rx hs pl pu h
 obtain⟨a,xs,rfl,hx,q⟩:=h
 cases rx
 obtain⟨its,r,ht,hz⟩:=I.list hx
 have hlen:=r.length
 refine⟨"list",_,slot_list_getitem.lookup,ht.isList.typeIs,?_⟩
 refine wpAny_getItem_list_slice ht.isList hs pl pu .none (by simp) ?_ (by rw[Zq]<;>omega)
 rw[Jko,<-hlen]
 refine⟨.ref s.heap.objs.size,_,I.laid (t':=s.toks) (o:=.lst (cutV xs lo hi)) (λ b ob q=>Zg _ q) (Zl _) ?_,rfl,q _ (I.hok.fresh (Zl _))⟩
 exact⟨ZO (Jnp xs lo hi) hz,_,0,(r.drop (HT.sIx xs.length 0 lo)).take (HT.sIx xs.length xs.length hi-HT.sIx xs.length 0 lo),Zw _ rfl⟩
theorem Jck:Xm X (.type "list") (λ xs H Q=>∃p ys,xs=[.ref p]/\(SqL X.K H p ys∨SqT X.K H p ys)/\∀l,H l=none->Q (.ref l) (upd H l (.lst ys))):=by
 intro pins s σ H xs us Q I r h
 obtain⟨p,ys,rfl,hq,q⟩:=h
 obtain⟨u,rfl,rx⟩:=QU r
 cases rx
 have fin:∀(its:List Za),Vals ys its->ys.length<=sizeLine->∀(h':Zag)(c':Nat),(∀b o',s.heap.get? b=some o'->h'.get? b=some o') ->
   h'.get? s.heap.objs.size=some { cls:=.type "list",dict:=none,data:=.seq its.toArray c',slots:=#[] }->EP X pins σ Q (.ref s.heap.objs.size) { s with heap:=h' }:=λ its r' hz h' c' kp e =>
  ⟨.ref s.heap.objs.size,_,I.laid (t':=s.toks) kp (Zl _) (show JG X.prog X.w _ h' _ (.lst ys) from⟨hz,its,c',r',e⟩),rfl,q _ (I.hok.fresh (Zl _))⟩
 rcases hq with hq|hq
 ·obtain⟨its,r',pl,hz⟩:=I.list hq
  have hlen:=r'.length
  obtain⟨o,ho,hc,n,hd⟩:=pl.isList
  exact call_list_seq p (.inl rfl) ho hc hd (λ h' c' kp e=>fin its r' hz h' c' kp e) (by simp only[Zq]<;>omega)
 ·obtain⟨its,r',pl,hz⟩:=I.tuple hq
  have hlen:=r'.length
  obtain⟨o,ho,hc,n,hd⟩:=pl
  exact call_list_seq p (.inr rfl) ho hc hd (λ h' c' kp e=>fin its r' hz h' c' kp e) (by simp only[Zq]<;>omega)
theorem Jej:Xm X (.type "tuple") (λ xs H Q=>∃p ys,xs=[.ref p]/\((SqL X.K H p ys/\∀l,H l=none->Q (.ref l) (upd H l (.tup ys)))∨(SqT X.K H p ys/\Q (.ref p) H))):=by
 intro pins s σ H xs us Q I r h
 obtain⟨p,ys,rfl,h⟩:=h
 obtain⟨u,rfl,rx⟩:=QU r
 cases rx
 rcases h with⟨hq,q⟩|⟨hq,q⟩
 ·obtain⟨its,r',pl,hz⟩:=I.list hq
  have hlen:=r'.length
  refine call_tuple_list pl.isList (λ h' kp=>?_) (by simp only[Zq]<;>omega)
  have I1:Inv X pins σ H { s with heap:=h' }:=I.kept (t':=s.toks) kp
  have I2:Inv X pins σ (upd H h'.objs.size (.tup ys)) { s with heap:=h'.push { cls:=.type "tuple",data:=.seq its.toArray } } :=
   I1.laid (t':=s.toks) (λ b o e=>Zg _ e) (Zl _) (show JG X.prog X.w _ _ _ (.tup ys) from⟨hz,its,r',IsTup.new _ _⟩)
  exact⟨.ref h'.objs.size,_,I2,rfl,q _ (I1.hok.fresh (Zl _))⟩
 ·obtain⟨its,r',pl,hz⟩:=I.tuple hq
  exact call_tuple_same pl ⟨.ref p,H,I,rfl,q⟩
def tyV (K:W.Frag)(T:String)(x:V)(H:Hp):Prop:=match x with
 | .str _=>T="str"
 | .int _=>T="int"
 | .ref p=>(T="list"/\∃xs,SqL K H p xs)∨(T="tuple"/\∃o,K.lookup p=some o/\o.cls=.type "tuple"/\o.dict=none) ∨
   (T="dict"/\((∃kvs,H p=some (.dK kvs))∨∃kvs,H p=some (.dT kvs)))∨(T="set"/\∃S n,H p=some (.set S n))
 | _=>False
theorem Jxi {pins:List (Zd×Obj)}{σ:St}{H:Hp}{s:Zc}{T:String}{x:V}{v:Za}(I:Inv X pins σ H s)(r:RelV x v)(ty:tyV X.K T x H) :
  s.TypeIs v T/\∀a,v=.ref a->∃ob,s.heap.get? a=some ob/\ob.dict=none:=by
 cases x with
 | str z =>
  obtain⟨t,rfl⟩:=r
  cases (show T="str" from ty)
  exact⟨typeIs_str s z t,λ _ e=>nomatch e⟩
 | int i =>
  obtain⟨t,rfl⟩:=r
  cases (show T="int" from ty)
  exact⟨typeIs_int s i t,λ _ e=>nomatch e⟩
 | ref p =>
  cases r
  rcases ty with⟨rfl,xs,hq⟩|⟨rfl,o,hk,hc,hd⟩|⟨rfl,hk⟩|⟨rfl,S,n,hk⟩
  ·obtain⟨its,_,pl,_⟩:=I.list hq
   refine⟨pl.isList.typeIs,λ a e=>?_⟩
   cases e
   obtain⟨o,n,e,c,hd,_⟩:=pl
   exact⟨o,e,hd⟩
  ·refine⟨⟨o,I.kIn p o hk,hc⟩,λ a e=>?_⟩
   cases e
   exact⟨o,I.kIn _ o hk,hd⟩
  ·have z:∃o,s.heap.get? p=some o/\o.ExactDict:=by
    rcases hk with⟨kvs,hk⟩|⟨kvs,hk⟩
    ·obtain⟨_,_,_,_,o,_,_,e,ex,_⟩:=I.hok p _ hk
     exact⟨o,e,ex⟩
    ·obtain⟨_,_,_,_,o,_,_,e,ex,_⟩:=I.hok p _ hk
     exact⟨o,e,ex⟩
   obtain⟨o,e,ex⟩:=z
   refine⟨⟨o,e,ex.1⟩,λ a e2=>?_⟩
   cases e2
   exact⟨o,e,ex.2.1⟩
  ·obtain⟨o,_,_,_,e,ex,_⟩:=I.hok p _ hk
   refine⟨⟨o,e,ex.1⟩,λ a e2=>?_⟩
   cases e2
   exact⟨o,e,ex.2.1⟩
 | _=>exact Zbp ty
variable {o e:Expr}{es:List Expr}{to:TE}{t:TA}{name:Str}{apos cpos:Pos}{T id:String}{r:V->List V->Hp->VK->Prop}
end
def MtM (X:Cx)(id:String)(r:V->List V->Hp->VK->Prop):Prop :=
 ∀(pins:List (Zd×Obj))(s:Zc)(σ:St)(H:Hp)(x:V)(xs:List V)(v:Za)(us:List Za)(Q:VK),Inv X pins σ H s->RelV x v->Vals xs us->r x xs H Q ->
  Zs (Z6 X.prog X.w) X.A (call (.builtin id) (v::us)) (EP X pins σ Q) X.xe s
theorem Vals.one:∀{x:V}{us:List Za},Vals [x] us->∃u,us=[u]/\RelV x u
 | _,_,.cons r .nil=>⟨_,rfl,r⟩
theorem Vals.zero:∀{us:List Za},Vals [] us->us=[]
 | _,.nil=>rfl
theorem Vals.dropLast {xs:List V}{us:List Za}(h:Vals xs us):Vals xs.dropLast us.dropLast:=by
 induction h with
 | nil=>exact .nil
 | cons r t ih =>
  cases t with
  | nil=>exact .nil
  | cons q t'=>exact .cons r ih
theorem Vals.eraseIdx:∀{xs:List V}{us:List Za}(i:Nat),Vals xs us->Vals (xs.eraseIdx i) (us.eraseIdx i)
 | _,_,_,.nil=>.nil
 | _,_,0,.cons _ t=>t
 | _,_,i+1,.cons r t=>.cons r (Vals.eraseIdx i t)
theorem Vals.reverse {xs:List V}{us:List Za}(h:Vals xs us):Vals xs.reverse us.reverse:=by
 induction h with
 | nil=>exact .nil
 | cons r t ih=>rw[Zbw,Zbw];exact Vals.append ih (.cons r .nil)
theorem Vals.rep {xs:List V}{us:List Za}(h:Vals xs us):∀k:Nat,Vals (ZJ k xs).flatten (ZJ k us).flatten
 | 0=>.nil
 | k+1=>by
  rw[Za9,Za9,Zbx,Zbx]
  exact Vals.append h (Vals.rep h k)
theorem Jp6 {α:Type}(l:List α):l.eraseIdx (l.length-1)=l.dropLast:=by
 induction l with
 | nil=>rfl
 | cons a r ih =>
  cases r with
  | nil=>rfl
  | cons b r =>
   have e:(a::b::r).length-1=((b::r).length-1)+1:=by
    have h1:(a::b::r).length=r.length+2:=rfl
    have h2:(b::r).length=r.length+1:=rfl
    omega
   rw[e,List.eraseIdx_cons_succ,ih]
   all_goals rfl
theorem Jmh {α:Type}:∀(l:List α)(i:Nat),(l.eraseIdx i).length<=l.length
 | [],_=>Zl _
 | _::_,0=>Zbb _
 | _::r,i+1=>ZcK (Jmh r i)
theorem Jl1 (its:List Za):∀(k:Nat)(acc:List Za),
  List.foldl (λ x1 x2=>x1++x2) acc.toArray (ZJ k its.toArray)=(acc++(ZJ k its).flatten).toArray
 | 0,acc=>by simp
 | k+1,acc=>by
  have e:acc.toArray++its.toArray=(acc++its).toArray:=by simp
  have e2:(acc++its)++(ZJ k its).flatten=acc++(ZJ (k+1) its).flatten:=by
   rw[Za9,Zbx,ZQ]
  rw[<- e2,<-Jl1 its k (acc++its),<-e,Za9,List.foldl_cons]
section
variable {X:Cx}{pins:List (Zd×Obj)}{σ:St}{H:Hp}{s:Zc}{l b:Zd}{xs ys zs:List V}
theorem Inv.lset {its its':List Za}{n:Nat}{f:Array Za->Array Za}{t':Nat}(I:Inv X pins σ H s)(hH:H l=some (.lst xs))
  (e:s.heap.get? l=some { cls:=.type "list",data:=.seq its.toArray n })(hf:f its.toArray=its'.toArray)(hv:Vals ys its')(hz:ys.length<=sizeLine) :
  Inv X pins σ (upd H l (.lst ys)) { s with heap:=s.heap.update l (Zaf f),toks:=t' }:=by
 have q:=PySem.IsL.update e f
 rw[hf] at q
 refine I.write (x:=l) (e:=l) (by rw[hH];exact trivial) (.inl rfl) (λ b' u hb hu=>(Zr s.heap (Zaf f) (ZK hb)).trans hu) ⟨_,q⟩ ?_
 exact⟨hz,its',_,hv,q⟩
theorem Inv.lnew {its:List Za}{t':Nat}(I:Inv X pins σ H s)(hv:Vals ys its)(hz:ys.length<=sizeLine) :
  Inv X pins σ (upd H s.heap.objs.size (.lst ys)) { s with heap:=s.heap.push { cls:=.type "list",data:=.seq its.toArray },toks:=t' } :=
 I.laid (λ _ _ q=>Zg _ q) (Zl _) ⟨hz,its,0,hv,Zw _ rfl⟩
theorem Inv.fresh (I:Inv X pins σ H s):H s.heap.objs.size=none:=I.hok.fresh (Zl _)
theorem Inv.lstM (I:Inv X pins σ H s)(hH:H l=some (.lst xs)):xs.length<=sizeLine/\∃(its:List Za) (n:Nat),Vals xs its/\xs.length=its.length/\s.heap.get? l=some { cls:=.type "list",data:=.seq its.toArray n }:=by
 obtain⟨z,its,n,r,e⟩:=I.hok l _ hH
 exact⟨z,its,n,r,r.length,e⟩
theorem Jo1 {n:Nat}(h:n<=sizeLine):Zb1 n=false:=by
 unfold Zb1
 exact decide_eq_false (by omega)
end
section
variable {X:Cx}
def Jzp:V->List V->Hp->VK->Prop:=λ x vs H Q=>∃l xs y,x=.ref l/\vs=[y]/\H l=some (.lst xs)/\xs.length<sizeLine/\Q .non (upd H l (.lst (xs++[y])))
theorem Jmk:MtM X "list.append" Jzp:=by
 intro pins s σ H x vs v us Q I rx rv h
 obtain⟨l,xs,y,rfl,rfl,hH,hz,q⟩:=h
 cases rx
 obtain⟨u,rfl,ru⟩:=rv.one
 obtain⟨z,its,n,r,hl,e⟩:=I.lstM hH
 refine Zdm F.slot_list_append ⟨_,e,rfl⟩ F.entry_list_append (F.args_list_append_2 _ _) (PySem.list_append l its.toArray n u (by rw[Zq];omega)) ⟨e,?_⟩
 refine⟨.non,_,I.lset (its':=its++[u]) hH e (by simp) (r.append (.cons ru .nil)) ?_,rfl,q⟩
 rw[Zo,Zaa]
 omega
def Jzq:V->List V->Hp->VK->Prop:=λ x vs H Q=>∃l b xs zs,x=.ref l/\vs=[.ref b]/\H l=some (.lst xs)/\H b=some (.lst zs)/\xs.length+zs.length<=sizeLine/\Q .non (upd H l (.lst (xs++zs)))
theorem J13:MtM X "list.extend" Jzq:=by
 intro pins s σ H x vs v us Q I rx rv h
 obtain⟨l,b,xs,zs,rfl,rfl,hH,hB,hz,q⟩:=h
 cases rx
 obtain⟨u,rfl,ru⟩:=rv.one
 cases ru
 obtain⟨z,its,n,r,hl,e⟩:=I.lstM hH
 obtain⟨z2,its2,n2,r2,hl2,e2⟩:=I.lstM hB
 have hsz:its.toArray.size+its2.toArray.size<=sizeLine:=by rw[Zq,Zq];omega
 have hlong:¬(!its.toArray.isEmpty&&Zb1 (its.toArray.size+its2.toArray.size))=true:=by
  rw[Jo1 hsz,Bool.and_false]
  exact Zp
 refine Zdm F.slot_list_extend ⟨_,e,rfl⟩ F.entry_list_extend (F.args_list_extend_2 _ _)
  (AutoSeq1.list_extend_list_list_0 l its.toArray n b its2.toArray n2 hlong (by rw[Zq];omega) (by omega)) ⟨e,e2,?_⟩
 refine⟨.non,_,I.lset (its':=its++its2) hH e (by simp) (r.append r2) ?_,rfl,q⟩
 rw[Zo]
 omega
def rPop:V->List V->Hp->VK->Prop:=λ x vs H Q=>∃l xs y,x=.ref l/\vs=[]/\H l=some (.lst xs)/\xs[xs.length-1]?=some y/\Q y (upd H l (.lst xs.dropLast))
theorem J14:MtM X "list.pop" rPop:=by
 intro pins s σ H x vs v us Q I rx rv h
 obtain⟨l,xs,y,rfl,rfl,hH,hy,q⟩:=h
 cases rx
 have hus:=rv.zero
 subst hus
 obtain⟨z,its,n,r,hl,e⟩:=I.lstM hH
 obtain⟨u,hu,ru⟩:=r.get hy
 have hy':its.toArray[its.toArray.size-1]?=some u:=by
  show its.toArray[its.length-1]?=some u
  rw[<- ZdX,<-hl]
  exact hu
 refine Zdm F.slot_list_pop ⟨_,e,rfl⟩ F.entry_list_pop (F.args_list_pop_1 _) (MeetsSeq.list_pop_last l its.toArray n u hy' (by rw[Zq];omega)) ⟨e,?_⟩
 refine⟨y,_,I.lset (its':=its.dropLast) hH e ?_ r.dropLast ?_,ru,q⟩
 ·show its.toArray.eraseIdxIfInBounds (its.toArray.size-1)=its.dropLast.toArray
  rw[Zq,ZcE,Jp6]
 ·rw[List.length_dropLast]
  omega
def rCat:R2:=λ x y H Q=>∃l b xs zs,x=.ref l/\y=.ref b/\H l=some (.lst xs)/\H b=some (.lst zs)/\xs.length+zs.length<=sizeLine/\∀p,H p=none->Q (.ref p) (upd H p (.lst (xs++zs)))
theorem J19:OpR X (ZaM .Add) rCat:=by
 intro pins s σ H x y v u Q I rx ry h
 obtain⟨l,b,xs,zs,rfl,rfl,hH,hB,hz,q⟩:=h
 cases rx
 cases ry
 obtain⟨z,its,n,r,hl,e⟩:=I.lstM hH
 obtain⟨z2,its2,n2,r2,hl2,e2⟩:=I.lstM hB
 refine PySem.P.add_list e e2 ?_ (by rw[Zq,Zq];omega)
 have ea:its.toArray++its2.toArray=(its++its2).toArray:=by simp
 rw[ea]
 exact⟨.ref _,_,I.lnew (t':=s.toks) (r.append r2) (by rw[Zo];omega),rfl,q _ I.fresh⟩
def rRep:R2:=λ x y H Q=>∃l k xs,x=.ref l/\y=.int k/\H l=some (.lst xs)/\ -(2^63)<=k/\k<2^63/\xs.length*k.toNat<=sizeLine /\
 ∀p,H p=none->Q (.ref p) (upd H p (.lst (ZJ k.toNat xs).flatten))
theorem Jy8 {α:Type}(xs:List α)(k:Nat):(ZJ k xs).flatten.length=k*xs.length:=by
 induction k with
 | zero=>simp
 | succ k ih=>rw[Za9,Zbx,Zo,ih,Nat.succ_mul,Nat.add_comm]
theorem J2c:OpR X (ZaM .Mult) rRep:=by
 intro pins s σ H x y v u Q I rx ry h
 obtain⟨l,k,xs,rfl,rfl,hH,h1,h2,hz,q⟩:=h
 cases rx
 obtain⟨t,rfl⟩:=ry
 obtain⟨z,its,n,r,hl,e⟩:=I.lstM hH
 have hlen:its.toArray.size*k.toNat<=sizeLine:=by rw[Zq,<-hl];exact hz
 have hcap:¬its.toArray.size*k.toNat>(2^63-1)/8:=by
  have:(sizeLine:Nat)<=(2^63-1)/8:=by decide
  omega
 have hfit:¬(!Builtin.List.listFitsIndex k)=true:=by
  rw[fitsIndex_both h1 h2]
  exact Zp
 have hlong:¬Zb1 (its.toArray.size*k.toNat)=true:=by
  rw[Jo1 hlen]
  exact Zp
 have hnew:List.foldl (λ x1 x2=>x1++x2) #[] (ZJ (if its.toArray.isEmpty=true then 0 else k.toNat) its.toArray)=(ZJ k.toNat its).flatten.toArray:=by
  have f0:∀m:Nat,List.foldl (λ x1 x2=>x1++x2) #[] (ZJ m its.toArray)=(ZJ m its).flatten.toArray:=λ m=>by
   have:=Jl1 its m []
   rw[Zac] at this
   exact this
  rw[f0]
  cases its with
  | nil=>simp
  | cons a r'=>rw[if_neg (by simp)]
 refine wpAny_binaryOp_repeat_ref (T:="list") (U:="int") (by decide) ⟨_,e,rfl⟩ (λ s'=>typeIs_int s' k t) noFill_list_mul F.fills_int_mul F.slot_int_rmul repeat_list F.slot_int_index.lookup
  (Zdm F.slot_int_rmul (typeIs_int s k t) F.entry_int_rmul (F.args_int_rmul_2 _ _) (int___rmul___int_list k t l its.toArray n)
   ⟨e,rfl,⟨_,e,rfl⟩,Zdm F.slot_list_mul ⟨_,e,rfl⟩ F.entry_list_mul (F.args_list_mul_2 _ _) (AutoListH.list___mul___list_int_3 l its.toArray n k t hfit hcap hlong) ⟨e,?_⟩⟩)
 rw[hnew]
 exact⟨.ref _,_,I.lnew (t':=s.toks) (r.rep k.toNat) (by rw[Jy8,Nat.mul_comm];exact hz),rfl,q _ I.fresh⟩
end
section
variable {prog:Z5}{w:ZP}{A:ZI}{E:Za->Zc->Prop}{s:Zc}
end
section
variable {X:Cx}
end
section
variable {κ:Type}[DecidableEq κ]
def valV (kvs:List (κ×V))(k:κ):Option V:=(kvs.find? λ kv=>decide (kv.1=k)).map (·.2)
def putK (kvs:List (κ×V))(k:κ)(v:V):List (κ×V) :=
 if (kvs.any λ kv=>decide (kv.1=k))=true then kvs.map (λ kv=>if kv.1=k then(kv.1,v) else kv) else kvs++[(k,v)]
theorem Jkw {p:κ×V}{r:List (κ×V)}{k:κ}(e:p.1=k):valV (p::r) k=some p.2:=by simp[valV,ZbK,e]
theorem Jkv {p:κ×V}{r:List (κ×V)}{k:κ}(e:¬p.1=k):valV (p::r) k=valV r k:=by simp[valV,ZbK,e]
theorem Jku (k:κ):∀kvs:List (κ×V),(kvs.any λ kv=>decide (kv.1=k))=(valV kvs k).isSome
 | []=>rfl
 | p::r=>by
  rw[Zci]
  by_cases e:p.1=k
  ·simp only[Jkw e,decide_eq_true e,Bool.true_or,Option.isSome_some]
  ·rw[Jkv e,decide_eq_false e,Bool.false_or];exact Jku k r
theorem Jny (kvs:List (κ×V))(k:κ)(v:V):(putK kvs k v).length<=kvs.length+1:=by
 unfold putK
 split
 ·rw[Zh];omega
 ·rw[Zo,Z7,Zbc];omega
theorem Jkh {kvs:List (κ×V)}{k:κ}(v:V)(h:valV kvs k=none):putK kvs k v=kvs++[(k,v)]:=by
 unfold putK
 rw[Jku,h]
 exact if_neg (by decide)
theorem RelO.isSome_eq {o:Option V}{u:Option Za}(r:RelO o u):o.isSome=u.isSome:=by
 cases o with
 | none=>cases u with
  | none=>rfl
  | some _=>exact Zf r
 | some _=>cases u with
  | none=>exact Zf r
  | some _=>rfl
theorem KV.val {kvs:List (κ×V)}{vs:List (κ×Za)}(r:KV kvs vs)(k:κ):RelO (valV kvs k) (Ze1 vs k):=by
 unfold KV at r
 induction r with
 | nil=>exact Zaj
 | @cons p q ps qs h t ih =>
  obtain⟨h1,h2⟩:=h
  by_cases e:p.1=k
  ·have e':q.1=k:=h1.symm.trans e
   have b:Ze1 (q::qs) k=some q.2:=by simp[Ze1,ZbK,e']
   rw[Jkw e,b];exact h2
  ·have e':¬q.1=k:=λ z=>e (h1.trans z)
   have b:Ze1 (q::qs) k=Ze1 qs k:=by simp[Ze1,ZbK,e']
   rw[Jkv e,b];exact ih
theorem KV.any {kvs:List (κ×V)}{vs:List (κ×Za)}(r:KV kvs vs)(k:κ):(kvs.any λ kv=>decide (kv.1=k))=vs.any λ kv=>decide (kv.1=k):=by
 unfold KV at r
 induction r with
 | nil=>rfl
 | cons h t ih=>rw[Zci,Zci,ih,h.1]
theorem KV.repl {kvs:List (κ×V)}{vs:List (κ×Za)}(r:KV kvs vs)(k:κ){y:V}{u:Za}(ry:RelV y u) :
  KV (kvs.map λ kv=>if kv.1=k then(kv.1,y) else kv) (vs.map λ kv=>if kv.1=k then(kv.1,u) else kv):=by
 unfold KV at r ⊢
 induction r with
 | nil=>exact .nil
 | @cons p q ps qs h t ih =>
  rw[Z0,Z0]
  refine .cons ?_ ih
  obtain⟨h1,h2⟩:=h
  by_cases e:p.1=k
  ·rw[if_pos e,if_pos (h1.symm.trans e)];exact⟨h1,ry⟩
  ·rw[if_neg e,if_neg (λ z=>e (h1.trans z))];exact⟨h1,h2⟩
theorem KV.put {kvs:List (κ×V)}{vs:List (κ×Za)}(r:KV kvs vs)(k:κ){y:V}{u:Za}(ry:RelV y u):KV (putK kvs k y) (stored vs k u):=by
 unfold putK stored
 rw[r.any k]
 by_cases e:(vs.any λ kv=>decide (kv.1=k))=true
 ·rw[if_pos e,if_pos e];exact r.repl k ry
 ·rw[if_neg e,if_neg e];exact Paired.snoc r ⟨rfl,ry⟩
theorem KV.length {kvs:List (κ×V)}{vs:List (κ×Za)}(r:KV kvs vs):kvs.length=vs.length:=Zep r
end
theorem Juv {P:Z5}{w:ZP}{k:Key}{u:Za}(r:RelV (kV k) u):(Vh P w).is k u=true:=by
 cases k with
 | inl i=>obtain⟨t,e⟩:=(show ∃t,u=ZbM i t from r);subst e;exact Jn1 P w i t
 | inr x=>obtain⟨t,e⟩:=(show ∃t,u=Zek x t from r);subst e;exact Jn2 P w x t
section
variable {P:Z5}{w:ZP}{H:Hp}{h:Zag}{a:Zd}
theorem J4w {u:HO}(ok:HOk P w H h)(e:Rd H a u):JG P w H h a u:=e.ok ok
theorem J3r {kvs:List (Key×V)}(ok:HOk P w H h)(e:Rd H a (.dK kvs)):kvs.length<=sizeLine/\(a==Zcu)=false/\∃vs,KV kvs vs/\h.DictOf (Vh P w) a vs :=
 show JG P w H h a (.dK kvs) from J4w ok e
theorem Jt9 {kvs:List (Key×V)}(ok:HOk P w H h)(e:H a=some (.dK kvs)):kvs.length<=sizeLine/\(a==Zcu)=false/\∃vs,KV kvs vs/\h.DictOf (Vh P w) a vs:=J3r ok (.inl e)
end
section
variable {X:Cx}{pins:List (Zd×Obj)}{σ:St}{H:Hp}{s:Zc}{a:Zd}{y v:V}{u r:Za}{o:Option V}{A:ZI}{E:Za->Zc->Prop}
theorem Inv.big (I:Inv X pins σ H s):Zcu<s.heap.objs.size:=by
 have h:Zx<s.heap.objs.size:=(I.mod.glob.keeps I.bk).lt
 exact Nat.lt_trans (by decide) h
theorem Jro {h':Zag}{t':Nat}{ob:HO}(I:Inv X pins σ H s)(mu:Mut (H a))(hs:Zc4 a s.heap h')(he:∃q,h'.get? a=some q)(new:JG X.prog X.w (upd H a ob) h' a ob) :
  Inv X pins σ (upd H a ob) { s with heap:=h',toks:=t' } :=
 I.write (x:=a) (e:=a) mu (.inl rfl) (λ b q hb z=>(hs.2 b hb).trans z) he new
theorem Jws {P:Z5}{w:ZP}{H':Hp}{h':Zag}{kvs:List (Key×V)}{vs:List (Key×Za)}(z:kvs.length<=sizeLine)(hd:(a==Zcu)=false)(rel:KV kvs vs)(dd:h'.DictOf (Vh P w) a vs) :
  JG P w H' h' a (.dK kvs):=⟨z,hd,vs,rel,dd⟩
end
section
variable {X:Cx}{pins:List (Zd×Obj)}{σ:St}{H:Hp}{s:Zc}{a:Zd}{kvs:List (Key×V)}{k:Key}{u:Za}{A:ZI}{E:Za->Zc->Prop}
end
section
variable {X:Cx}{o i e value:Expr}{pos pos' tpos:Pos}{td ty tv:TE}
end
theorem Jt8 {P:Z5}{w:ZP}{H:Hp}(h:Zag)(hb:Zcu<h.objs.size):JG P w H (h.push { cls:=.type "dict",data:=.dict #[] }) h.objs.size (.dK []) :=
 ⟨ZT _,beq_eq_false_iff_ne.mpr (ZK (Z1 hb)),[],.nil,Heap.DictOf.new h⟩
section
variable {X:Cx}{pos:Pos}
end
structure M1 (X:Cx)(o:Expr)(m:Str)(apos:Pos)(e:Expr)(cpos:Pos):Prop where
 base:ZbN o m X.env (ZaK o X.env)=ZaK o X.env
 few:((ZaT cpos (Z8 [e] X.env)).all (λ x=>!x.1)&&(ZcP cpos (ZbC [] X.env)).all (λ x=>x.1.isSome)
  && decide (([e]:List Expr).length+([]:List Zc8).length+(if ([]:List Zc8).isEmpty then 0 else 1)<30))=true
 line:(apos.endLine==cpos.line)=true
 trees:ZaT cpos (Z8 [e] X.env)=[(false,ZaK e X.env)]
structure M2 (X:Cx)(o:Expr)(m:Str)(apos:Pos)(e f:Expr)(cpos:Pos):Prop where
 base:ZbN o m X.env (ZaK o X.env)=ZaK o X.env
 few:((ZaT cpos (Z8 [e,f] X.env)).all (λ x=>!x.1)&&(ZcP cpos (ZbC [] X.env)).all (λ x=>x.1.isSome)
  && decide (([e,f]:List Expr).length+([]:List Zc8).length+(if ([]:List Zc8).isEmpty then 0 else 1)<30))=true
 line:(apos.endLine==cpos.line)=true
 trees:ZaT cpos (Z8 [e,f] X.env)=[(false,ZaK e X.env),(false,ZaK f X.env)]
section
variable {X:Cx}{pins:List (Zd×Obj)}{σ:St}{H:Hp}{s:Zc}{a:Zd}{y d:V}{u r:Za}{o:Option V}{A:ZI}{E:Za->Zc->Prop}
end
section
variable {X:Cx}{o e f:Expr}{apos cpos:Pos}{td ty tx:TE}
end
section
variable {X:Cx}{pins:List (Zd×Obj)}{σ:St}{H:Hp}{s:Zc}{a:Zd}{kvs:List (Key×V)}{A:ZI}{E:Za->Zc->Prop}
end
end L2
namespace Att
open PySem PySem.W PySem.Calls PyProof.Rows
theorem Jhd {P:Params}{h:Zag}:∀(ns:List Int)(vs:List Za),WellAll P h vs (ns.map WData.int)->Zb4 vs ns:=by
 intro ns
 induction ns with
 | nil =>
  intro vs w
  rw[Zbk] at w
  cases w
  exact .nil
 | cons n ns ih =>
  intro vs w
  rw[Z0] at w
  cases w with
  | cons a b =>
   cases a
   exact .cons _ _ (ih _ b)
theorem Jtb {l:OpenLaw}{n:Nat}(hn:l.most=some n){P:Params}{h:Zag}{args:List WData}{vals:List Za}
  (hpre:l.row.toRowW.claim.pre args=true)(hwl:WellAll P h vals args) :
  ∃a vs ns,vals=[Zdi a]/\args=[WData.list (ns.map WData.int)]/\h.get? a=some { cls:=.type "list",data:=.seq vs.toArray }/\Zb4 vs ns/\ns.length<=n:=by
 have hsh:WShape.hasAll [] args [.list .int]=true:=(pre_splitW hpre).1
 have hc:l.pre.holds [] { args:=args }=true:=(pre_splitW hpre).2
 obtain⟨d,r,rfl,h1,h2⟩:=hasAllW_cons hsh
 obtain rfl:=hasAllW_nil h2
 obtain⟨xs,rfl,h3⟩:=hasW_list h1
 obtain⟨ns,rfl⟩:=items_int h3
 have hlen:ns.length<=n:=by
  unfold OpenLaw.pre at hc
  have h4:(WTm.not (.lt (.lit (.int (n:Int))) (.len (.arg 0)))).holds [] { args:=[.list (ns.map .int)] }=true:=by
   have h4:=(holds_andW hc).1
   rw[hn] at h4
   exact h4
  have h5:=condW_of h4 (w_not (w_lt w_lit (w_len_list (w_arg rfl))))
  rw[Zh] at h5
  refine ZcL λ q=>?_
  have q':(n:Int)<((ns.length:Nat):Int):=by omega
  first
   | (rw[decide_eq_true q'] at h5;exact absurd h5 (by decide))
   | (simp at h5;omega)
 cases hwl with
 | cons w1 w2 =>
  cases w2
  cases w1 with
  | list ho hall=>exact⟨_,_,ns,rfl,rfl,ho,Jhd ns _ hall,hlen⟩
theorem Js2 (l:OpenLaw)(args:List WData):l.row.toRowW.claim.post args (.bool true) args=true :=
 postW_of (r:=l.row.toRowW) (X:=(true==true))
  (show WShape.has [] (.bool true) .bool=true by first|rfl|decide|simp[WShape.has,WShape.arms,WShape.armsAll])
  (show(WTm.eq .res (.lit (.bool true))).value [] { args:=args,res:=some (.bool true),after:=args }=some (.bool (true==true)) from w_eq_bool (w_res rfl) w_lit) rfl
theorem attach_call {l:OpenLaw}{n:Nat}{q:Z5}{loose:List Str}{XP:(Str->Option Za)->Zag->Prop}{YP:ZP->Zag->Prop}{d:DefRec}
  (hn:l.most=some n)(hdf:d.params.defaults=[])
  (call:∀(w:ZP)(s₀ s₁:Zc)(mg mb:Str->Option Za)(fa:Zd)(o:Obj)(pm cd doc:Za)(a:Zd)(vs:List Za)(ns:List Int),
   Ground q loose [] XP w s₀ mg mb s₁.heap->YP w s₁.heap ->
   s₁.heap.get? fa=some o->o.data=.func (docDef d.name d.params d.body d.scope pm cd doc)->s₁.heap.CodeRec cd d.name->mg d.name=some (.ref fa) ->
   s₁.heap.get? a=some { cls:=.type "list",data:=.seq vs.toArray }->Zb4 vs ns->ns.length<=n->s₁.gens=#[] ->
   Zc5 (Z6 l.prog w) Zel (.call (.ref fa) ⟨[.ref a],[]⟩) (λ r s'=>r=.ok (.ret (.bool true))/\OldK s₁.heap s'.heap/\s'.os=s₁.os/\Zdg s'.gens) s₁) :
  WalkO q loose XP YP l.row.toRowW d [] (λ f vs=>PySem.call f vs):=by
 intro w s₀ s₁ mg mb G Y fa o pm cd doc dV kV ho hd hcd hD hmg hg args vals as hpre hlay hrd hwl hlo
 obtain rfl:dV=.none:=Dflts.none hD hdf
 obtain rfl:kV=.none:=Dflts.noKw hD
 obtain⟨a,vs,ns,rfl,rfl,hobj,hints,hlen⟩:=Jtb hn hpre hwl
 refine enter_call (ZcA (call w s₀ s₁ mg mb fa o pm cd doc a vs ns G Y ho (fd_plain hd) hcd hmg hobj hints hlen hg) λ r s' hq=>?_)
 obtain⟨rfl,h2,h3,h4⟩:=hq
 exact⟨.inl ⟨.bool true,.bool true,[],rfl,λ _=>rfl,.bool true,Js2 l _,λ _=>⟨List.Pairwise.nil,λ _ hm=>(nomatch hm)⟩⟩,h2,h3,h4⟩
section
variable {prog:Z5}{w:ZP}{A:ZI}{E:Za->Zc->Prop}{s:Zc}{K:Frag}
end
end Att
namespace L2
open PySem PySem.Spec PyProof.Rows
theorem XN:∀{vs:List Za}{ns:List Int},Zb4 vs ns->Vals (ns.map V.int) vs
 | _,_,.nil=>.nil
 | _,_,.cons n t h=>.cons ⟨t,rfl⟩ (XN h)
noncomputable def JQ (s:ZcY)(j:Nat):ZcY:=match s with
 | .ClassDef _ _ _ body _ _ _ _ _ _ _=>body.getD j (.Pass ⟨0,0,0,0⟩)
 | _=>.Pass ⟨0,0,0,0⟩
def Q7 (s:ZcY):ZbO:=match s with
 | .FunctionDef _ a _ _ _ _ _ _ _ _=>a
 | _=>{ posonlyargs:=[],args:=[],vararg:=none,kwonlyargs:=[],kw_defaults:=[],kwarg:=none,defaults:=[] }
def Qg (s:ZcY):List ZcY:=match s with
 | .FunctionDef _ _ b _ _ _ _ _ _ _=>b
 | _=>[]
def JN (s:ZcY):ZaU:=match s with
 | .FunctionDef _ _ _ _ _ _ sc _ _ _=>sc
 | _=>{ kind:=.function,names:=[],isGenerator:=false,isCoroutine:=false }
structure Fun (K:W.Frag)(x qual:Str)(st:ZcY)(f:Zd)(fd:Zax):Prop where
 ex:∃(oc:Za)(od:Option Zd)(kV doc pm:Za)(an:Option Zd)(cdv ct:Za)(osl:Array (Option Za)),
  fd=W.fnOf x qual (Q7 st) (Qg st) (JN st) .none kV doc pm an cdv ct/\K.lookup f=some ⟨oc,od,.func fd,osl⟩/\W.codeIn K cdv qual=true
 kp:W.keepIn K (.ref f)=true
section
variable {P:Z5}{w:ZP}{K:W.Frag}{mg:Str->Option Za}{base:Zag}
end
section
variable {X:Cx}
end
end L2
set_option maxHeartbeats 4000000
namespace L3
open PySem PySem.Spec PyProof.Rows L2
inductive IV where
 | non|bl (b:Bool)|int (i:Int)|str (x:Str)|tup (xs:List IV)|rol (xs:List IV)|ref (i:Nat)
inductive IO where
 | lst (xs:List IV)
 | ins (c:Str) (fs:List (Str×IV))
 | dct (kvs:List (Key×IV))
 | exc (c:Str) (fs:List (Str×IV))
 | tab (q:Str)
 | hld (c:Str) (fs:List (Str×IV))
abbrev IH:=List IO
abbrev ISt:=List (Option IV)
inductive Res (α:Type) where
 | ok (a:α) (h:IH)|exc (n:Nat) (h:IH)|stuck
noncomputable def Res.bind {α β:Type}:Res α->(α->IH->Res β)->Res β
 | .ok a h,f=>f a h
 | .exc n h,_=>.exc n h
 | .stuck,_=>.stuck
inductive SRes where
 | next (σ:ISt) (h:IH)|ret (v:IV) (h:IH)|brk (σ:ISt) (h:IH)|cont (σ:ISt) (h:IH)|exc (n:Nat) (σ:ISt) (h:IH)|stuck
def SqR (K:W.Frag)(H:Hp)(a:Zd)(xs:List V):Prop :=
 (∃o,H a=some (.frz o (.lst xs))) ∨
  ∃(o:Obj) (its:Array Za) (n:Nat),K.lookup a=some o/\o.cls=.type "list"/\o.dict=none/\o.data=.seq its n/\its.size<=sizeLine/\Vals xs its.toList
theorem SqR.sq {K:W.Frag}{H:Hp}{a:Zd}{xs:List V}(h:SqR K H a xs):SqL K H a xs:=by
 rcases h with⟨o,h⟩|h
 ·exact .inl (.inr ⟨o,h⟩)
 ·exact .inr h
mutual
def RV (K:W.Frag)(ι:List Zd)(H:Hp):IV->V->Prop
 | .non,v=>v=.non
 | .bl b,v=>v=.bl b
 | .int i,v=>v=.int i
 | .str x,v=>v=.str x
 | .tup xs,v=>∃a vs,v=.ref a/\SqT K H a vs/\RVs K ι H xs vs
 | .rol xs,v=>∃a vs,v=.ref a/\SqR K H a vs/\RVs K ι H xs vs
 | .ref i,v=>∃a,v=.ref a/\ι[i]?=some a
def RVs (K:W.Frag)(ι:List Zd)(H:Hp):List IV->List V->Prop
 | [],vs=>vs=[]
 | x::xs,vs=>∃v r,vs=v::r/\RV K ι H x v/\RVs K ι H xs r
end
structure Ext (H H':Hp):Prop where
 tups:∀b xs,H b=some (.tup xs)->H' b=some (.tup xs)
 frzs:∀b o u,H b=some (.frz o u)->H' b=some (.frz o u)
structure Nxt (ι:List Zd)(H:Hp)(ι':List Zd)(H':Hp):Prop where
 pre:∃m,ι'=ι++m
 ext:Ext H H'
theorem Nxt.refl {ι:List Zd}{H:Hp}:Nxt ι H ι H:=⟨⟨[],by simp⟩,⟨λ _ _ h=>h,λ _ _ _ h=>h⟩⟩
theorem Nxt.trans {ι ι1 ι2:List Zd}{H H1 H2:Hp}(a:Nxt ι H ι1 H1)(b:Nxt ι1 H1 ι2 H2):Nxt ι H ι2 H2:=by
 obtain⟨⟨m,e⟩,x⟩:=a
 obtain⟨⟨m',e'⟩,y⟩:=b
 exact⟨⟨m++m',by rw[e',e,ZQ]⟩,⟨λ b xs h=>y.tups b xs (x.tups b xs h),λ b o u h=>y.frzs b o u (x.frzs b o u h)⟩⟩
theorem Nxt.at {ι ι':List Zd}{H H':Hp}(n:Nxt ι H ι' H'){i:Nat}{a:Zd}(h:ι[i]?=some a):ι'[i]?=some a:=by
 obtain⟨⟨m,e⟩,_⟩:=n
 subst e
 rw[Z9 (Zk.mp h).1]
 exact h
theorem Ext.rd {H H':Hp}(x:Ext H H'){a:Zd}{xs:List V}(h:Rd H a (.tup xs)):Rd H' a (.tup xs):=by
 rcases h with h|⟨o,h⟩
 ·exact .inl (x.tups _ _ h)
 ·exact .inr ⟨o,x.frzs _ _ _ h⟩
theorem Ext.sqT {K:W.Frag}{H H':Hp}(x:Ext H H'){a:Zd}{xs:List V}(h:SqT K H a xs):SqT K H' a xs:=by
 rcases h with h|h
 ·exact .inl (x.rd h)
 ·exact .inr h
theorem Ext.sqR {K:W.Frag}{H H':Hp}(x:Ext H H'){a:Zd}{xs:List V}(h:SqR K H a xs):SqR K H' a xs:=by
 rcases h with⟨o,h⟩|h
 ·exact .inl ⟨o,x.frzs _ _ _ h⟩
 ·exact .inr h
mutual
theorem RV.mono {K:W.Frag}{ι ι':List Zd}{H H':Hp}(n:Nxt ι H ι' H'):∀(x:IV)(v:V),RV K ι H x v->RV K ι' H' x v
 | .non,_,h=>h
 | .bl _,_,h=>h
 | .int _,_,h=>h
 | .str _,_,h=>h
 | .tup xs,_,h=>by
  obtain⟨a,vs,e,q,r⟩:=h
  exact⟨a,vs,e,n.ext.sqT q,RVs.mono n xs vs r⟩
 | .rol xs,_,h=>by
  obtain⟨a,vs,e,q,r⟩:=h
  exact⟨a,vs,e,n.ext.sqR q,RVs.mono n xs vs r⟩
 | .ref i,_,h=>by
  obtain⟨a,e,q⟩:=h
  exact⟨a,e,n.at q⟩
theorem RVs.mono {K:W.Frag}{ι ι':List Zd}{H H':Hp}(n:Nxt ι H ι' H'):∀(xs:List IV)(vs:List V),RVs K ι H xs vs->RVs K ι' H' xs vs
 | [],_,h=>h
 | x::xs,_,h=>by
  obtain⟨v,r,e,q,t⟩:=h
  exact⟨v,r,e,RV.mono n x v q,RVs.mono n xs r t⟩
end
theorem RVs.length {K:W.Frag}{ι:List Zd}{H:Hp}:∀{xs:List IV}{vs:List V},RVs K ι H xs vs->vs.length=xs.length
 | [],_,h=>by
  have e:_=[]:=h
  subst e
  rfl
 | x::xs,_,h=>by
  obtain⟨v,r,e,_,t⟩:=h
  subst e
  simp[RVs.length t]
theorem RVs.get {K:W.Frag}{ι:List Zd}{H:Hp}:∀{xs:List IV}{vs:List V}{i:Nat}{x:IV},RVs K ι H xs vs->xs[i]?=some x->∃v,vs[i]?=some v/\RV K ι H x v
 | [],_,_,_,_,e=>by simp at e
 | x::xs,_,0,y,h,e=>by
  obtain⟨v,r,e1,q,t⟩:=h
  subst e1
  simp at e
  subst e
  exact⟨v,rfl,q⟩
 | x::xs,_,i+1,y,h,e=>by
  obtain⟨v,r,e1,q,t⟩:=h
  subst e1
  obtain⟨u,h1,h2⟩:=RVs.get (i:=i) (x:=y) t (by simpa using e)
  exact⟨u,by simpa using h1,h2⟩
theorem RVs.get' {K:W.Frag}{ι:List Zd}{H:Hp}{xs:List IV}{vs:List V}{i:Nat}{v:V}(h:RVs K ι H xs vs)(e:vs[i]?=some v):∃x,xs[i]?=some x/\RV K ι H x v:=by
 have hl:=h.length
 have hi:i<vs.length:=(Zk.mp e).1
 have hx:xs[i]?=some xs[i]:=Zb (by omega)
 obtain⟨u,h1,h2⟩:=h.get hx
 rw[e] at h1
 cases h1
 exact⟨_,hx,h2⟩
theorem RVs.append {K:W.Frag}{ι:List Zd}{H:Hp}:∀{xs ys:List IV}{vs us:List V},RVs K ι H xs vs->RVs K ι H ys us->RVs K ι H (xs++ys) (vs++us)
 | [],_,_,_,h,g=>by
  have e:_=[]:=h
  subst e
  exact g
 | x::xs,_,_,_,h,g=>by
  obtain⟨v,r,e,q,t⟩:=h
  subst e
  exact⟨v,_,rfl,q,RVs.append t g⟩
theorem RVs.take {K:W.Frag}{ι:List Zd}{H:Hp}:∀{xs:List IV}{vs:List V}(n:Nat),RVs K ι H xs vs->RVs K ι H (xs.take n) (vs.take n)
 | _,_,0,_=>by simp;exact rfl
 | [],_,n+1,h=>by
  have e:_=[]:=h
  subst e
  exact rfl
 | x::xs,_,n+1,h=>by
  obtain⟨v,r,e,q,t⟩:=h
  subst e
  exact⟨v,r.take n,rfl,q,RVs.take n t⟩
theorem RVs.drop {K:W.Frag}{ι:List Zd}{H:Hp}:∀{xs:List IV}{vs:List V}(n:Nat),RVs K ι H xs vs->RVs K ι H (xs.drop n) (vs.drop n)
 | _,_,0,h=>h
 | [],_,n+1,h=>by
  have e:_=[]:=h
  subst e
  exact rfl
 | x::xs,_,n+1,h=>by
  obtain⟨v,r,e,q,t⟩:=h
  subst e
  exact RVs.drop n t
theorem RVs.set {K:W.Frag}{ι:List Zd}{H:Hp}{x:IV}{v:V}(q:RV K ι H x v):∀{xs:List IV}{vs:List V}(i:Nat),RVs K ι H xs vs->RVs K ι H (xs.set i x) (vs.set i v)
 | [],_,_,h=>by
  have e:_=[]:=h
  subst e
  exact rfl
 | y::xs,_,0,h=>by
  obtain⟨u,r,e,_,t⟩:=h
  subst e
  exact⟨v,r,rfl,q,t⟩
 | y::xs,_,i+1,h=>by
  obtain⟨u,r,e,p,t⟩:=h
  subst e
  exact⟨u,r.set i v,rfl,p,RVs.set q i t⟩
theorem RVs.one {K:W.Frag}{ι:List Zd}{H:Hp}{x:IV}{v:V}(q:RV K ι H x v):RVs K ι H [x] [v]:=⟨v,[],rfl,q,rfl⟩
theorem RVs.rev {K:W.Frag}{ι:List Zd}{H:Hp}:∀{xs:List IV}{vs:List V},RVs K ι H xs vs->RVs K ι H xs.reverse vs.reverse
 | [],_,h=>by
  have e:_=[]:=h
  subst e
  exact rfl
 | x::xs,_,h=>by
  obtain⟨v,r,e,q,t⟩:=h
  subst e
  rw[Zbw,Zbw]
  exact RVs.append (RVs.rev t) (RVs.one q)
theorem RVs.ints {K:W.Frag}{ι:List Zd}{H:Hp}:∀(ns:List Int),RVs K ι H (ns.map IV.int) (ns.map V.int)
 | []=>rfl
 | _::ns=>⟨_,_,rfl,rfl,RVs.ints ns⟩
def RPs {κ:Type}(K:W.Frag)(ι:List Zd)(H:Hp):List (κ×IV)->List (κ×V)->Prop
 | [],vs=>vs=[]
 | x::xs,vs=>∃v r,vs=(x.1,v)::r/\RV K ι H x.2 v/\RPs K ι H xs r
theorem RPs.mono {κ:Type}{K:W.Frag}{ι ι':List Zd}{H H':Hp}(n:Nxt ι H ι' H'):∀(xs:List (κ×IV))(vs:List (κ×V)),RPs K ι H xs vs->RPs K ι' H' xs vs
 | [],_,h=>h
 | x::xs,_,h=>by
  obtain⟨v,r,e,q,t⟩:=h
  exact⟨v,r,e,RV.mono n _ v q,RPs.mono n xs r t⟩
theorem RPs.length {κ:Type}{K:W.Frag}{ι:List Zd}{H:Hp}:∀{xs:List (κ×IV)}{vs:List (κ×V)},RPs K ι H xs vs->vs.length=xs.length
 | [],_,h=>by
  have e:_=[]:=h
  subst e
  rfl
 | x::xs,_,h=>by
  obtain⟨v,r,e,_,t⟩:=h
  subst e
  simp[RPs.length t]
theorem RPs.lookup {κ:Type}[BEq κ]{K:W.Frag}{ι:List Zd}{H:Hp}{f:κ}:∀{xs:List (κ×IV)}{vs:List (κ×V)},RPs K ι H xs vs ->
  (∀x,xs.lookup f=some x->∃v,vs.lookup f=some v/\RV K ι H x v)/\(xs.lookup f=none->vs.lookup f=none)
 | [],_,h=>by
  have e:_=[]:=h
  subst e
  exact⟨λ x e=>by simp at e,λ _=>rfl⟩
 | (k,x)::xs,_,h=>by
  obtain⟨v,r,e,q,t⟩:=h
  subst e
  have ih:=RPs.lookup (f:=f) t
  simp only[ZX]
  cases hb:f==k with
  | true=>exact⟨λ y e=>by cases e;exact⟨v,rfl,q⟩,λ e=>by cases e⟩
  | false=>exact ih
def QK (H:Hp)(q:Str)(cv:Za):Prop:=∃c oc vs t,cv=.ref c/\H c=some (.frz oc (.own 0))/\oc.data=.fields vs/\vs[1]?=some (.str (q++".<locals>."++"<lambda>") t)
def TabO (K:W.Frag)(H:Hp)(q:Str)(a:Zd):Prop:=(∀cdv,W.codeIn K cdv q=true->∃c,cdv=.ref c/\W.codeHdIn K c a=true) /\
 ∃ps,H a=some (.tbl ps)/\TriplesOk ps.toList/\∀pos cv,Zd8 pos ps.toList=some cv->QK H q cv
theorem TabO.mono {K:W.Frag}{H H':Hp}{q:Str}{a:Zd}(fz:∀b o u,H b=some (.frz o u)->H' b=some (.frz o u))(k:∀u,H a=some u->H' a=some u)(h:TabO K H q a):TabO K H' q a:=by
 obtain⟨h1,ps,e,ht,hc⟩:=h
 refine⟨h1,ps,k _ e,ht,λ pos cv q=>?_⟩
 obtain⟨c,oc,vs,t,e1,e2,r⟩:=hc pos cv q
 exact⟨c,oc,vs,t,e1,fz _ _ _ e2,r⟩
def ExF (a C:Zd)(tv:Za)(d:Option Zd):HO:=.ext λ h=>∃oe vs,h.get? a=some oe/\oe.cls=.ref C/\oe.data=.fields vs/\vs[1]?=some tv/\vs[2]?=some .none/\oe.dict=d
def XdOk (H:Hp)(d:Option Zd)(fs:List (Str×IV)):Prop:=(fs=[]/\d=none)∨∃f i dx od t,fs=[(f,.int i)]/\d=some dx/\H dx=some (.frz od (.own 0))/\W.lookIn f od=some (some (.int i t))
theorem XdOk.mono {H H':Hp}{d:Option Zd}{fs:List (Str×IV)}(fz:∀b o u,H b=some (.frz o u)->H' b=some (.frz o u))(h:XdOk H d fs):XdOk H' d fs:=by
 rcases h with h|⟨f,i,dx,od,t,e,q,r,z⟩
 ·exact .inl h
 ·exact .inr ⟨f,i,dx,od,t,e,q,fz _ _ _ r,z⟩
def TvOk (H:Hp)(tv:Za):Prop:=tv=.none∨∃T oT ts,tv=.ref T/\H T=some (.frz oT (.own 0))/\oT.data=.fields ts/\ts[3]?=some .none
theorem TvOk.mono {H H':Hp}{tv:Za}(fz:∀b o u,H b=some (.frz o u)->H' b=some (.frz o u))(h:TvOk H tv):TvOk H' tv:=by
 rcases h with h|⟨T,oT,ts,e,q,r⟩
 ·exact .inl h
 ·exact .inr ⟨T,oT,ts,e,fz _ _ _ q,r⟩
def RO (ce:Str->Option Zd)(K:W.Frag)(ι:List Zd)(H:Hp)(a:Zd):IO->Prop
 | .lst xs=>∃vs,H a=some (.lst vs)/\RVs K ι H xs vs
 | .ins c fs=>∃C dx vs,ce c=some C/\H a=some (.ins C dx vs)/\RPs K ι H fs vs
 | .dct kvs=>∃vs,H a=some (.dK vs)/\RPs K ι H kvs vs
 | .exc c fs=>∃C tv d,XdOk H d fs/\W.nsIn K Zx c=some (some (.ref C))/\H a=some (ExF a C tv d)/\TvOk H tv
 | .tab q=>TabO K H q a
 | .hld c fs=>∃C oe u vs,XdOk H oe.dict fs/\W.nsIn K Zx c=some (some (.ref C))/\H a=some (.frz oe u)/\oe.cls=.ref C/\oe.data=.fields vs/\vs[2]?=some .none
theorem RO.some {ce:Str->Option Zd}{K:W.Frag}{ι:List Zd}{H:Hp}{a:Zd}{o:IO}(h:RO ce K ι H a o):∃u,H a=some u:=by
 cases o with
 | lst xs=>obtain⟨vs,e,_⟩:=h;exact⟨_,e⟩
 | ins c fs=>obtain⟨_,_,vs,_,e,_⟩:=h;exact⟨_,e⟩
 | dct kvs=>obtain⟨vs,e,_⟩:=h;exact⟨_,e⟩
 | exc c fs=>obtain⟨C,tv,d,_,_,e,_⟩:=h;exact⟨_,e⟩
 | tab q=>obtain⟨_,ps,e,_⟩:=h;exact⟨_,e⟩
 | hld c fs=>obtain⟨_,_,_,_,_,_,e,_⟩:=h;exact⟨_,e⟩
theorem RO.mono {ce:Str->Option Zd}{K:W.Frag}{ι ι':List Zd}{H H':Hp}{a:Zd}{o:IO}(n:Nxt ι H ι' H')(k:∀u,H a=Zby u->H' a=Zby u)(h:RO ce K ι H a o):RO ce K ι' H' a o:=by
 cases o with
 | lst xs=>obtain⟨vs,e,r⟩:=h;exact⟨vs,k _ e,RVs.mono n _ _ r⟩
 | ins c fs=>obtain⟨C,dx,vs,c1,e,r⟩:=h;exact⟨C,dx,vs,c1,k _ e,RPs.mono n _ _ r⟩
 | dct kvs=>obtain⟨vs,e,r⟩:=h;exact⟨vs,k _ e,RPs.mono n _ _ r⟩
 | exc c fs=>obtain⟨C,tv,d,e0,c1,e,r⟩:=h;exact⟨C,tv,d,e0.mono n.ext.frzs,c1,k _ e,r.mono n.ext.frzs⟩
 | tab q=>exact TabO.mono n.ext.frzs k h
 | hld c fs=>obtain⟨C,oe,u,vs,e0,c1,e,r⟩:=h;exact⟨C,oe,u,vs,e0.mono n.ext.frzs,c1,k _ e,r⟩
structure Rel (ce:Str->Option Zd)(K:W.Frag)(ι:List Zd)(h:IH)(H:Hp):Prop where
 len:ι.length=h.length
 nd:ι.Nodup
 at_:∀(i:Nat)(o:IO),h[i]?=some o->∃a,ι[i]?=some a/\RO ce K ι H a o
section
variable {ce:Str->Option Zd}{K:W.Frag}{ι:List Zd}{h:IH}{H:Hp}
theorem Rel.some (R:Rel ce K ι h H){i:Nat}{a:Zd}(e:ι[i]?=some a):∃u,H a=Zby u:=by
 have hi:i<h.length:=by rw[<- R.len];exact(Zk.mp e).1
 obtain⟨b,e',r⟩:=R.at_ i _ (Zb hi)
 rw[e] at e'
 cases e'
 exact r.some
theorem Rel.notin (R:Rel ce K ι h H){l:Zd}(e:H l=none):l∉ι:=λ hl=>by
 obtain⟨i,hi,q⟩:=Zau.mp hl
 obtain⟨u,hu⟩:=R.some (i:=i) (a:=l) (by rw[Zb hi,q])
 rw[e] at hu
 cases hu
theorem Ext.upd_new {l:Zd}{o:HO}(e:H l=none):Ext H (upd H l o) :=
 ⟨λ b xs q=>by rw[Jp (Vi q e)];exact q,λ b o u q=>by rw[Jp (Vi q e)];exact q⟩
theorem Rel.grow {l:Zd}{o:HO}(R:Rel ce K ι h H)(e:H l=none):Rel ce K ι h (upd H l o)/\Nxt ι H ι (upd H l o):=by
 have n:Nxt ι H ι (upd H l o):=⟨⟨[],by simp⟩,Ext.upd_new e⟩
 refine⟨⟨R.len,R.nd,λ i u q=>?_⟩,n⟩
 obtain⟨a,e1,r⟩:=R.at_ i u q
 exact⟨a,e1,r.mono n λ w hw=>by rw[Jp (Vi hw e)];exact hw⟩
theorem Rel.alloc {l:Zd}{o:HO}{io:IO}(R:Rel ce K ι h H)(e:H l=none)(r:RO ce K (ι++[l]) (upd H l o) l io):Rel ce K (ι++[l]) (h++[io]) (upd H l o)/\Nxt ι H (ι++[l]) (upd H l o):=by
 have n:Nxt ι H (ι++[l]) (upd H l o):=⟨⟨[l],rfl⟩,Ext.upd_new e⟩
 refine⟨⟨by simp[R.len],?_,λ i u q=>?_⟩,n⟩
 ·rw[List.nodup_append]
  refine⟨R.nd,by simp,λ a ha b hb=>?_⟩
  have:b=l:=by simpa using hb
  subst this
  rintro rfl
  exact R.notin e ha
 ·by_cases hi:i<h.length
  ·rw[Z9 hi] at q
   obtain⟨a,e1,r1⟩:=R.at_ i u q
   exact⟨a,n.at e1,r1.mono n λ w hw=>by rw[Jp (Vi hw e)];exact hw⟩
  ·have hi2:i=h.length:=by
    have:=(Zk.mp q).1
    simp at this
    omega
   subst hi2
   rw[Z2 (Zl _)] at q
   simp at q
   subst q
   refine⟨l,?_,r⟩
   rw[<- R.len,Z2 (Zl _)]
   simp
theorem Rel.inj (R:Rel ce K ι h H){i j:Nat}{a:Zd}(e1:ι[i]?=Zby a)(e2:ι[j]?=Zby a):i=j:=by
 obtain⟨h1,q1⟩:=Zk.mp e1
 obtain⟨h2,q2⟩:=Zk.mp e2
 exact(ZcI R.nd).mp (q1.trans q2.symm)
theorem Ext.upd_mut {l:Zd}{o u:HO}(e:H l=Zby u)(m:Mut (H l)):Ext H (upd H l o):=by
 refine⟨λ b xs q=>?_,λ b ob w q=>?_⟩
 ·by_cases hb:b=l
  ·subst hb
   rw[q] at m
   exact Zf m
  ·rw[Jp hb];exact q
 ·by_cases hb:b=l
  ·subst hb
   rw[q] at m
   exact Zf m
  ·rw[Jp hb];exact q
theorem Rel.write {i:Nat}{a:Zd}{o u:HO}{io:IO}(R:Rel ce K ι h H)(e:ι[i]?=Zby a)(ha:H a=Zby u)(m:Mut (H a))(r:RO ce K ι (upd H a o) a io):Rel ce K ι (h.set i io) (upd H a o)/\Nxt ι H ι (upd H a o):=by
 have n:Nxt ι H ι (upd H a o):=⟨⟨[],by simp⟩,Ext.upd_mut ha m⟩
 refine⟨⟨by simp[R.len],R.nd,λ j w q=>?_⟩,n⟩
 by_cases hj:j=i
 ·subst hj
  have hl:j<h.length:=by
   have:=(Zk.mp q).1
   simpa using this
  rw[ZG hl] at q
  cases q
  exact⟨a,e,r⟩
 ·rw[ZC (ZK hj)] at q
  obtain⟨b,e1,r1⟩:=R.at_ j w q
  refine⟨b,e1,r1.mono n λ v hv=>?_⟩
  have:b≠a:=by
   rintro rfl
   exact hj (R.inj e1 e)
  rw[Jp this]
  exact hv
end
structure RSt (K:W.Frag)(ι:List Zd)(H:Hp)(σi:ISt)(σ:L2.St):Prop where
 len:σi.length=σ.length
 at_:∀(j:Nat)(v:IV),σi[j]?=some (some v)->∃u,σ[j]?=some (some u)/\RV K ι H v u
theorem RSt.mono {K:W.Frag}{ι ι':List Zd}{H H':Hp}{σi:ISt}{σ:L2.St}(n:Nxt ι H ι' H')(r:RSt K ι H σi σ):RSt K ι' H' σi σ :=
 ⟨r.len,λ j v e=>let ⟨u,e1,q⟩:=r.at_ j v e;⟨u,e1,RV.mono n _ _ q⟩⟩
theorem RSt.set {K:W.Frag}{ι:List Zd}{H:Hp}{σi:ISt}{σ:L2.St}(r:RSt K ι H σi σ)(i:Nat){x:IV}{v:V}(q:RV K ι H x v):RSt K ι H (σi.set i (some x)) (σ.set i (some v)):=by
 refine⟨by simp[r.len],λ j w e=>?_⟩
 by_cases hj:j=i
 ·subst hj
  have hl:j<σi.length:=by
   have:=(Zk.mp e).1
   simpa using this
  rw[ZG hl] at e
  cases e
  exact⟨v,by rw[ZG (by rw[<- r.len];exact hl)],q⟩
 ·rw[ZC (ZK hj)] at e
  obtain⟨u,e1,q1⟩:=r.at_ j w e
  exact⟨u,by rw[ZC (ZK hj)];exact e1,q1⟩
structure Now (ce:Str->Option Zd)(X:Cx)(pins:List (Zd×Obj))(ι:List Zd)(σi:ISt)(h:IH)(σ:L2.St)(H:Hp)(s:Zc):Prop where
 inv:Inv X pins σ H s
 rel:Rel ce X.K ι h H
 st:RSt X.K ι H σi σ
def RU (K:W.Frag)(ι:List Zd)(H:Hp)(v:IV)(u:Za):Prop:=∃x,RelV x u/\RV K ι H v x
theorem RU.mono {K:W.Frag}{ι ι':List Zd}{H H':Hp}{v:IV}{u:Za}(n:Nxt ι H ι' H')(r:RU K ι H v u):RU K ι' H' v u :=
 let ⟨x,a,b⟩:=r;⟨x,a,RV.mono n _ _ b⟩
def RUs (K:W.Frag)(ι:List Zd)(H:Hp)(vs:List IV)(us:List Za):Prop:=∃xs,Vals xs us/\RVs K ι H vs xs
theorem RUs.mono {K:W.Frag}{ι ι':List Zd}{H H':Hp}{v:List IV}{u:List Za}(n:Nxt ι H ι' H')(r:RUs K ι H v u):RUs K ι' H' v u :=
 let ⟨x,a,b⟩:=r;⟨x,a,RVs.mono n _ _ b⟩
abbrev REL (α β:Type):=W.Frag->List Zd->Hp->α->β->Prop
def RB:REL Bool Bool:=λ _ _ _ b c=>c=b
section
variable {α β γ δ:Type}
def Kont (ce:Str->Option Zd)(X:Cx)(R:REL α β)(pins:List (Zd×Obj))(ι:List Zd)(σi:ISt)(σ:L2.St)(H:Hp)(r:Res α)(Q:β->Zc->Prop)(E:Za->Zc->Prop):Prop :=
 match r with
 | .ok v h'=>∀u s' H' ι',Now ce X pins ι' σi h' σ H' s'->Nxt ι H ι' H'->R X.K ι' H' v u->Q u s'
 | .exc n h'=>∀pl a s' H' ι',Now ce X (pins++pl) ι' σi h' σ H' s'->Nxt ι H ι' H'->ι'[n]?=some a->E (.ref a) s'
 | .stuck=>False
variable {ce:Str->Option Zd}{X:Cx}{R:REL α β}{R':REL γ δ}{pins:List (Zd×Obj)}{ι ι':List Zd}{σi:ISt}{σ:L2.St}{H H':Hp}
theorem Kont.mono {r:Res α}{Q:β->Zc->Prop}{E:Za->Zc->Prop}(k:Kont ce X R pins ι σi σ H r Q E)(n:Nxt ι H ι' H'):Kont ce X R pins ι' σi σ H' r Q E:=by
 cases r with
 | ok v h'=>exact λ u s' H2 ι2 N n2 q=>k u s' H2 ι2 N (n.trans n2) q
 | exc m h'=>exact λ pl a s' H2 ι2 N n2 q=>k pl a s' H2 ι2 N (n.trans n2) q
 | stuck=>exact k
def PX (ce:Str->Option Zd)(X:Cx)(R:REL α β)(t:Sem β)(m:ISt->IH->Res α):Prop :=
 ∀(pins:List (Zd×Obj))(s:Zc)(σ:L2.St)(H:Hp)(ι:List Zd)(σi:ISt)(h:IH)(Q:β->Zc->Prop)(E:Za->Zc->Prop),Now ce X pins ι σi h σ H s->Kont ce X R pins ι σi σ H (m σi h) Q E ->
  Zs (Z6 X.prog X.w) X.A t Q E s
theorem PX.run {t:Sem β}{m:ISt->IH->Res α}(p:PX ce X R t m){s:Zc}{h:IH}(N:Now ce X pins ι σi h σ H s){g:α->IH->Res γ}{Q:δ->Zc->Prop}{E:Za->Zc->Prop}{Q1:β->Zc->Prop}
  (K:Kont ce X R' pins ι σi σ H ((m σi h).bind g) Q E)
  (step:∀x h1 u s1 H1 ι1,Now ce X pins ι1 σi h1 σ H1 s1->Nxt ι H ι1 H1->R X.K ι1 H1 x u->Kont ce X R' pins ι1 σi σ H1 (g x h1) Q E->Q1 u s1):Zs (Z6 X.prog X.w) X.A t Q1 E s:=by
 refine p pins s σ H ι σi h Q1 E N ?_
 cases e:m σi h with
 | ok v h' =>
  rw[e] at K
  exact λ u s' H' ι' N' n' r=>step v h' u s' H' ι' N' n' r (Kont.mono (r:=g v h') K n')
 | exc n h' =>
  rw[e] at K
  exact K
 | stuck =>
  rw[e] at K
  exact K
end
abbrev PEi (ce:Str->Option Zd)(X:Cx)(e:Expr)(m:ISt->IH->Res IV):Prop:=PX ce X RU (ZaK e X.env) m
abbrev PTi (ce:Str->Option Zd)(X:Cx)(e:Expr)(m:ISt->IH->Res Bool):Prop:=PX ce X RB (isTrue e X.env (ZaK e X.env)) m
def PWi (ce:Str->Option Zd)(X:Cx)(e:Expr)(m:ISt->IH->Res Bool):Prop:=∀whole:Sem Za,PX ce X RB (isTrue e X.env whole) m
def PAi (ce:Str->Option Zd)(X:Cx)(es:List Expr)(m:ISt->IH->Res (List IV)):Prop:=∀pos:Pos,PX ce X RUs (spliced (ZaT pos (Z8 es X.env))) m
abbrev E1:=ISt->IH->Res IV
abbrev T1:=ISt->IH->Res Bool
abbrev A1:=ISt->IH->Res (List IV)
noncomputable def Ja (i:Nat):E1:=λ σ h=>match σ[i]? with|some (some v)=>.ok v h|_=>.stuck
noncomputable def eC (v:IV):E1:=λ _ h=>.ok v h
def Jc (f:IV->IV->IH->Res IV)(a b:E1):E1:=λ σ h=>(a σ h).bind λ x h1=>(b σ h1).bind λ y h2=>f x y h2
def eUn (f:IV->IH->Res IV)(a:E1):E1:=λ σ h=>(a σ h).bind λ x h1=>f x h1
def eAnd (a b:E1)(tr:IV->IH->Res Bool):E1:=λ σ h=>(a σ h).bind λ x h1=>(tr x h1).bind λ c h2=>if c then b σ h2 else .ok x h2
def eOr (a b:E1)(tr:IV->IH->Res Bool):E1:=λ σ h=>(a σ h).bind λ x h1=>(tr x h1).bind λ c h2=>if c then .ok x h2 else b σ h2
def eIf (t:T1)(a b:E1):E1:=λ σ h=>(t σ h).bind λ c h1=>if c then a σ h1 else b σ h1
def Qq (a b:T1):T1:=λ σ h=>(a σ h).bind λ c h1=>if c then b σ h1 else .ok false h1
def tOrI (a b:T1):T1:=λ σ h=>(a σ h).bind λ c h1=>if c then .ok true h1 else b σ h1
def JC (a:T1):T1:=λ σ h=>(a σ h).bind λ c h1=>.ok (!c) h1
def Jg (tr:IV->IH->Res Bool)(a:E1):T1:=λ σ h=>(a σ h).bind λ x h1=>tr x h1
noncomputable def Jd:A1:=λ _ h=>.ok [] h
def Jb (a:E1)(r:A1):A1:=λ σ h=>(a σ h).bind λ x h1=>(r σ h1).bind λ xs h2=>.ok (x::xs) h2
def JR (f g:IV->IV->IH->Res IV)(a b c:E1):E1:=λ σ h=>(a σ h).bind λ x h1=>(b σ h1).bind λ y h2=>(f x y h2).bind λ k h3 =>
 match k with
 | .bl true=>(c σ h3).bind λ z h4=>g y z h4
 | .bl false=>.ok (.bl false) h3
 | _=>.stuck
section
variable {ce:Str->Option Zd}{X:Cx}{a b c:Expr}{ma mb mc:E1}{pos:Pos}
def OpI (ce:Str->Option Zd)(X:Cx)(f:Za->Za->Sem Za)(g:IV->IV->IH->Res IV):Prop :=
 ∀(pins:List (Zd×Obj))(s:Zc)(σ:L2.St)(H:Hp)(ι:List Zd)(σi:ISt)(h:IH)(x y:IV)(v u:Za)(Q:Za->Zc->Prop)(E:Za->Zc->Prop),Now ce X pins ι σi h σ H s->RU X.K ι H x v->RU X.K ι H y u ->
  Kont ce X RU pins ι σi σ H (g x y h) Q E->Zs (Z6 X.prog X.w) X.A (f v u) Q E s
def UnI (ce:Str->Option Zd)(X:Cx)(f:Za->Sem Za)(g:IV->IH->Res IV):Prop :=
 ∀(pins:List (Zd×Obj))(s:Zc)(σ:L2.St)(H:Hp)(ι:List Zd)(σi:ISt)(h:IH)(x:IV)(v:Za)(Q:Za->Zc->Prop)(E:Za->Zc->Prop),Now ce X pins ι σi h σ H s->RU X.K ι H x v ->
  Kont ce X RU pins ι σi σ H (g x h) Q E->Zs (Z6 X.prog X.w) X.A (f v) Q E s
def TrI (ce:Str->Option Zd)(X:Cx)(g:IV->IH->Res Bool):Prop :=
 ∀(pins:List (Zd×Obj))(s:Zc)(σ:L2.St)(H:Hp)(ι:List Zd)(σi:ISt)(h:IH)(x:IV)(v:Za)(Q:Bool->Zc->Prop)(E:Za->Zc->Prop),Now ce X pins ι σi h σ H s->RU X.K ι H x v ->
  Kont ce X RB pins ι σi σ H (g x h) Q E->Zs (Z6 X.prog X.w) X.A (truthy v) Q E s
def Qu (ce:Str->Option Zd)(X:Cx)(f:Za)(g:List IV->IH->Res IV):Prop :=
 ∀(pins:List (Zd×Obj))(s:Zc)(σ:L2.St)(H:Hp)(ι:List Zd)(σi:ISt)(h:IH)(xs:List IV)(us:List Za)(Q:Za->Zc->Prop)(E:Za->Zc->Prop),Now ce X pins ι σi h σ H s->RUs X.K ι H xs us ->
  Kont ce X RU pins ι σi σ H (g xs h) Q E->Zs (Z6 X.prog X.w) X.A (call f us) Q E s
theorem XM {pins:List (Zd×Obj)}{s:Zc}{σ:L2.St}{H:Hp}{Q:Za->Zc->Prop}{E:Za->Zc->Prop}{e:Expr}{t:TE}(p:PE (X.wish E) e t)(I:Inv X pins σ H s)
  (k:t σ H λ z H'=>∀u s',Inv X pins σ H' s'->RelV z u->Q u s'):Zs (Z6 X.prog X.w) X.A (ZaK e X.env) Q E s :=
 Zae (p pins s σ H _ (I.wish E) k) (λ u s' ⟨_,_,I',r,q⟩=>q u s' I'.unwish r) λ _ _ z=>z
theorem JW {pins:List (Zd×Obj)}{s:Zc}{σ:L2.St}{H:Hp}{Q:Za->Zc->Prop}{E:Za->Zc->Prop}{f:Za->Za->Sem Za}{r:R2}{x y:V}{v u:Za}(p:OpR (X.wish E) f r)(I:Inv X pins σ H s)(rx:RelV x v)(ry:RelV y u)
  (k:r x y H λ z H'=>∀u s',Inv X pins σ H' s'->RelV z u->Q u s'):Zs (Z6 X.prog X.w) X.A (f v u) Q E s :=
 Zae (p pins s σ H x y v u _ (I.wish E) rx ry k) (λ u s' ⟨_,_,I',r,q⟩=>q u s' I'.unwish r) λ _ _ z=>z
theorem J3a {pins:List (Zd×Obj)}{s:Zc}{σ:L2.St}{H:Hp}{Q:Za->Zc->Prop}{E:Za->Zc->Prop}{f:Za->Sem Za}{r:V->Hp->VK->Prop}{x:V}{v:Za}(p:UnR (X.wish E) f r)(I:Inv X pins σ H s)(rx:RelV x v)
  (k:r x H λ z H'=>∀u s',Inv X pins σ H' s'->RelV z u->Q u s'):Zs (Z6 X.prog X.w) X.A (f v) Q E s :=
 Zae (p pins s σ H x v _ (I.wish E) rx k) (λ u s' ⟨_,_,I',r,q⟩=>q u s' I'.unwish r) λ _ _ z=>z
theorem VL {pins:List (Zd×Obj)}{s:Zc}{σ:L2.St}{H:Hp}{Q:Bool->Zc->Prop}{E:Za->Zc->Prop}{r:V->Hp->(Bool->Hp->Prop)->Prop}{x:V}{v:Za}(p:TruR (X.wish E) r)(I:Inv X pins σ H s)(rx:RelV x v)
  (k:r x H λ z H'=>∀s',Inv X pins σ H' s'->Q z s'):Zs (Z6 X.prog X.w) X.A (truthy v) Q E s :=
 Zae (p pins s σ H x v _ (I.wish E) rx k) (λ _ s' ⟨_,I',q⟩=>q s' I'.unwish) λ _ _ z=>z
theorem QT {pins:List (Zd×Obj)}{s:Zc}{σ:L2.St}{H:Hp}{Q:Za->Zc->Prop}{E:Za->Zc->Prop}{f:Za}{r:List V->Hp->VK->Prop}{xs:List V}{us:List Za}(p:Xm (X.wish E) f r)(I:Inv X pins σ H s)(rx:Vals xs us)
  (k:r xs H λ z H'=>∀u s',Inv X pins σ H' s'->RelV z u->Q u s'):Zs (Z6 X.prog X.w) X.A (call f us) Q E s :=
 Zae (p pins s σ H xs us _ (I.wish E) rx k) (λ u s' ⟨_,_,I',r,q⟩=>q u s' I'.unwish r) λ _ _ z=>z
theorem J4a (i:Nat){x:Str}{pos:Pos}(hN:X.N[i]?=some x:=by rfl)(hv:Vis X.env.scope x:=by assumption)(hd:(x==("__debug__":Str))=false:=by decide)
  (hcd:(x==("__classdict__":Str))=false:=by decide):PEi ce X (.Name x pos) (Ja i):=by
 intro pins s σ H ι σi h Q E N K
 unfold Ja at K
 cases e:σi[i]? with
 | none =>
  rw[e] at K
  exact Zf K
 | some o =>
  cases o with
  | none =>
   rw[e] at K
   exact Zf K
  | some v =>
   rw[e] at K
   obtain⟨u,e1,q⟩:=N.st.at_ i v e
   exact XM (J2j (X:=X.wish E) hN hv hd hcd) N.inv ⟨u,e1,λ u' s' I' r'=>K u' s' H ι ⟨I',N.rel,N.st⟩ .refl ⟨u,r',q⟩⟩
theorem J34 {i j pos}:PEi ce X (.Constant (.int i) j pos) (eC (.int i)):=λ _ _ _ H ι _ _ _ E N K=>XM (J2g (X:=X.wish E)) N.inv λ u' s' I' r'=>K u' s' H ι ⟨I',N.rel,N.st⟩ .refl ⟨_,r',rfl⟩
theorem i_bl {i j pos}:PEi ce X (.Constant (.bool i) j pos) (eC (.bl i)):=λ _ _ _ H ι _ _ _ E N K=>XM (J4r (X:=X.wish E)) N.inv λ u' s' I' r'=>K u' s' H ι ⟨I',N.rel,N.st⟩ .refl ⟨_,r',rfl⟩
theorem J37 {j pos}:PEi ce X (.Constant .none j pos) (eC .non):=λ _ _ _ H ι _ _ _ E N K=>XM (J2h (X:=X.wish E)) N.inv λ u' s' I' r'=>K u' s' H ι ⟨I',N.rel,N.st⟩ .refl ⟨_,r',rfl⟩
theorem J38 {i j pos}:PEi ce X (.Constant (.str i) j pos) (eC (.str i)):=λ _ _ _ H ι _ _ _ E N K=>XM (J2i (X:=X.wish E)) N.inv λ u' s' I' r'=>K u' s' H ι ⟨I',N.rel,N.st⟩ .refl ⟨_,r',rfl⟩
theorem J1b {x:Str}{v:V}{iv:IV}{u:Za}{pos:Pos}(hg:Gl X x)(hm:X.mg x=some u)(r:RelV v u)(q:∀ι H,RV X.K ι H iv v)(hd:(x==("__debug__":Str))=false:=by decide):PEi ce X (.Name x pos) (eC iv) :=
 λ _ _ _ H ι _ _ _ E N K=>XM (Jzm (X:=X.wish E) hg hm r hd) N.inv λ u' s' I' r'=>K u' s' H ι ⟨I',N.rel,N.st⟩ .refl ⟨_,r',q _ _⟩
theorem J30 {op:Zcm}{f:IV->IV->IH->Res IV}(ho:OpI ce X (ZaM op) f)(ha:PEi ce X a ma)(hb:PEi ce X b mb):PEi ce X (.BinOp a op b pos) (Jc f ma mb) :=
 λ pins s σ H ι σi h Q E N K=>wpAny_BinOp (ha.run N K λ x h1 u s1 H1 ι1 N1 n1 r1 K1=>hb.run N1 K1 λ y h2 w s2 H2 ι2 N2 n2 r2 K2=>ho pins s2 σ H2 ι2 σi h2 x y u w Q E N2 (r1.mono n2) r2 K2)
theorem i_un {op:UnaryOp}{f:IV->IH->Res IV}(ho:UnI ce X (unaryOp op) f)(ha:PEi ce X a ma):PEi ce X (.UnaryOp op a pos) (eUn f ma) :=
 λ pins s σ H ι σi h Q E N K=>UnaryOp_ (ha.run N K λ x h1 u s1 H1 ι1 N1 n1 r1 K1=>ho pins s1 σ H1 ι1 σi h1 x u Q E N1 r1 K1)
theorem J32 {op:CmpOp}{f:IV->IV->IH->Res IV}(ho:OpI ce X (Zas op) f)(ha:PEi ce X a ma)(hb:PEi ce X b mb)(hm:Zcj op b=false:=by assumption):PEi ce X (.Compare a [op] [b] pos) (Jc f ma mb) :=
 λ pins s σ H ι σi h Q E N K=>wpAny_Compare1 (ha.run N K λ x h1 u s1 H1 ι1 N1 n1 r1 K1=>hb.run N1 K1 λ y h2 w s2 H2 ι2 N2 n2 r2 K2=>ho pins s2 σ H2 ι2 σi h2 x y u w Q E N2 (r1.mono n2) r2 K2) hm
noncomputable def asB:IV->IH->Res Bool
 | .bl b,h=>.ok b h
 | _,_=>.stuck
theorem Kont.asB {pins:List (Zd×Obj)}{σ:L2.St}{H:Hp}{ι:List Zd}{σi:ISt}{r:Res IV}{Q:Bool->Zc->Prop}{E:Za->Zc->Prop}(K:Kont ce X RB pins ι σi σ H (r.bind asB) Q E) :
  Kont ce X RU pins ι σi σ H r (λ v s=>Zs (Z6 X.prog X.w) X.A (truthy v) Q E s) E:=by
 cases r with
 | exc n h=>exact K
 | stuck=>exact K
 | ok v h =>
  intro u s' H' ι' N n q
  obtain⟨x,rx,q⟩:=q
  cases v with
  | bl b =>
   have e:x=.bl b:=q
   subst e
   cases rx
   exact ZaV (K b s' H' ι' N n rfl)
  | _=>exact Zf K
theorem Res.bind_bind {α β γ:Type}(r:Res α)(f:α->IH->Res β)(g:β->IH->Res γ):(r.bind f).bind g=r.bind λ x h=>(f x h).bind g:=by
 cases r<;>rfl
theorem J45 {op:CmpOp}{f:IV->IV->IH->Res IV}(ho:OpI ce X (Zas op) f)(ha:PEi ce X a ma)(hb:PEi ce X b mb)(hm:Zcj op b=false:=by assumption):PTi ce X (.Compare a [op] [b] pos) (Jg asB (Jc f ma mb)) :=
 λ pins s σ H ι σi h Q E N K=>by
  have K':Kont ce X RB pins ι σi σ H ((ma σi h).bind λ x h1=>(mb σi h1).bind λ y h2=>(f x y h2).bind asB) Q E:=by
   unfold Jg Jc at K
   rw[Res.bind_bind] at K
   simp only[Res.bind_bind] at K
   exact K
  exact wpAny_isTrue_Compare1 (ha.run N K' λ x h1 u s1 H1 ι1 N1 n1 r1 K1=>hb.run N1 K1 λ y h2 w s2 H2 ι2 N2 n2 r2 K2=>ho pins s2 σ H2 ι2 σi h2 x y u w _ E N2 (r1.mono n2) r2 (Kont.asB K2)) hm
theorem J25 {tr:IV->IH->Res Bool}(ht:TrI ce X tr)(ha:PEi ce X a ma)(he:∀whole,isTrue a X.env whole=(do let v<-whole;Ze2 a.pos;ZbQ [v] (truthy v)):=by intro _;rfl):PTi ce X a (Jg tr ma) :=
 λ pins s σ H ι σi h Q E N K=>isTrue_plain (ha.run N K λ x h1 u s1 H1 ι1 N1 n1 r1 K1=>ht pins s1 σ H1 ι1 σi h1 x u Q E N1 r1 K1) (he _)
variable {rest:List Expr}{ta tb:T1}
theorem J0a (ha:PTi ce X a ta):PWi ce X (.BoolOp .And [a] pos) ta:=λ wh pins s σ H ι σi h Q E N K=>by
 refine isTrue_and (ha pins s σ H ι σi h _ E N ?_)
 cases e:ta σi h with
 | ok v h' =>
  rw[e] at K
  intro u s' H' ι' N' n' r
  have r':u=v:=r
  subst r'
  cases u with
  | true=>exact isTrue_and_nil (K true s' H' ι' N' n' rfl)
  | false=>exact K false s' H' ι' N' n' rfl
 | exc n h'=>rw[e] at K;exact K
 | stuck=>rw[e] at K;exact K
theorem J28 (ha:PTi ce X a ta):PWi ce X (.BoolOp .Or [a] pos) ta:=λ wh pins s σ H ι σi h Q E N K=>by
 refine isTrue_or (ha pins s σ H ι σi h _ E N ?_)
 cases e:ta σi h with
 | ok v h' =>
  rw[e] at K
  intro u s' H' ι' N' n' r
  have r':u=v:=r
  subst r'
  cases u with
  | false=>exact isTrue_or_nil (K false s' H' ι' N' n' rfl)
  | true=>exact K true s' H' ι' N' n' rfl
 | exc n h'=>rw[e] at K;exact K
 | stuck=>rw[e] at K;exact K
theorem J27 (ha:PTi ce X a ta)(hb:PWi ce X (.BoolOp .And (b::rest) pos) tb):PWi ce X (.BoolOp .And (a::b::rest) pos) (Qq ta tb):=λ wh pins s σ H ι σi h Q E N K =>
 isTrue_and (ha.run N K λ c h1 u s1 H1 ι1 N1 n1 r1 K1=>by
  have r':u=c:=r1
  subst r'
  cases u with
  | true=>exact hb wh pins s1 σ H1 ι1 σi h1 Q E N1 K1
  | false=>exact K1 false s1 H1 ι1 N1 .refl rfl)
theorem J49 (ha:PTi ce X a ta)(hb:PWi ce X (.BoolOp .Or (b::rest) pos) tb):PWi ce X (.BoolOp .Or (a::b::rest) pos) (tOrI ta tb):=λ wh pins s σ H ι σi h Q E N K =>
 isTrue_or (ha.run N K λ c h1 u s1 H1 ι1 N1 n1 r1 K1=>by
  have r':u=c:=r1
  subst r'
  cases u with
  | false=>exact hb wh pins s1 σ H1 ι1 σi h1 Q E N1 K1
  | true=>exact K1 true s1 H1 ι1 N1 .refl rfl)
theorem PWi.t (h:PWi ce X a ta):PTi ce X a ta:=h _
theorem J46 (ha:PTi ce X a ta):PTi ce X (.UnaryOp .Not a pos) (JC ta):=λ pins s σ H ι σi h Q E N K =>
 isTrue_not (ha.run N K λ c h1 u s1 H1 ι1 N1 n1 r1 K1=>by
  have r':u=c:=r1
  subst r'
  exact K1 (!u) s1 H1 ι1 N1 .refl rfl)
theorem J1g {op}(h:PEi ce X a ma):PEi ce X (.BoolOp op [a] pos) ma:=λ pins s σ H ι σi h' Q E N K=>BoolOp_one (h pins s σ H ι σi h' Q E N K)
theorem J3z {tr:IV->IH->Res Bool}(ht:TrI ce X tr)(ha:PEi ce X a ma)(hb:PEi ce X (.BoolOp .And (b::rest) pos) mb):PEi ce X (.BoolOp .And (a::b::rest) pos) (eAnd ma mb tr):=λ pins s σ H ι σi h Q E N K =>
 BoolOp_and (ha.run N K λ x h1 u s1 H1 ι1 N1 n1 r1 K1=>by
  refine ht pins s1 σ H1 ι1 σi h1 x u _ E N1 r1 ?_
  cases e:tr x h1 with
  | ok c h2 =>
   rw[e] at K1
   intro d s2 H2 ι2 N2 n2 r2
   have r':d=c:=r2
   subst r'
   have K2:=Kont.mono (r:=if d=true then mb σi h2 else .ok x h2) K1 n2
   cases d with
   | true=>exact hb pins s2 σ H2 ι2 σi h2 Q E N2 K2
   | false=>exact K2 u s2 H2 ι2 N2 .refl (r1.mono n2)
  | exc n h'=>rw[e] at K1;exact K1
  | stuck=>rw[e] at K1;exact K1)
theorem i_or {tr:IV->IH->Res Bool}(ht:TrI ce X tr)(ha:PEi ce X a ma)(hb:PEi ce X (.BoolOp .Or (b::rest) pos) mb):PEi ce X (.BoolOp .Or (a::b::rest) pos) (eOr ma mb tr):=λ pins s σ H ι σi h Q E N K =>
 BoolOp_or (ha.run N K λ x h1 u s1 H1 ι1 N1 n1 r1 K1=>by
  refine ht pins s1 σ H1 ι1 σi h1 x u _ E N1 r1 ?_
  cases e:tr x h1 with
  | ok c h2 =>
   rw[e] at K1
   intro d s2 H2 ι2 N2 n2 r2
   have r':d=c:=r2
   subst r'
   have K2:=Kont.mono (r:=if d=true then .ok x h2 else mb σi h2) K1 n2
   cases d with
   | false=>exact hb pins s2 σ H2 ι2 σi h2 Q E N2 K2
   | true=>exact K2 u s2 H2 ι2 N2 .refl (r1.mono n2)
  | exc n h'=>rw[e] at K1;exact K1
  | stuck=>rw[e] at K1;exact K1)
def X5 (tr:IV->IH->Res Bool):IV->IH->Res IV:=λ x h=>(tr x h).bind λ c h1=>.ok (.bl (!c)) h1
theorem J0b {tr:IV->IH->Res Bool}(ht:TrI ce X tr):UnI ce X (unaryOp .Not) (X5 tr):=λ pins s σ H ι σi h x v Q E N r K=>by
 refine not_of (ht pins s σ H ι σi h x v _ E N r ?_)
 unfold X5 at K
 cases e:tr x h with
 | ok c h2 =>
  rw[e] at K
  intro d s2 H2 ι2 N2 n2 r2
  have r':d=c:=r2
  subst r'
  exact K _ s2 H2 ι2 N2 n2 ⟨.bl (!d),rfl,rfl⟩
 | exc n h'=>rw[e] at K;exact K
 | stuck=>rw[e] at K;exact K
theorem Jy0 {t:Expr}{mt:T1}(ht:PTi ce X t mt)(ha:PEi ce X a ma)(hb:PEi ce X b mb):PEi ce X (.IfExp t a b pos) (eIf mt ma mb):=λ pins s σ H ι σi h Q E N K =>
 wpAny_IfExp (ht.run N K λ c h1 u s1 H1 ι1 N1 n1 r1 K1=>by
  have r':u=c:=r1
  subst r'
  cases u with
  | true=>exact ha pins s1 σ H1 ι1 σi h1 Q E N1 K1
  | false=>exact hb pins s1 σ H1 ι1 σi h1 Q E N1 K1)
theorem Jyz {op op':CmpOp}{f g:IV->IV->IH->Res IV}(ho:OpI ce X (Zas op) f)(ho':OpI ce X (Zas op') g)(ha:PEi ce X a ma)(hb:PEi ce X b mb)(hc:PEi ce X c mc)
  (hm:Zd9 [op,op'] [b,c]=false:=by with_unfolding_all rfl):PEi ce X (.Compare a [op,op'] [b,c] pos) (JR f g ma mb mc):=λ pins s σ H ι σi h Q E N K =>
 Compare_chain (ha.run N K λ x h1 u s1 H1 ι1 N1 n1 r1 K1=>chain_link (hb.run N1 K1 λ y h2 w s2 H2 ι2 N2 n2 r2 K2=>by
  refine ho pins s2 σ H2 ι2 σi h2 x y u w _ E N2 (r1.mono n2) r2 ?_
  cases e:f x y h2 with
  | exc n h'=>rw[e] at K2;exact K2
  | stuck=>rw[e] at K2;exact K2
  | ok k h3 =>
   rw[e] at K2
   intro d s3 H3 ι3 N3 n3 r3
   obtain⟨z,rz,q⟩:=r3
   cases k with
   | bl k =>
    have e':z=.bl k:=q
    subst e'
    cases rz
    refine ZaV ?_
    have K3:=Kont.mono (r:=match IV.bl k with|.bl true=>(mc σi h3).bind λ z h4=>g y z h4|.bl false=>.ok (.bl false) h3|_=>.stuck) K2 n3
    cases k with
    | false=>exact ite_ff (K3 _ s3 H3 ι3 N3 .refl ⟨.bl false,rfl,rfl⟩)
    | true=>exact ite_tt (chain_last (hc.run N3 K3 λ z h4 w' s4 H4 ι4 N4 n4 r4 K4=>ho' pins s4 σ H4 ι4 σi h4 y z w w' Q E N4 ((r2.mono n3).mono n4) r4 K4))
   | _=>exact Zf K2)) hm
theorem Jz9 {op op':CmpOp}{f g:IV->IV->IH->Res IV}(ho:OpI ce X (Zas op) f)(ho':OpI ce X (Zas op') g)(ha:PEi ce X a ma)(hb:PEi ce X b mb)(hc:PEi ce X c mc)
  (hm:Zd9 [op,op'] [b,c]=false:=by with_unfolding_all rfl):PTi ce X (.Compare a [op,op'] [b,c] pos) (Jg asB (JR f g ma mb mc)):=λ pins s σ H ι σi h Q E N K=>by
 have K':Kont ce X RB pins ι σi σ H ((ma σi h).bind λ x h1=>(mb σi h1).bind λ y h2=>(f x y h2).bind λ k h3=>(match k with|.bl true=>(mc σi h3).bind λ z h4=>g y z h4|.bl false=>.ok (.bl false) h3|_=>.stuck:Res IV).bind asB) Q E:=by
  unfold Jg JR at K
  rw[Res.bind_bind] at K
  simp only[Res.bind_bind] at K
  exact K
 refine isTrue_chain (ha.run N K' λ x h1 u s1 H1 ι1 N1 n1 r1 K1=>test_link (hb.run N1 K1 λ y h2 w s2 H2 ι2 N2 n2 r2 K2=>?_)) hm
 refine ho pins s2 σ H2 ι2 σi h2 x y u w _ E N2 (r1.mono n2) r2 ?_
 cases e:f x y h2 with
 | exc n h'=>rw[e] at K2;exact K2
 | stuck=>rw[e] at K2;exact K2
 | ok k h3 =>
  rw[e] at K2
  intro d s3 H3 ι3 N3 n3 r3
  obtain⟨z,rz,q⟩:=r3
  cases k with
  | bl k =>
   have e':z=.bl k:=q
   subst e'
   cases rz
   refine ZaV ?_
   have K3:=Kont.mono (r:=(match IV.bl k with|.bl true=>(mc σi h3).bind λ z h4=>g y z h4|.bl false=>.ok (.bl false) h3|_=>.stuck:Res IV).bind asB) K2 n3
   cases k with
   | false=>exact ite_ff (K3 _ s3 H3 ι3 N3 .refl rfl)
   | true =>
    have K3':Kont ce X RB pins ι3 σi σ H3 ((mc σi h3).bind λ z h4=>(g y z h4).bind asB) Q E:=by
     have:=K3
     dsimp only at this
     rw[Res.bind_bind] at this
     exact this
    exact ite_tt (test_last (hc.run N3 K3' λ z h4 w' s4 H4 ι4 N4 n4 r4 K4=>ho' pins s4 σ H4 ι4 σi h4 y z w w' _ E N4 ((r2.mono n3).mono n4) r4 (Kont.asB K4)))
  | _=>exact Zf K2
variable {es:List Expr}{mr:A1}
theorem RUs.nil {K:W.Frag}{ι:List Zd}{H:Hp}:RUs K ι H [] []:=⟨[],.nil,rfl⟩
theorem RUs.cons {K:W.Frag}{ι:List Zd}{H:Hp}{x:IV}{u:Za}{xs:List IV}{us:List Za}(a:RU K ι H x u)(b:RUs K ι H xs us):RUs K ι H (x::xs) (u::us) :=
 let ⟨v,r,q⟩:=a;let ⟨vs,rs,qs⟩:=b;⟨v::vs,.cons r rs,v,vs,rfl,q,qs⟩
theorem Vv:PAi ce X [] Jd:=λ _ pins s σ H ι σi h Q E N K=>Calls.spliced_nil (K [] s H ι N .refl .nil)
theorem QX (ha:PEi ce X a ma)(hr:PAi ce X es mr)(hs:Z8 (a::es) X.env=(false,ZaK a X.env)::Z8 es X.env:=by rfl):PAi ce X (a::es) (Jb ma mr):=by
 intro pos pins s σ H ι σi h Q E N K
 rw[hs]
 show Zs _ _ (spliced ((false,ZaK a X.env)::ZaT pos (Z8 es X.env))) _ _ s
 exact Zdn (ha.run N K λ x h1 u s1 H1 ι1 N1 n1 r1 K1=>(hr pos).run N1 K1 λ xs h2 us s2 H2 ι2 N2 n2 r2 K2=>K2 _ s2 H2 ι2 N2 .refl (.cons (r1.mono n2) r2))
end
noncomputable def Jl:IV->IV->IH->Res IV
 | .int i,.int j,h=>.ok (.int (i+j)) h
 | .str x,.str y,h=>if x.length+y.length<=sizeLine then .ok (.str (x++y)) h else .stuck
 | .ref i,.ref j,h=>match h[i]?,h[j]? with
  | some (.lst xs),some (.lst ys)=>if xs.length+ys.length<=sizeLine then .ok (.ref h.length) (h++[.lst (xs++ys)]) else .stuck
  | _,_=>.stuck
 | .tup xs,.tup ys,h=>if xs≠[]/\ys≠[]/\xs.length+ys.length<=sizeLine then .ok (.tup (xs++ys)) h else .stuck
 | _,_,_=>.stuck
noncomputable def Qa:IV->IV->IH->Res IV
 | .int i,.int j,h=>.ok (.int (i-j)) h
 | _,_,_=>.stuck
def QW (i j:Int):Prop:=i.natAbs<2^64∨j.natAbs<2^64∨(i.natAbs.log2<1048576/\j.natAbs.log2<1048576)
instance (i j:Int):Decidable (QW i j):=by unfold QW;exact inferInstance
def X4:IV->IV->IH->Res IV
 | .int i,.int j,h=>if QW i j then .ok (.int (i*j)) h else .stuck
 | .ref i,.int k,h=>match h[i]? with
  | some (.lst xs)=>if -(2^63)<=k/\k<2^63/\xs.length*k.toNat<=sizeLine then .ok (.ref h.length) (h++[.lst (ZJ k.toNat xs).flatten]) else .stuck
  | _=>.stuck
 | _,_,_=>.stuck
def JO:IV->IV->IH->Res IV
 | .int i,.int j,h=>if 0<j/\j.natAbs.log2<9000 then .ok (.int (i/j)) h else .stuck
 | _,_,_=>.stuck
def Jw:IV->IV->IH->Res IV
 | .int i,.int j,h=>if 0<j then .ok (.int (i%j)) h else .stuck
 | _,_,_=>.stuck
def JE:IV->IV->IH->Res IV
 | .int i,.int j,h=>if 0<=j/\j<=1000000/\i.natAbs<2^64 then .ok (.int (i^j.toNat)) h else .stuck
 | _,_,_=>.stuck
noncomputable def Yo:IV->IH->Res IV
 | .int i,h=>.ok (.int (-i)) h
 | _,_=>.stuck
section
variable {ce:Str->Option Zd}{X:Cx}
theorem fin0 {pins:List (Zd×Obj)}{s:Zc}{σ:L2.St}{H:Hp}{ι:List Zd}{σi:ISt}{h:IH}{v:IV}{w:V}{Q:Za->Zc->Prop}{E:Za->Zc->Prop}(N:Now ce X pins ι σi h σ H s)(K:Kont ce X RU pins ι σi σ H (.ok v h) Q E)
  (q:RV X.K ι H v w):∀u s',Inv X pins σ H s'->RelV w u->Q u s':=λ u s' I r=>K u s' H ι ⟨I,N.rel,N.st⟩ .refl ⟨w,r,q⟩
theorem finA {pins:List (Zd×Obj)}{s:Zc}{σ:L2.St}{H:Hp}{ι:List Zd}{σi:ISt}{h:IH}{io:IO}{o:HO}{Q:Za->Zc->Prop}{E:Za->Zc->Prop}(N:Now ce X pins ι σi h σ H s)
  (K:Kont ce X RU pins ι σi σ H (.ok (.ref h.length) (h++[io])) Q E)(l:Zd)(e:H l=none)(r:RO ce X.K (ι++[l]) (upd H l o) l io):∀u s',Inv X pins σ (upd H l o) s'->RelV (.ref l) u->Q u s':=λ u s' I ru=>by
 obtain⟨R,n⟩:=N.rel.alloc e r
 refine K u s' _ _ ⟨I,R,N.st.mono n⟩ n ⟨.ref l,ru,l,rfl,?_⟩
 rw[<- N.rel.len,Z2 (Zl _)]
 simp
theorem finT {pins:List (Zd×Obj)}{s:Zc}{σ:L2.St}{H:Hp}{ι:List Zd}{σi:ISt}{h:IH}{xs:List IV}{vs:List V}{Q:Za->Zc->Prop}{E:Za->Zc->Prop}(N:Now ce X pins ι σi h σ H s)
  (K:Kont ce X RU pins ι σi σ H (.ok (.tup xs) h) Q E)(l:Zd)(e:H l=none)(r:RVs X.K ι H xs vs):∀u s',Inv X pins σ (upd H l (.tup vs)) s'->RelV (.ref l) u->Q u s':=λ u s' I ru=>by
 obtain⟨R,n⟩:=N.rel.grow (o:=.tup vs) e
 exact K u s' _ _ ⟨I,R,N.st.mono n⟩ n ⟨.ref l,ru,l,vs,rfl,SqT.of J7,RVs.mono n _ _ r⟩
theorem RVs.new {K:W.Frag}{ι:List Zd}{H:Hp}{l:Zd}{o:HO}(e:H l=none){xs:List IV}{vs:List V}(r:RVs K ι H xs vs):RVs K (ι++[l]) (upd H l o) xs vs:=RVs.mono ⟨⟨[l],rfl⟩,Ext.upd_new e⟩ _ _ r
theorem Now.at {pins:List (Zd×Obj)}{s:Zc}{σ:L2.St}{H:Hp}{ι:List Zd}{σi:ISt}{h:IH}(N:Now ce X pins ι σi h σ H s){i:Nat}{o:IO}(e:h[i]?=some o){a:Zd}(ha:ι[i]?=some a):RO ce X.K ι H a o:=by
 obtain⟨b,e1,r⟩:=N.rel.at_ i o e
 rw[ha] at e1
 cases e1
 exact r
theorem J4e:OpI ce X (ZaM .Add) Jl:=by
 intro pins s σ H ι σi h x y v u Q E N rx ry K
 obtain⟨xv,rx,qx⟩:=rx
 obtain⟨yv,ry,qy⟩:=ry
 cases x with
 | int i =>
  cases y with
  | int j =>
   have e1:xv=.int i:=qx
   have e2:yv=.int j:=qy
   subst e1 e2
   exact JW (J18 (X:=X.wish E)) N.inv rx ry ⟨i,j,rfl,rfl,fin0 N K rfl⟩
  | _=>exact Zf K
 | str i =>
  cases y with
  | str j =>
   have e1:xv=.str i:=qx
   have e2:yv=.str j:=qy
   subst e1 e2
   dsimp only[Jl] at K
   split at K
   ·rename_i hz
    exact JW (Jqp (X:=X.wish E)) N.inv rx ry ⟨i,j,rfl,rfl,hz,fin0 N K rfl⟩
   ·exact Zf K
  | _=>exact Zf K
 | tup xs =>
  cases y with
  | tup ys =>
   obtain⟨a,vs,e1,sa,ra⟩:=qx
   obtain⟨b,ws,e2,sb,rb⟩:=qy
   subst e1 e2
   dsimp only[Jl] at K
   split at K
   ·rename_i hz
    obtain⟨h1,h2,h3⟩:=hz
    have n1:vs≠[]:=λ z=>h1 (by have:=ra.length;rw[z] at this;exact ZaB this.symm)
    have n2:ws≠[]:=λ z=>h2 (by have:=rb.length;rw[z] at this;exact ZaB this.symm)
    exact JW (Jzj (X:=X.wish E)) N.inv rx ry ⟨a,b,vs,ws,rfl,rfl,sa,sb,n1,by rw[ra.length,rb.length];exact h3,λ z=>absurd z n2,λ _ p hp=>finT N K p hp (ra.append rb)⟩
   ·exact Zf K
  | _=>exact Zf K
 | ref i =>
  cases y with
  | ref j =>
   obtain⟨a,e1,ha⟩:=qx
   obtain⟨b,e2,hb⟩:=qy
   subst e1 e2
   dsimp only[Jl] at K
   cases hi:h[i]? with
   | none=>rw[hi] at K;exact Zf K
   | some oi =>
    cases hj:h[j]? with
    | none=>rw[hi,hj] at K;cases oi<;>exact Zf K
    | some oj =>
     rw[hi,hj] at K
     cases oi with
     | lst xs =>
      cases oj with
      | lst ys =>
       dsimp only at K
       split at K
       ·rename_i hz
        obtain⟨vs,e1,r1⟩:=N.at hi ha
        obtain⟨ws,e2,r2⟩:=N.at hj hb
        exact JW (J19 (X:=X.wish E)) N.inv rx ry ⟨a,b,vs,ws,rfl,rfl,e1,e2,by rw[r1.length,r2.length];exact hz,λ p hp=>finA N K p hp ⟨_,J7,RVs.new hp (r1.append r2)⟩⟩
       ·exact Zf K
      | _=>exact Zf K
     | _=>exact Zf K
  | _=>exact Zf K
 | _=>cases y<;>exact Zf K
theorem J4k:OpI ce X (ZaM .Sub) Qa:=by
 intro pins s σ H ι σi h x y v u Q E N rx ry K
 obtain⟨xv,rx,qx⟩:=rx
 obtain⟨yv,ry,qy⟩:=ry
 cases x with
 | int i =>
  cases y with
  | int j =>
   have e1:xv=.int i:=qx
   have e2:yv=.int j:=qy
   subst e1 e2
   exact JW (J2d (X:=X.wish E)) N.inv rx ry ⟨i,j,rfl,rfl,fin0 N K rfl⟩
  | _=>exact Zf K
 | _=>cases y<;>exact Zf K
theorem QW.ok {i j:Int}(h:QW i j):IntMulOk i j:=by
 rcases h with h|h|⟨h1,h2⟩
 ·exact .of_left (intBits_le_64 (by omega) (by omega))
 ·exact .of_right (intBits_le_64 (by omega) (by omega))
 ·refine .of_bits ?_ ?_
  ·unfold Builtin.Int.intBits
   split
   ·exact ZT _
   ·have:(2:Nat)^20=1048576:=by decide
    omega
  ·unfold Builtin.Int.intBits
   split
   ·exact ZT _
   ·have:(2:Nat)^20=1048576:=by decide
    omega
theorem Jzk:OpR X (ZaM .Mult) (rI QW λ i j=>.int (i*j)):=opI λ _ _ _ _ _ _ _ hc q=>mul_int q hc.ok
theorem J4i:OpI ce X (ZaM .Mult) X4:=by
 intro pins s σ H ι σi h x y v u Q E N rx ry K
 obtain⟨xv,rx,qx⟩:=rx
 obtain⟨yv,ry,qy⟩:=ry
 cases x with
 | int i =>
  cases y with
  | int j =>
   have e1:xv=.int i:=qx
   have e2:yv=.int j:=qy
   subst e1 e2
   dsimp only[X4] at K
   split at K
   ·rename_i hz
    exact JW (Jzk (X:=X.wish E)) N.inv rx ry ⟨i,j,rfl,rfl,hz,fin0 N K rfl⟩
   ·exact Zf K
  | _=>exact Zf K
 | ref i =>
  cases y with
  | int k =>
   obtain⟨a,e1,ha⟩:=qx
   have e2:yv=.int k:=qy
   subst e1 e2
   dsimp only[X4] at K
   cases hi:h[i]? with
   | none=>rw[hi] at K;exact Zf K
   | some oi =>
    rw[hi] at K
    cases oi with
    | lst xs =>
     dsimp only at K
     split at K
     ·rename_i hz
      obtain⟨vs,e1,r1⟩:=N.at hi ha
      have rr:∀n:Nat,RVs X.K ι H (ZJ n xs).flatten (ZJ n vs).flatten:=λ n=>by
       induction n with
       | zero=>exact rfl
       | succ n ih =>
        rw[Za9,Za9,Zbx,Zbx]
        exact r1.append ih
      exact JW (J2c (X:=X.wish E)) N.inv rx ry ⟨a,k,vs,rfl,rfl,e1,hz.1,hz.2.1,by rw[r1.length];exact hz.2.2,λ p hp=>finA N K p hp ⟨_,J7,RVs.new hp (rr _)⟩⟩
     ·exact Zf K
    | _=>exact Zf K
  | _=>exact Zf K
 | _=>cases y<;>exact Zf K
theorem Ju8:OpR X (ZaM .FloorDiv) (rI (λ _ j=>0<j/\j.natAbs.log2<9000) λ i j=>.int (i/j)):=opI λ i j _ _ _ _ _ hc q=>by
 have h1:(0:Int)<j:=hc.1
 exact floordiv_int (by omega) (by rw[Int.fdiv_eq_ediv_of_nonneg i (by omega)];exact q) (.inl (PyProof.noPylong_of_log2 hc.2))
theorem J15:OpI ce X (ZaM .FloorDiv) JO:=by
 intro pins s σ H ι σi h x y v u Q E N rx ry K
 obtain⟨xv,rx,qx⟩:=rx
 obtain⟨yv,ry,qy⟩:=ry
 cases x with
 | int i =>
  cases y with
  | int j =>
   have e1:xv=.int i:=qx
   have e2:yv=.int j:=qy
   subst e1 e2
   dsimp only[JO] at K
   split at K
   ·rename_i hz
    exact JW (Ju8 (X:=X.wish E)) N.inv rx ry ⟨i,j,rfl,rfl,hz,fin0 N K rfl⟩
   ·exact Zf K
  | _=>exact Zf K
 | _=>cases y<;>exact Zf K
theorem J4h:OpI ce X (ZaM .Mod) Jw:=by
 intro pins s σ H ι σi h x y v u Q E N rx ry K
 obtain⟨xv,rx,qx⟩:=rx
 obtain⟨yv,ry,qy⟩:=ry
 cases x with
 | int i =>
  cases y with
  | int j =>
   have e1:xv=.int i:=qx
   have e2:yv=.int j:=qy
   subst e1 e2
   dsimp only[Jw] at K
   split at K
   ·rename_i hz
    exact JW (J2a (X:=X.wish E)) N.inv rx ry ⟨i,j,rfl,rfl,hz,fin0 N K rfl⟩
   ·exact Zf K
  | _=>exact Zf K
 | _=>cases y<;>exact Zf K
theorem J4j:OpI ce X (ZaM .Pow) JE:=by
 intro pins s σ H ι σi h x y v u Q E N rx ry K
 obtain⟨xv,rx,qx⟩:=rx
 obtain⟨yv,ry,qy⟩:=ry
 cases x with
 | int i =>
  cases y with
  | int j =>
   have e1:xv=.int i:=qx
   have e2:yv=.int j:=qy
   subst e1 e2
   dsimp only[JE] at K
   split at K
   ·rename_i hz
    exact JW (J2b (X:=X.wish E)) N.inv rx ry ⟨i,j,rfl,rfl,hz,fin0 N K rfl⟩
   ·exact Zf K
  | _=>exact Zf K
 | _=>cases y<;>exact Zf K
theorem J5a:UnI ce X (unaryOp .USub) Yo:=by
 intro pins s σ H ι σi h x v Q E N rx K
 obtain⟨xv,rx,qx⟩:=rx
 cases x with
 | int i =>
  have e1:xv=.int i:=qx
  subst e1
  exact J3a (J29 (X:=X.wish E)) N.inv rx ⟨i,rfl,fin0 N K rfl⟩
 | _=>exact Zf K
noncomputable def cLt:IV->IV->IH->Res IV
 | .int i,.int j,h=>.ok (.bl (decide (i<j))) h
 | .str x,.str y,h=>.ok (.bl (decide (x.cps.toList<y.cps.toList))) h
 | _,_,_=>.stuck
noncomputable def cLe:IV->IV->IH->Res IV
 | .int i,.int j,h=>.ok (.bl (decide (i<=j))) h
 | .str x,.str y,h=>.ok (.bl (!decide (y.cps.toList<x.cps.toList))) h
 | _,_,_=>.stuck
noncomputable def cGt:IV->IV->IH->Res IV
 | .int i,.int j,h=>.ok (.bl (decide (j<i))) h
 | _,_,_=>.stuck
noncomputable def cGe:IV->IV->IH->Res IV
 | .int i,.int j,h=>.ok (.bl (decide (j<=i))) h
 | _,_,_=>.stuck
theorem o_lt:OpI ce X (Zas .Lt) cLt:=by
 intro pins s σ H ι σi h x y v u Q E N rx ry K
 obtain⟨xv,rx,qx⟩:=rx
 obtain⟨yv,ry,qy⟩:=ry
 cases x with
 | int i =>
  cases y with
  | int j =>
   have e1:xv=.int i:=qx
   have e2:yv=.int j:=qy
   subst e1 e2
   exact JW (J4p (X:=X.wish E)) N.inv rx ry ⟨i,j,rfl,rfl,fin0 N K rfl⟩
  | _=>exact Zf K
 | str i =>
  cases y with
  | str j =>
   have e1:xv=.str i:=qx
   have e2:yv=.str j:=qy
   subst e1 e2
   exact JW (Jsz (X:=X.wish E)) N.inv rx ry ⟨i,j,rfl,rfl,fin0 N K rfl⟩
  | _=>exact Zf K
 | _=>cases y<;>exact Zf K
theorem o_le:OpI ce X (Zas .LtE) cLe:=by
 intro pins s σ H ι σi h x y v u Q E N rx ry K
 obtain⟨xv,rx,qx⟩:=rx
 obtain⟨yv,ry,qy⟩:=ry
 cases x with
 | int i =>
  cases y with
  | int j =>
   have e1:xv=.int i:=qx
   have e2:yv=.int j:=qy
   subst e1 e2
   exact JW (J4o (X:=X.wish E)) N.inv rx ry ⟨i,j,rfl,rfl,fin0 N K rfl⟩
  | _=>exact Zf K
 | str i =>
  cases y with
  | str j =>
   have e1:xv=.str i:=qx
   have e2:yv=.str j:=qy
   subst e1 e2
   obtain⟨t,rfl⟩:=rx
   obtain⟨t',rfl⟩:=ry
   exact PySem.P.le_str (fin0 N K rfl _ s N.inv rfl)
  | _=>exact Zf K
 | _=>cases y<;>exact Zf K
theorem o_gt:OpI ce X (Zas .Gt) cGt:=by
 intro pins s σ H ι σi h x y v u Q E N rx ry K
 obtain⟨xv,rx,qx⟩:=rx
 obtain⟨yv,ry,qy⟩:=ry
 cases x with
 | int i =>
  cases y with
  | int j =>
   have e1:xv=.int i:=qx
   have e2:yv=.int j:=qy
   subst e1 e2
   exact JW (J4n (X:=X.wish E)) N.inv rx ry ⟨i,j,rfl,rfl,fin0 N K rfl⟩
  | _=>exact Zf K
 | _=>cases y<;>exact Zf K
theorem o_ge:OpI ce X (Zas .GtE) cGe:=by
 intro pins s σ H ι σi h x y v u Q E N rx ry K
 obtain⟨xv,rx,qx⟩:=rx
 obtain⟨yv,ry,qy⟩:=ry
 cases x with
 | int i =>
  cases y with
  | int j =>
   have e1:xv=.int i:=qx
   have e2:yv=.int j:=qy
   subst e1 e2
   exact JW (J4m (X:=X.wish E)) N.inv rx ry ⟨i,j,rfl,rfl,fin0 N K rfl⟩
  | _=>exact Zf K
 | _=>cases y<;>exact Zf K
noncomputable def tru:IV->IH->Res Bool
 | .non,h=>.ok false h
 | .bl b,h=>.ok b h
 | .int i,h=>.ok (i != 0) h
 | .str x,h=>if x.length<=sizeLine then .ok ((x.length:Int) != 0) h else .stuck
 | .tup xs,h=>.ok (!xs.isEmpty) h
 | .rol xs,h=>.ok (!xs.isEmpty) h
 | .ref i,h=>match h[i]? with
  | some (.lst xs)=>.ok (!xs.isEmpty) h
  | some (.dct kvs)=>.ok (!kvs.isEmpty) h
  | _=>.stuck
theorem RVs.empty {K:W.Frag}{ι:List Zd}{H:Hp}{xs:List IV}{vs:List V}(r:RVs K ι H xs vs):vs.isEmpty=xs.isEmpty:=by
 have:=r.length
 cases xs<;>cases vs<;>simp_all
theorem RPs.empty {κ:Type}{K:W.Frag}{ι:List Zd}{H:Hp}{xs:List (κ×IV)}{vs:List (κ×V)}(r:RPs K ι H xs vs):vs.isEmpty=xs.isEmpty:=by
 have:=r.length
 cases xs<;>cases vs<;>simp_all
theorem finB {pins:List (Zd×Obj)}{s:Zc}{σ:L2.St}{H:Hp}{ι:List Zd}{σi:ISt}{h:IH}{c:Bool}{Q:Bool->Zc->Prop}{E:Za->Zc->Prop}(N:Now ce X pins ι σi h σ H s)(K:Kont ce X RB pins ι σi σ H (.ok c h) Q E) :
  ∀s',Inv X pins σ H s'->Q c s':=λ s' I=>K c s' H ι ⟨I,N.rel,N.st⟩ .refl rfl
theorem Yw:TrI ce X tru:=by
 intro pins s σ H ι σi h x v Q E N rx K
 obtain⟨xv,rx,qx⟩:=rx
 cases x with
 | non =>
  have e1:xv=.non:=qx
  subst e1
  exact VL (VJ (X:=X.wish E)) N.inv rx ⟨_,rfl,finB N K⟩
 | bl b =>
  have e1:xv=.bl b:=qx
  subst e1
  exact VL (VJ (X:=X.wish E)) N.inv rx ⟨_,rfl,finB N K⟩
 | int i =>
  have e1:xv=.int i:=qx
  subst e1
  exact VL (VJ (X:=X.wish E)) N.inv rx ⟨_,rfl,finB N K⟩
 | str y =>
  have e1:xv=.str y:=qx
  subst e1
  dsimp only[tru] at K
  split at K
  ·rename_i hz
   exact VL (VJ (X:=X.wish E)) N.inv rx ⟨_,⟨hz,rfl⟩,finB N K⟩
  ·exact Zf K
 | tup xs =>
  obtain⟨a,vs,e1,sa,ra⟩:=qx
  subst e1
  exact VL (VJ (X:=X.wish E)) N.inv rx ⟨!xs.isEmpty,.inr (.inl ⟨vs,sa,by rw[ra.empty]⟩),finB N K⟩
 | rol xs =>
  obtain⟨a,vs,e1,sa,ra⟩:=qx
  subst e1
  exact VL (VJ (X:=X.wish E)) N.inv rx ⟨!xs.isEmpty,.inl ⟨vs,sa.sq,by rw[ra.empty]⟩,finB N K⟩
 | ref i =>
  obtain⟨a,e1,ha⟩:=qx
  subst e1
  dsimp only[tru] at K
  cases hi:h[i]? with
  | none=>rw[hi] at K;exact Zf K
  | some oi =>
   rw[hi] at K
   cases oi with
   | lst xs =>
    obtain⟨vs,e1,r1⟩:=N.at hi ha
    exact VL (VJ (X:=X.wish E)) N.inv rx ⟨!xs.isEmpty,.inl ⟨vs,SqL.of e1,by rw[r1.empty]⟩,finB N K⟩
   | dct kvs =>
    obtain⟨vs,e1,r1⟩:=N.at hi ha
    exact VL (VJ (X:=X.wish E)) N.inv rx ⟨!kvs.isEmpty,.inr (.inr ⟨vs,e1,by rw[r1.empty]⟩),finB N K⟩
   | _=>exact Zf K
def J8 (a:A1):E1:=λ σ h=>(a σ h).bind λ xs h1=>if xs.length<=sizeLine then .ok (.tup xs) h1 else .stuck
def Js (a:A1):E1:=λ σ h=>(a σ h).bind λ xs h1=>if xs.length<=sizeLine then .ok (.ref h1.length) (h1++[.lst xs]) else .stuck
variable {es:List Expr}{mr:A1}{pos:Pos}
theorem J39 {x1}(hr:PAi ce X es mr):PEi ce X (.Tuple es x1 pos) (J8 mr):=λ pins s σ H ι σi h Q E N K=>by
 refine wpAny_Tuple_spliced ((hr pos).run N K λ xs h1 us s1 H1 ι1 N1 n1 r1 K1=>?_)
 change Kont ce X RU pins ι1 σi σ H1 (if xs.length<=sizeLine then _ else _) Q E at K1
 split at K1
 ·rename_i hz
  obtain⟨vs,rv,qs⟩:=r1
  have hl:=rv.length
  have hl2:=qs.length
  have hf:H1 s1.heap.objs.size=none:=N1.inv.hok.fresh (Zl _)
  refine⟨by rw[<- hl,hl2];exact hz,?_⟩
  exact finT N1 K1 s1.heap.objs.size hf qs _ _ (N1.inv.laid (t':=s1.toks) (λ b u e=>Zg _ e) (Zl _) ⟨by rw[hl2];exact hz,us,rv,⟨_,Zw _ rfl,rfl,_,rfl⟩⟩) rfl
 ·exact Zf K1
theorem J36 (hr:PAi ce X es mr):PEi ce X (.List es pos) (Js mr):=λ pins s σ H ι σi h Q E N K=>by
 refine wpAny_List_spliced ((hr pos).run N K λ xs h1 us s1 H1 ι1 N1 n1 r1 K1=>?_)
 change Kont ce X RU pins ι1 σi σ H1 (if xs.length<=sizeLine then _ else _) Q E at K1
 split at K1
 ·rename_i hz
  obtain⟨vs,rv,qs⟩:=r1
  have hl:=rv.length
  have hl2:=qs.length
  have hf:H1 s1.heap.objs.size=none:=N1.inv.hok.fresh (Zl _)
  refine⟨by rw[<- hl,hl2];exact hz,?_⟩
  exact finA N1 K1 s1.heap.objs.size hf ⟨_,J7,RVs.new hf qs⟩ _ _ (N1.inv.laid (t':=s1.toks) (λ b u e=>Zg _ e) (Zl _) ⟨by rw[hl2];exact hz,us,0,rv,Zw _ rfl⟩) rfl
 ·exact Zf K1
end
section
variable {prog:Z5}{w:ZP}{A:ZI}{E:Za->Zc->Prop}{s:Zc}
theorem Jlz {it t:Zd}{items:Array Za}(hne:t≠it):∀(n i:Nat)(s:Zc)(Q:List Za->Zc->Prop),s.heap.IsListIter it t i->s.heap.IsList t items->i+n<=items.size ->
  (∀h',h'.IsListIter it t (i+n)->Zc4 it s.heap h'->Q ((items.toList.drop i).take n) { s with heap:=h' })->Zs (Z6 prog w) A (draw (.ref it) n) Q E s
 | 0,i,s,Q,hit,_,_,hQ=>by
  show Zs _ _ (pure []) Q E s
  exact Zu (by simpa using hQ s.heap hit (Heap.SameBut.refl ..))
 | n+1,i,s,Q,hit,ht,hle,hQ=>by
  have hlt:i<items.size:=by omega
  show Zs _ _ (ZbU (.ref it)>>=_) Q E s
  refine Ze (ZdJ hit ht (x:=items[i]) (by simp[hlt]) λ h₁ hit₁ hs₁=>?_)
  refine Ze (ZZ (Jlz hne n (i+1) _ _ hit₁ (ht.extBut hs₁.extBut hne) (by omega) λ h₂ hit₂ hs₂=>Zu ?_))
  have hd:items.toList.drop i=items[i]::items.toList.drop (i+1):=by simp[Za8,hlt]
  have:=hQ h₂ (by rw[show i+(n+1)=i+1+n by omega];exact hit₂) (hs₁.trans hs₂)
  rw[hd,Zcf] at this
  exact this
theorem Jfy {t:Zd}{items:Array Za}{Q:List Za->Zc->Prop}(hh:A.handled=none)(ht:s.heap.IsList t items)
  (hQ:∀h',Heap.ExtBut s.heap.objs.size s.heap h'->Q items.toList { s with heap:=h' }):Zs (Z6 prog w) A (unpackItems (.ref t) items.size none) Q E s:=by
 have hlt:t≠s.heap.objs.size:=by obtain⟨o,ho,_⟩:=ht;exact Z1 (Zv ho)
 unfold unpackItems
 refine Ze ?_
 ·unfold notIterableAtAll
  refine Ze (wpAny_specialOf ht.typeIs slot_list_iter.lookup ?_)
  refine Zu ?_
  simp only[ZU,if_false]
  refine Ze (ZZ (ZaX ht ?_))
  refine Ze (ZZ (Jlz hlt items.size 0 _ _ ⟨_,Zw _ rfl,rfl,rfl⟩ (ht.push _) (by omega) λ h₁ hit₁ hs₁=>?_))
  have hall:List.take items.size (List.drop 0 items.toList)=items.toList:=by
   rw[List.drop_zero];exact ZaY (by simp)
  rw[hall]
  rw[if_neg (by simp)]
  have ht₁:h₁.IsList t items:=(ht.push _).extBut hs₁.extBut hlt
  refine Ze (ZZ (ZdW hh hit₁ ht₁ (by simp) λ h₂ he₂=>?_))
  simp only[Option.isSome_none,ZU,if_false]
  refine Zu (hQ h₂ λ b o hb e=>he₂ b o hb (hs₁.extBut b o hb (Zg _ e)))
theorem Je4 {env:Env}{elts:List Expr}{x1}{pos:Pos}{t:Zd}{items:Array Za}{Q:Unit->Zc->Prop}(hh:A.handled=none)(ht:s.heap.IsList t items)
  (hn:(ZaA elts env).length=items.size)(hstar:(ZaA elts env).findIdx? (·.1)=none)
  (h:∀h',Heap.ExtBut s.heap.objs.size s.heap h'->Zs (Z6 prog w) A (Zeq ((ZaA elts env).map (·.2)) items.toList) Q E { s with heap:=h' }) :
  Zs (Z6 prog w) A (ZdN (.Tuple elts x1 pos) env (.ref t)) Q E s:=by
 rw[assign_Tuple]
 refine Ze (Zb2 ?_)
 unfold unpack
 rw[hn,hstar]
 exact Ze (ZZ (Jfy hh ht h))
end
abbrev S1:=ISt->IH->SRes
structure Noted (L:Zd)(fs:List Zd)(e:Zd)(h h3:Zag):Prop where
 ex:∃oe vs T ts,h.get? e=some oe/\oe.data=.fields vs/\1<vs.size/\h3.get? e=some (ZaE (·.setIfInBounds 1 (.ref T)) oe)/\T≠e/\h.get? T=none/\h3.get? T=some { cls:=.type "traceback",dict:=none,data:=.fields ts }/\ts[3]?=some (ZbG L)
 slot:∀b o,h.get? b=some o->b≠e->∃sl,h3.get? b=some { o with slots:=sl }
 keep:∀b o,h.get? b=some o->b≠e->b∉fs->h3.get? b=some o
def Fly (L:Zd)(fs:List Zd)(e:Zd)(s s1:Zc):Prop:=s1=s∨∃h',s1={ s with heap:=h' }/\Noted L fs e s.heap h'
def JF (ce:Str->Option Zd)(X:Cx)(pins:List (Zd×Obj))(ι:List Zd)(H:Hp)(r:SRes)(Q:Flow->Zc->Prop)(E:Za->Zc->Prop):Prop :=
 match r with
 | .next σi' h'=>∀s' σ' H' ι',Now ce X pins ι' σi' h' σ' H' s'->Nxt ι H ι' H'->Q .next s'
 | .brk σi' h'=>∀s' σ' H' ι',Now ce X pins ι' σi' h' σ' H' s'->Nxt ι H ι' H'->Q .brk s'
 | .cont σi' h'=>∀s' σ' H' ι',Now ce X pins ι' σi' h' σ' H' s'->Nxt ι H ι' H'->Q .cont s'
 | .ret v h'=>∀u s' σi' σ' H' ι',Now ce X pins ι' σi' h' σ' H' s'->Nxt ι H ι' H'->RU X.K ι' H' v u->Q (.ret u) s'
 | .exc n σi' h'=>∀pl a s' σ' H' ι',Now ce X (pins++pl) ι' σi' h' σ' H' s'->Nxt ι H ι' H'->ι'[n]?=some a->∀s1,Fly X.env.locals (frs X.stack) a s' s1->E (.ref a) s1
 | .stuck=>False
theorem JF.mono {ce:Str->Option Zd}{X:Cx}{pins:List (Zd×Obj)}{ι ι':List Zd}{H H':Hp}{r:SRes}{Q:Flow->Zc->Prop}{E:Za->Zc->Prop}(k:JF ce X pins ι H r Q E)(n:Nxt ι H ι' H'):JF ce X pins ι' H' r Q E:=by
 cases r with
 | next σ h=>exact λ s' σ' H2 ι2 N n2=>k s' σ' H2 ι2 N (n.trans n2)
 | brk σ h=>exact λ s' σ' H2 ι2 N n2=>k s' σ' H2 ι2 N (n.trans n2)
 | cont σ h=>exact λ s' σ' H2 ι2 N n2=>k s' σ' H2 ι2 N (n.trans n2)
 | ret v h=>exact λ u s' σi' σ' H2 ι2 N n2=>k u s' σi' σ' H2 ι2 N (n.trans n2)
 | exc m σ h=>exact λ pl a s' σ' H2 ι2 N n2=>k pl a s' σ' H2 ι2 N (n.trans n2)
 | stuck=>exact k
def PSi (ce:Str->Option Zd)(X:Cx)(t:Sem Flow)(m:S1):Prop :=
 ∀(pins:List (Zd×Obj))(s:Zc)(σ:L2.St)(H:Hp)(ι:List Zd)(σi:ISt)(h:IH)(Q:Flow->Zc->Prop)(E:Za->Zc->Prop),Now ce X pins ι σi h σ H s->JF ce X pins ι H (m σi h) Q E->Zs (Z6 X.prog X.w) X.A t Q E s
abbrev PS1 (ce:Str->Option Zd)(X:Cx)(st:ZcY)(m:S1):Prop:=PSi ce X (exec st X.env) m
abbrev PS2 (ce:Str->Option Zd)(X:Cx)(sts:List ZcY)(m:S1):Prop:=PSi ce X (execs sts X.env) m
noncomputable def Jr:S1:=λ σ h=>.next σ h
def Jf (a b:S1):S1:=λ σ h=>match a σ h with
 | .next σ' h'=>b σ' h'
 | r=>r
noncomputable def Jzu:S1:=λ σ h=>.next σ h
def Jw5:S1:=λ σ h=>.brk σ h
def J2q:S1:=λ σ h=>.cont σ h
noncomputable def rS {α:Type}(σ:ISt)(r:Res α)(k:α->IH->SRes):SRes:=match r with
 | .ok a h=>k a h
 | .exc n h=>.exc n σ h
 | .stuck=>.stuck
def JJ (e:E1):S1:=λ σ h=>rS σ (e σ h) λ _ h'=>.next σ h'
def Jk (e:E1):S1:=λ σ h=>rS σ (e σ h) λ v h'=>.ret v h'
noncomputable def Jzv:S1:=λ _ h=>.ret .non h
def sIf (t:T1)(a b:S1):S1:=λ σ h=>rS σ (t σ h) λ c h'=>if c then a σ h' else b σ h'
def Jh (i:Nat)(e:E1):S1:=λ σ h=>rS σ (e σ h) λ v h'=>.next (σ.set i (some v)) h'
section
variable {ce:Str->Option Zd}{X:Cx}{st:ZcY}{rest:List ZcY}{m m1 m2:S1}{e:Expr}{me:E1}{pos:Pos}
theorem krun {α β:Type}{R:REL α β}{t:Sem β}{mm:ISt->IH->Res α}(p:PX ce X R t mm){pins:List (Zd×Obj)}{s:Zc}{σ:L2.St}{H:Hp}{ι:List Zd}{σi:ISt}{h:IH}(N:Now ce X pins ι σi h σ H s){g:α->IH->SRes}{Q:Flow->Zc->Prop}{E:Za->Zc->Prop}{Q1:β->Zc->Prop}
  (K:JF ce X pins ι H (rS σi (mm σi h) g) Q E)
  (step:∀x h1 u s1 H1 ι1,Now ce X pins ι1 σi h1 σ H1 s1->Nxt ι H ι1 H1->R X.K ι1 H1 x u->JF ce X pins ι1 H1 (g x h1) Q E->Q1 u s1):Zs (Z6 X.prog X.w) X.A t Q1 E s:=by
 refine p pins s σ H ι σi h Q1 E N ?_
 cases e:mm σi h with
 | ok v h' =>
  rw[e] at K
  exact λ u s' H' ι' N' n' r=>step v h' u s' H' ι' N' n' r (JF.mono (r:=g v h') K n')
 | exc n h' =>
  rw[e] at K
  exact λ pl a s' H' ι' N' n' q=>K pl a s' σ H' ι' N' n' q s' (.inl rfl)
 | stuck =>
  rw[e] at K
  exact K
theorem J2o:PS2 ce X [] Jr:=λ _ s σ H ι _ _ _ _ N K=>ZcZ (K s σ H ι N .refl)
theorem Jzs (h1:PS1 ce X st m1)(h2:PS2 ce X rest m2):PS2 ce X (st::rest) (Jf m1 m2):=by
 intro pins s σ H ι σi h Q E N K
 refine wpAny_execs_cons (h1 pins s σ H ι σi h _ E N ?_)
 unfold Jf at K
 cases e:m1 σi h with
 | next σ' h' =>
  rw[e] at K
  exact λ s' σ2 H' ι' N' n'=>h2 pins s' σ2 H' ι' σ' h' Q E N' (JF.mono (r:=m2 σ' h') K n')
 | brk σ' h'=>rw[e] at K;exact K
 | cont σ' h'=>rw[e] at K;exact K
 | ret v h'=>rw[e] at K;exact K
 | exc n σ' h'=>rw[e] at K;exact K
 | stuck=>rw[e] at K;exact K
theorem J2p (h1:PS1 ce X st m1):PS2 ce X [st] m1:=by
 intro pins s σ H ι σi h Q E N K
 refine wpAny_execs_cons (h1 pins s σ H ι σi h _ E N ?_)
 cases e:m1 σi h with
 | next σ' h' =>
  rw[e] at K
  exact λ s' σ2 H' ι' N' n'=>ZcZ (K s' σ2 H' ι' N' n')
 | brk σ' h'=>rw[e] at K;exact K
 | cont σ' h'=>rw[e] at K;exact K
 | ret v h'=>rw[e] at K;exact K
 | exc n σ' h'=>rw[e] at K;exact K
 | stuck=>rw[e] at K;exact K
theorem J2v:PS1 ce X (.Pass pos) Jzu:=λ _ s σ H ι _ _ _ _ N K=>wpAny_Pass (K s σ H ι N .refl)
theorem Jzw:PS1 ce X (.Break pos) Jw5:=λ _ s σ H ι _ _ _ _ N K=>wpAny_Break (K s σ H ι N .refl)
theorem J2t:PS1 ce X (.Continue pos) J2q:=λ _ s σ H ι _ _ _ _ N K=>wpAny_Continue (K s σ H ι N .refl)
theorem J2u (he:PEi ce X e me)(hs:Zdj e none pos.line X.env=pure false:=by rfl):PS1 ce X (.Expr e pos) (JJ me):=λ pins s σ H ι σi h Q E N K =>
 wpAny_Expr_any (krun he N K λ x h1 u s1 H1 ι1 N1 n1 r1 K1=>K1 s1 σ H1 ι1 N1 .refl) N.inv.quiet hs
theorem J43 (he:PEi ce X e me):PS1 ce X (.Return (some e) pos) (Jk me):=λ pins s σ H ι σi h Q E N K =>
 wpAny_Return_some (krun he N K λ x h1 u s1 H1 ι1 N1 n1 r1 K1=>K1 u s1 σi σ H1 ι1 N1 .refl r1)
theorem J2w:PS1 ce X (.Return none pos) Jzv:=λ pins s σ H ι σi h Q E N K=>wpAny_Return_none (K .none s σi σ H ι N .refl ⟨.non,rfl,rfl⟩)
theorem s_if {c:Expr}{a b:List ZcY}{mt:T1}(hc:PTi ce X c mt)(ha:PS2 ce X a m1)(hb:PS2 ce X b m2):PS1 ce X (.If c a b pos) (sIf mt m1 m2):=λ pins s σ H ι σi h Q E N K =>
 wpAny_If (krun hc N K λ x h1 u s1 H1 ι1 N1 n1 r1 K1=>by
  have r':u=x:=r1
  subst r'
  cases u with
  | true=>exact ha pins s1 σ H1 ι1 σi h1 Q E N1 K1
  | false=>exact hb pins s1 σ H1 ι1 σi h1 Q E N1 K1)
theorem J2x {i:Nat}{x:Str}{pos':Pos}(hN:X.N.Nodup)(he:PEi ce X e me)(hi:X.N[i]?=some x:=by rfl)(hx:Loc X.env.scope x:=by assumption)(hs:Zdj e (some (.Name x pos')) pos.line X.env=pure false:=by rfl)
  (hf:X.fn x=true∨X.env.scope.names.lookup x=some .local:=by assumption):PS1 ce X (.Assign [.Name x pos'] e pos) (Jh i me):=λ pins s σ H ι σi h Q E N K =>
 wpAny_Assign_Name (krun he N K λ v h1 u s1 H1 ι1 N1 n1 r1 K1=>by
  obtain⟨w,rw',q⟩:=r1
  exact Jf7 N1.inv hN hi hx rw' (λ s2 I2=>K1 s2 _ H1 ι1 ⟨I2,N1.rel,N1.st.set i q⟩ .refl) hf) hs
abbrev G1:=IV->ISt->IH->SRes
def PGi (ce:Str->Option Zd)(X:Cx)(tg:Expr)(g:G1):Prop :=
 ∀(pins:List (Zd×Obj))(s:Zc)(σ:L2.St)(H:Hp)(ι:List Zd)(σi:ISt)(h:IH)(v:IV)(u:Za)(Q:Flow->Zc->Prop)(E:Za->Zc->Prop),Now ce X pins ι σi h σ H s->RU X.K ι H v u->JF ce X pins ι H (g v σi h) Q E ->
  Zs (Z6 X.prog X.w) X.A (ZdN tg X.env u) (λ _ s'=>Q .next s') E s
noncomputable def gNm (i:Nat):G1:=λ v σ h=>.next (σ.set i (some v)) h
theorem g_nm {i:Nat}{x:Str}(hN:X.N.Nodup)(hi:X.N[i]?=some x:=by rfl)(hx:Loc X.env.scope x:=by assumption)(hf:X.fn x=true∨X.env.scope.names.lookup x=some .local:=by assumption):PGi ce X (.Name x pos) (gNm i):=by
 intro pins s σ H ι σi h v u Q E N r K
 obtain⟨w,rw',q⟩:=r
 exact wpAny_assign_Name (Jf7 N.inv hN hi hx rw' (λ s2 I2=>K s2 _ H ι ⟨I2,N.rel,N.st.set i q⟩ .refl) hf)
def PGsi (ce:Str->Option Zd)(X:Cx)(ts:List Expr)(g:List IV->ISt->IH->SRes):Prop :=
 ∀(pins:List (Zd×Obj))(s:Zc)(σ:L2.St)(H:Hp)(ι:List Zd)(σi:ISt)(h:IH)(vs:List IV)(us:List Za)(Q:Flow->Zc->Prop)(E:Za->Zc->Prop),Now ce X pins ι σi h σ H s->RUs X.K ι H vs us->JF ce X pins ι H (g vs σi h) Q E ->
  Zs (Z6 X.prog X.w) X.A (Zeq ((ZaA ts X.env).map (·.2)) us) (λ _ s'=>Q .next s') E s
noncomputable def gN:List IV->ISt->IH->SRes
 | [],σ,h=>.next σ h
 | _::_,_,_=>.stuck
def gC (g:G1)(r:List IV->ISt->IH->SRes):List IV->ISt->IH->SRes
 | v::vs,σ,h=>match g v σ h with
  | .next σ' h'=>r vs σ' h'
  | .exc n σ' h'=>.exc n σ' h'
  | _=>.stuck
 | [],_,_=>.stuck
theorem J04:PGsi ce X [] gN:=by
 intro pins s σ H ι σi h vs us Q E N r K
 cases vs with
 | nil =>
  obtain⟨xs,rv,q⟩:=r
  have e1:xs=[]:=q
  subst e1
  cases rv
  exact assignInOrder_nil (K s σ H ι N .refl)
 | cons v vs=>exact Zf K
theorem Jyr {tg:Expr}{ts:List Expr}{g:G1}{r:List IV->ISt->IH->SRes}(h1:PGi ce X tg g)(h2:PGsi ce X ts r)
  (hs:(ZaA (tg::ts) X.env).map (·.2)=ZdN tg X.env::(ZaA ts X.env).map (·.2):=by rfl):PGsi ce X (tg::ts) (gC g r):=by
 intro pins s σ H ι σi h vs us Q E N ru K
 cases vs with
 | nil=>exact Zf K
 | cons v vs =>
  obtain⟨xs,rv,x,xr,e1,q,qs⟩:=ru
  subst e1
  cases rv with
  | cons r1 r2 =>
   rw[hs]
   refine assignInOrder_cons (h1 pins s σ H ι σi h v _ (λ f s'=>Zs (Z6 X.prog X.w) X.A (Zeq ((ZaA ts X.env).map (·.2)) _) (λ _ s'=>Q .next s') E s') E N ⟨x,r1,q⟩ ?_)
   have K':JF ce X pins ι H (match g v σi h with|.next σ' h'=>r vs σ' h'|.exc n σ' h'=>.exc n σ' h'|_=>.stuck) Q E:=K
   cases e:g v σi h with
   | next σ' h' =>
    rw[e] at K'
    exact λ s' σ2 H' ι' N' n'=>h2 pins s' σ2 H' ι' σ' h' vs _ Q E N' ⟨xr,r2,RVs.mono n' _ _ qs⟩ (JF.mono (r:=r vs σ' h') K' n')
   | exc n σ' h'=>rw[e] at K';exact K'
   | _=>rw[e] at K';exact(show False from K').elim
def gTp (n:Nat)(g:List IV->ISt->IH->SRes):G1:=λ v σ h=>match v with
 | .tup xs=>if xs.length=n then g xs σ h else .stuck
 | .ref i=>(match h[i]? with
  | some (.lst xs)=>if xs.length=n then g xs σ h else .stuck
  | _=>.stuck)
 | _=>.stuck
theorem J3w {es:List Expr}{k n:Nat}{g:List IV->ISt->IH->SRes}(hc:X.calm=true)(hg:PGsi ce X es g)(hn:(ZaA es X.env).length=n:=by rfl)(hst:(ZaA es X.env).findIdx? (·.1)=none:=by rfl):PGi ce X (.Tuple es k pos) (gTp n g):=by
 intro pins s σ H ι σi h v u Q E N r K
 obtain⟨w,rw',q⟩:=r
 cases v with
 | tup xs =>
  obtain⟨a,vs,e1,sa,ra⟩:=q
  subst e1
  cases rw'
  unfold gTp at K
  dsimp only at K
  split at K
  ·rename_i hl
   obtain⟨its,rv,ht,hz⟩:=N.inv.tuple sa
   have l1:=ra.length
   have l2:=rv.length
   refine assign_Tuple_tuple (N.inv.ok.hd hc) ht (by simp only[Zq];omega) hst λ h' hx=>?_
   have I1:Inv X pins σ H { s with heap:=h' }:=N.inv.kept (t':=s.toks) λ b o e=>hx b o (Z1 (Zv e)) e
   exact hg pins _ σ H ι σi h xs _ Q E ⟨I1,N.rel,N.st⟩ ⟨vs,by simpa using rv,ra⟩ K
  ·exact Zf K
 | ref i =>
  obtain⟨a,e1,ha⟩:=q
  subst e1
  cases rw'
  unfold gTp at K
  dsimp only at K
  cases hi:h[i]? with
  | none=>rw[hi] at K;exact Zf K
  | some ob =>
   rw[hi] at K
   cases ob with
   | lst xs =>
    dsimp only at K
    split at K
    ·rename_i hl
     obtain⟨vs,g1,ra⟩:=N.at hi ha
     obtain⟨its,rv,ht,hz⟩:=N.inv.list (SqL.of g1)
     have l1:=ra.length
     have l2:=rv.length
     refine Je4 (N.inv.ok.hd hc) ht.isList (by simp only[Zq];omega) hst λ h' hx=>?_
     have I1:Inv X pins σ H { s with heap:=h' }:=N.inv.kept (t':=s.toks) λ b o e=>hx b o (Z1 (Zv e)) e
     exact hg pins _ σ H ι σi h xs _ Q E ⟨I1,N.rel,N.st⟩ ⟨vs,by simpa using rv,ra⟩ K
    ·exact Zf K
   | _=>exact Zf K
 | _=>exact Zf K
def sAsg (e:E1)(g:G1):S1:=λ σ h=>rS σ (e σ h) λ v h'=>g v σ h'
theorem J4z {tg:Expr}{g:G1}(he:PEi ce X e me)(hg:PGi ce X tg g)(hs:swapsWithSole [tg] e pos.line X.env=pure false:=by rfl)(hw:swappedStores [tg] e X.env=pure none:=by rfl)
  (h1:(ZaA [tg] X.env).map (·.2)=[ZdN tg X.env]:=by rfl):PS1 ce X (.Assign [tg] e pos) (sAsg me g):=λ pins s σ H ι σi h Q E N K =>
 wpAny_Assign_stores (krun he N K λ v h2 u s1 H1 ι1 N1 n1 r1 K1=>by
  rw[h1]
  exact hg pins s1 σ H1 ι1 σi h2 v u Q E N1 r1 K1) hs hw
end
theorem ExF.ok {P:Z5}{w:ZP}{H:Hp}{h:Zag}{a C:Zd}{tv:Za}{dd:Option Zd}{oe:Obj}{vs:Array Za}(e:h.get? a=some oe)(c:oe.cls=.ref C)(d:oe.data=.fields vs)(v:vs[1]?=some tv)(v2:vs[2]?=some .none)(v3:oe.dict=dd):JG P w H h a (ExF a C tv dd) :=
 ⟨⟨oe,vs,e,c,d,v,v2,v3⟩,⟨oe,e⟩,λ _ _ ⟨o,us,e1,r⟩ k=>⟨o,us,k _ e1,r⟩⟩
theorem ExF.get {P:Z5}{w:ZP}{H:Hp}{h:Zag}{a C:Zd}{tv:Za}{d:Option Zd}(x:HOk P w H h)(e:H a=some (ExF a C tv d)):∃oe vs,h.get? a=some oe/\oe.cls=.ref C/\oe.data=.fields vs/\vs[1]?=some tv/\vs[2]?=some .none/\oe.dict=d :=
 (x a _ e).1
theorem Jrt (o:Obj)(f:Array Za->Array Za):(o.mapFields f).dict=o.dict:=by
 unfold ZaE
 split<;>rfl
theorem J17 {P:Z5}{w:ZP}{H:Hp}{h:Zag}{a:Zd}:∀{o:HO},JG P w H h a o->∃u,h.get? a=some u
 | .lst _,⟨_,_,_,_,e⟩=>⟨_,e⟩
 | .tup _,⟨_,_,_,⟨_,e,_⟩⟩=>⟨_,e⟩
 | .dK _,⟨_,_,_,_,o,_,_,e,_⟩=>⟨o,e⟩
 | .dT _,⟨_,_,_,_,o,_,_,e,_⟩=>⟨o,e⟩
 | .set _ _,⟨o,_,_,_,e,_⟩=>⟨o,e⟩
 | .ins _ _ _,⟨_,_,_,e,_⟩=>⟨_,e⟩
 | .own _,⟨_,e⟩=>⟨_,e⟩
 | .xd _,⟨_,⟨_,_,_,e,_⟩,_⟩=>⟨_,e⟩
 | .rng _ _,⟨_,_,_,e⟩=>⟨_,e⟩
 | .frz _ _,⟨e,_⟩=>⟨_,e⟩
 | .tbl _,e=>⟨_,(show h.get? a=some _ from e)⟩
 | .met _ _,e=>⟨_,(show h.get? a=some _ from e)⟩
 | .ext _,⟨_,⟨_,e⟩,_⟩=>⟨_,e⟩
theorem Jtj {h:Zag}{T:Zd}{oT:Obj}{ts:Array Za}{v:Za}(e:h.get? T=some oT)(d:oT.data=.fields ts)(q:ts[3]?=some v):(h.update T (ZaE (·.setIfInBounds 3 v))).get? T=some oT:=by
 have es:ts.setIfInBounds 3 v=ts:=by
  refine Array.ext (by simp) λ i h1 h2=>?_
  rw[Array.getElem_setIfInBounds]
  split
  ·rename_i z
   subst z
   rw[Zcd h2] at q
   exact(Zab q).symm
  ·rfl
 have eo:ZaE (·.setIfInBounds 3 v) oT=oT:=by
  obtain⟨c,dd,dt,sl⟩:=oT
  have d:dt=.fields ts:=d
  subst d
  simp only[ZaE,es]
 rw[Za2 _ e (by rw[eo];exact ZcF d),eo]
section
variable {X:Cx}{pins:List (Zd×Obj)}{σ:L2.St}{H:Hp}{s:Zc}{M:Model}{E:Za->Zc->Prop}{Q:Unit->Zc->Prop}{a C:Zd}{tv:Za}{d:Option Zd}{h3:Zag}{s1:Zc}
structure Past (X:Cx)(H:Hp)(h:Zag)(a C:Zd)(d:Option Zd)(T:Zd)(oT:Obj)(h':Zag):Prop where
 new:H T=none
 ne:T≠a
 fld:∃ts,oT.data=.fields ts/\ts[3]?=some .none
 un:Un (frs X.stack) [] H (upd (upd H T (.frz oT (.own 0))) a (ExF a C (.ref T) d)) h h'
 hok:HOk X.prog X.w (upd (upd H T (.frz oT (.own 0))) a (ExF a C (.ref T) d)) h'
theorem Jo2 (I:Inv X pins σ H s)(hs:X.stack=X.env::X.outer)(hf:X.env.frame=some X.env.locals)(ha:H a=some (ExF a C tv d))(ht:TvOk H tv)
  (k:∀h3,Noted X.env.locals (frs X.stack) a s.heap h3->Q () { s with heap:=h3 }):Zs M X.A (ZdA (.ref a) X.env) Q E s:=by
 obtain⟨oe,vs,e1,e2,e3,e4,e5,e6⟩:=ExF.get I.hok ha
 have hfa:a∉frs X.stack:=λ z=>by rw[I.stkFree a z] at ha;cases ha
 have fr:=I.ok.frames
 have ff:s.heap.FunFrames X.base X.stack:=I.stack
 have len1:1<vs.size:=(Zbq.mp e4).1
 have go:∀(h:Zag){head:Za}{hn:Bool},(∀b,h.get? b=s.heap.get? b)->Zs M X.A (do let f<-frameOf X.env;let pl<-entryPlaceOf X.env.locals hn;let b<-EntryCells.newEntry head f .none (ZbG X.env.locals) .none pl;setField (.ref a) 1 b) Q E { s with heap:=h }:=by
  intro h head hn hh
  have ffh:h.FunFrames X.base X.stack:=ff.of_keeps λ b o q _=>⟨o,(hh b).trans q,rfl⟩
  rw[hs] at fr ffh
  refine Ze (wpAny_frameOf_fun (s:={ s with heap:=h }) fr ffh hf λ h1 so=>?_)
  have he1:h1.get? a=some oe:=(so.2.1 a (by rw[hs] at hfa;exact hfa)).trans ((hh a).trans e1)
  refine Ze (wpAny_entryPlaceOf λ pl hpl=>?_)
  unfold EntryCells.newEntry newFields
  refine Ze (wpAny_newObj_type ?_ (hpl.sizeOk5 _ _ _ _ _))
  have t3:([head,Zdi X.env.locals,ZR,ZbG X.env.locals,ZR]++(if pl.isEmpty then ZJ 6 ZR else pl)).toArray[3]?=some (ZbG X.env.locals):=by simp
  generalize ([head,Zdi X.env.locals,ZR,ZbG X.env.locals,ZR]++(if pl.isEmpty then ZJ 6 ZR else pl)).toArray=ts at t3 ⊢
  have lt2:∀b o,h1.get? b=some o->b≠h1.objs.size:=λ b o q=>Z1 (Zv q)
  have nT:h1.objs.size≠a:=ZK (lt2 a _ he1)
  have up2:∀b o,h1.get? b=some o->(h1.push { cls:=.type "traceback",dict:=none,data:=.fields ts }).get? b=some o:=λ b o q=>Zg _ q
  have gT2:(h1.push { cls:=.type "traceback",dict:=none,data:=.fields ts }).get? h1.objs.size=some { cls:=.type "traceback",dict:=none,data:=.fields ts }:=Zw h1 rfl
  refine Zdo (up2 _ _ he1) e3 len1 (k _ ⟨⟨oe,vs,h1.objs.size,ts,e1,e3,len1,Za2 _ (up2 _ _ he1) (ZcF (ZaL e3 _)),nT,?_,(Zr _ _ (ZK nT)).trans gT2,t3⟩,λ b o q n=>?_,λ b o q n m=>?_⟩)
  ·cases q:s.heap.get? h1.objs.size with
   | none=>rfl
   | some o =>
    obtain⟨sl,z⟩:=so.2.2 _ _ ((hh _).trans q)
    exact absurd rfl (lt2 _ _ z)
  ·obtain⟨sl,z⟩:=so.2.2 _ _ ((hh b).trans q)
   exact⟨sl,(Zr _ _ (ZK n)).trans (up2 _ _ z)⟩
  ·exact(Zr _ _ (ZK n)).trans (up2 _ _ ((so.2.1 b (by rw[hs] at m;exact m)).trans ((hh b).trans q)))
 unfold ZdA
 rw[hf]
 refine Ze (Zc0 e1 e3 e4 ?_)
 rcases ht with rfl|⟨T,oT,ts,rfl,q1,q2,q3⟩
 ·rw[if_neg (by decide)]
  exact go s.heap λ _=>rfl
 ·have gT:s.heap.get? T=some oT:=(I.hok T _ q1).1
  rw[if_pos (by simp)]
  refine Ze (Zc0 gT q2 q3 ?_)
  rw[if_neg (by simp[ZbG])]
  refine Ze (Zdo gT q2 (Zbq.mp q3).1 ?_)
  refine go _ λ b=>?_
  by_cases z:b=T
  ·subst z
   exact(Jtj gT q2 q3).trans gT.symm
  ·exact Zr _ _ (ZK z)
theorem Jhm {A:ZI}{env:Env}{fs:List Zd}{h:Zag}(hf:env.frame=some env.locals)(n:Noted env.locals fs a h h3)(q:Q () { s with heap:=h3 }):Zs M A (ZdA (.ref a) env) Q E { s with heap:=h3 }:=by
 obtain⟨⟨oe,vs,T,ts,g1,g2,g3,g4,g5,g6,g7,g8⟩,_,_⟩:=n
 unfold ZdA
 rw[hf]
 refine Ze (Zc0 (x:=.ref T) g4 (ZaL g2 _) (by simp[g3]) ?_)
 rw[if_pos (by simp)]
 refine Ze (Zc0 g7 rfl g8 ?_)
 rw[if_pos (by simp)]
 exact Zu q
theorem Jqo {A:ZI}{env:Env}{fs:List Zd}{h:Zag}(hf:env.frame=some env.locals)(n:Noted env.locals fs a h h3)(k:∀h4,Noted env.locals fs a h h4->E (.ref a) { s with heap:=h4 }):cameBackBy M A env E (.ref a) { s with heap:=h3 }:=by
 obtain⟨⟨oe,vs,T,ts,g1,g2,g3,g4,g5,g6,g7,g8⟩,sl,kp⟩:=n
 unfold cameBackBy
 refine Ze (Zc0 (x:=.ref T) g4 (ZaL g2 _) (by simp[g3]) ?_)
 rw[if_neg (by simp)]
 rw[hf]
 unfold Ze7
 refine Ze (Zc0 (x:=.ref T) g4 (ZaL g2 _) (by simp[g3]) ?_)
 rw[if_pos (by simp)]
 refine Zdo g7 rfl (Zbq.mp g8).1 ?_
 have up:∀b o,h3.get? b=some o->(h3.update T (ZaE (·.setIfInBounds 3 (ZbG env.locals)))).get? b=some o:=λ b o q=>by
  by_cases z:b=T
  ·subst z
   rw[g7] at q
   cases q
   exact Jtj g7 rfl g8
  ·exact(Zr _ _ (ZK z)).trans q
 exact k _ ⟨⟨oe,vs,T,ts,g1,g2,g3,up _ _ g4,g5,g6,up _ _ g7,g8⟩,λ b o q n=>let ⟨s',z⟩:=sl b o q n;⟨s',up _ _ z⟩,λ b o q n m=>up _ _ (kp b o q n m)⟩
theorem Ji0 {L:Zd}(I:Inv X pins σ H s)(ha:H a=some (ExF a C tv d))(n:Noted L (frs X.stack) a s.heap h3)(k:∀T oT h',Past X H s.heap a C d T oT h'->Q () { s with heap:=h' }):Zs M X.A (Ze7 (.ref a) none) Q E { s with heap:=h3 }:=by
 obtain⟨⟨oe,vs,T,ts,g1,g2,g3,g4,g5,nT,g7,g8⟩,sl,kp⟩:=n
 obtain⟨oe',vs',x1,x2,x3,x4,x5,x6⟩:=ExF.get I.hok ha
 rw[g1] at x1
 cases x1
 rw[g2] at x3
 cases x3
 have hok:=I.hok
 have hfr:∀b∈frs X.stack,H b=none:=I.stkFree
 have hT:H T=none:=by
  cases q:H T with
  | none=>rfl
  | some u =>
   obtain⟨o,z⟩:=J17 (hok T u q)
   rw[nT] at z
   cases z
 have tz:3<ts.size:=(Zbq.mp g8).1
 unfold Ze7
 refine Ze (Zc0 (x:=.ref T) g4 (ZaL g2 _) (by simp[g3]) ?_)
 rw[if_pos (by simp)]
 refine Zdo g7 rfl tz ?_
 have e1:=(Zr h3 (ZaE (·.setIfInBounds 3 ((none:Option Zd).elim ZR λ f=>ZbG f))) g5).trans g4
 have e7:=Za2 (ZaE (·.setIfInBounds 3 ((none:Option Zd).elim ZR λ f=>ZbG f))) g7 (ZcF (ZaL rfl _))
 have d7:=ZaL (o:={ cls:=.type "traceback",dict:=none,data:=.fields ts }) rfl (·.setIfInBounds 3 ((none:Option Zd).elim ZR λ f=>ZbG f))
 have lt:∀b o,s.heap.get? b=some o->T≠b:=λ b o q z=>by rw[z,q] at nT;cases nT
 have keep:∀b o,s.heap.get? b=some o->b≠a->b∉frs X.stack->(h3.update T (ZaE (·.setIfInBounds 3 ((none:Option Zd).elim ZR λ f=>ZbG f)))).get? b=some o:=λ b o q n1 n2=>(Zr _ _ (lt b o q)).trans (kp b o q n1 n2)
 have slot:∀b o,s.heap.get? b=some o->b≠a->∃sl,(h3.update T (ZaE (·.setIfInBounds 3 ((none:Option Zd).elim ZR λ f=>ZbG f)))).get? b=some { o with slots:=sl }:=λ b o q n1=>let ⟨s',z⟩:=sl b o q n1;⟨s',(Zr _ _ (lt b o q)).trans z⟩
 generalize h3.update T (ZaE (·.setIfInBounds 3 ((none:Option Zd).elim ZR λ f=>ZbG f)))=h' at e1 e7 keep slot
 generalize ZaE (·.setIfInBounds 3 ((none:Option Zd).elim ZR λ f=>ZbG f)) { cls:=.type "traceback",dict:=none,data:=.fields ts }=oT at e7 d7
 have na:∀{b:Zd}{u:HO},H b=some u->(∀φ,u≠.ext φ)->b≠a:=λ {b u} q n z=>by
  subst z
  rw[ha] at q
  cases q
  exact n _ rfl
 have nTb:∀{b:Zd}{u:HO},H b=some u->b≠T:=λ {b u} q z=>by
  subst z
  rw[hT] at q
  cases q
 have up:∀{b:Zd}{u:HO},H b=some u->(∀φ,u≠.ext φ)->upd (upd H T (.frz oT (.own 0))) a (ExF a C (.ref T) d) b=some u:=λ {b u} q n=>by
  rw[Jp (na q n),Jp (nTb q)]
  exact q
 have fa:a∉frs X.stack:=λ z=>by rw[hfr a z] at ha;cases ha
 refine k T oT h' ⟨hT,g5,⟨_,d7,by simp[tz]⟩,⟨λ b o q n hb _=>keep b o q (λ z=>by subst z;rw[ha] at n;cases n) hb,λ b o q _ hb _=>slot b o q (λ z=>fa (z▸hb)),λ b o q n _=>?_,λ b o q _=>?_,λ b xs q=>up q nofun,λ b o u q=>up q nofun,λ b ps q=>⟨#[],by rw[up q nofun];simp⟩⟩,λ b u q=>?_⟩
 ·rw[Jp (λ z=>by subst z;rw[ha] at n;cases n),Jp (λ z=>by subst z;rw[nT] at q;cases q)]
  exact n
 ·by_cases z:b=a
  ·subst z
   exact⟨_,e1⟩
  ·obtain⟨sl,w⟩:=slot b o q z
   exact⟨_,w⟩
 ·by_cases z:b=a
  ·subst z
   rw[J7] at q
   cases q
   exact ExF.ok e1 ((Obj.cls_mapFields _ _).trans x2) (ZaL g2 _) (by simp[g3]) (by rw[Array.getElem?_setIfInBounds_ne (by decide)];exact x5) ((Jrt _ _).trans x6)
  ·rw[Jp z] at q
   by_cases y:b=T
   ·subst y
    rw[J7] at q
    cases q
    exact⟨e7,⟨oT,e7⟩⟩
   ·rw[Jp y] at q
    refine(hok b u q).stay (λ c v hc p=>?_) (λ c p=>up p nofun) λ c xs p=>up p nofun
    refine keep c v p ?_ ?_
    ·rcases hc with rfl|hc
     ·exact z
     ·exact na hc nofun
    ·intro m
     rcases hc with rfl|hc
     ·rw[hfr _ m] at q;cases q
     ·rw[hfr _ m] at hc;cases hc
theorem Ju7 (I:Inv X pins σ H s)(fl:Fly X.env.locals (frs X.stack) a s s1)(hs:X.stack=X.env::X.outer)(hf:X.env.frame=some X.env.locals)(ha:H a=some (ExF a C tv d))(ht:TvOk H tv)
  (k:∀T oT h',Past X H s.heap a C d T oT h'->Q () { s with heap:=h' }):Zs M X.A (ZdA (.ref a) X.env) (λ _ s'=>Zs M X.A (Ze7 (.ref a) none) Q E s') E s1:=by
 rcases fl with rfl|⟨h',rfl,n⟩
 ·exact Jo2 I hs hf ha ht λ h3 n=>Ji0 I ha n k
 ·exact Jhm hf n (Ji0 I ha n k)
theorem Jsn (I:Inv X pins σ H s)(fl:Fly X.env.locals (frs X.stack) a s s1)(hs:X.stack=X.env::X.outer)(hf:X.env.frame=some X.env.locals)(ha:H a=some (ExF a C tv d))(ht:TvOk H tv)
  (k:∀T oT h',Past X H s.heap a C d T oT h'->Q () { s with heap:=h' }):Zs M X.A (leaving X.env (.ref a)) Q E s1:=by
 unfold leaving
 exact Ze (Ju7 I fl hs hf ha ht k)
end
def CXI (P:Z5)(w:ZP):CXT:=λ outer H s E e s'=>∃H',s'.os=s.os/\Zdg s'.gens/\Un (frs outer) [] H H' s.heap s'.heap/\HOk P w H' s'.heap/\E e none H'
theorem Un.tail {L:Zd}{fs:List Zd}{H H1 H2:Hp}{h h1 h2:Zag}(a:Un fs [] H H1 h h1)(b:Un (L::fs) [] H1 H2 h1 h2)(n:h.get? L=none):Un fs [] H H2 h h2 where
 keep:=λ c o q m hc _=>b.keep c o (a.keep c o q m hc (by simp)) (a.free c o q m (by simp)) (λ z=>(Z4.mp z).elim (λ y=>by subst y;rw[n] at q;cases q) hc) (by simp)
 slot:=λ c o q m hc _=>by
  obtain⟨sl,e1⟩:=a.slot c o q m hc (by simp)
  obtain⟨sl',e2⟩:=b.any e1 (a.free c o q m (by simp)) (by simp)
  exact⟨sl',e2⟩
 free:=λ c o q m _=>by
  obtain⟨o',e1⟩:=a.there c o q (by simp)
  exact b.free c o' e1 (a.free c o q m (by simp)) (by simp)
 there:=λ c o q _=>by
  obtain⟨o',e1⟩:=a.there c o q (by simp)
  exact b.there c o' e1 (by simp)
 tups:=λ c xs q=>b.tups c xs (a.tups c xs q)
 frzs:=λ c o u q=>b.frzs c o u (a.frzs c o u q)
 tbls:=λ c ps q=>by
  obtain⟨m1,e1⟩:=a.tbls c ps q
  obtain⟨m2,e2⟩:=b.tbls c _ e1
  exact⟨m1++m2,by rw[e2,Array.append_assoc]⟩
section
variable {X:Cx}{pins:List (Zd×Obj)}{σ:L2.St}{H:Hp}{s:Zc}{k:Nat}{f C:Zd}{fd:Zax}{ps:List Str}{sp:Sp}{dvs:List V}{ds:List Za}{E:XK}{Q:VK}{us:List Za}{vs:List V}{W:Za->Zc->Prop}
theorem Jxc {e:Za}{s':Zc}(I:Inv X pins σ H s)(h:CXI X.prog X.w X.stack H s E e s'):∃H',Inv X pins σ H' s'/\E e none H':=by
 obtain⟨H',os,bare,un,hok,q⟩:=h
 exact⟨H',I.call' os un hok bare λ b z=>absurd z (by simp),q⟩
theorem Jzr (F:FnOk X.prog X.w X.K X.mg X.base (CXI X.prog X.w) k f fd ps sp)(hr:Room k X.A)(hb:Qf X.K fd ps ds)(hd:Vals dvs ds)(I:Inv X pins σ H s)(r:Vals vs us)(h:sp (vs++dvs) H Q E)
  (hx:∀e s' H',Inv X pins σ H' s'->E e none H'->W e s'):Zs (Z6 X.prog X.w) X.A (call (.ref f) us) (EP X pins σ Q) W s:=by
 have ra:Vals (vs++dvs) (us++ds):=r.append hd
 have la:=ra.length
 have lf:=F.len _ _ _ _ h
 refine Zeu (ZcA (F.run _ _ _ _ ⟨us,[]⟩ _ _ _ _ hr I.env0 (hb s us I.kIn (by omega)) ra h) λ res s' q=>?_)
 match res,q with
 | .error e,q =>
  obtain⟨H',I',z⟩:=Jxc I q
  exact hx e s' H' I' z
 | .ok (.ret u),q=>exact I.after q
 | .ok .next,q=>exact Zbp q
 | .ok .brk,q=>exact Zbp q
 | .ok .cont,q=>exact Zbp q
theorem Js9 (M:Mk X.K C f)(F:FnOk X.prog X.w X.K X.mg X.base (CXI X.prog X.w) k f fd ps sp)(hr:Room (k+1) X.A)(hb:Qf X.K fd ps ds)(hd:Vals dvs ds)(I:Inv X pins σ H s)(r:Vals vs us)
  (h:∀x dx,H x=none->H dx=none->dx≠x->sp (.ref x::(vs++dvs)) (upd (upd H dx (.own x)) x (.ins C dx [])) (λ v H2=>v=.non/\Q (.ref x) H2) E)
  (hx:∀e s' H',Inv X pins σ H' s'->E e none H'->W e s'):Zs (Z6 X.prog X.w) X.A (call (.ref C) us) (EP X pins σ Q) W s:=by
 have z0:=s.heap.objs.size
 have hq:=h (s.heap.objs.size+1) s.heap.objs.size (I.hok.fresh (Zbb _)) (I.hok.fresh (Zl _)) (Z1 (Zaz _))
 have J:=Inv.made (C:=C) I
 have ra:Vals (V.ref (s.heap.objs.size+1)::(vs++dvs)) (Zdi (s.heap.objs.size+1)::(us++ds)):=.cons rfl (r.append hd)
 have la:=ra.length
 have lf:=F.len _ _ _ _ hq
 have hl:(Zdi (s.heap.objs.size+1)::us++ds).length=ps.length:=by
  rw[ZV]
  omega
 refine Zeu (Ju3 (f:=f) I.kIn M.makes M.init (beq_iff_eq.mp M.fn) (ZcA (F.run _ _ _ _ ⟨.ref (s.heap.objs.size+1)::us,[]⟩ _ _ _ _ (hr.make C us []) (J.env0.make C us []) (hb _ (.ref (s.heap.objs.size+1)::us) J.kIn hl) ra hq) λ res s' q=>?_))
 match res,q with
 | .error e,q =>
  obtain⟨H',I',z⟩:=Jxc J q
  exact hx e s' H' I' z
 | .ok (.ret u),q =>
  obtain⟨v,H',J3,rv,ev,q3⟩:=J.after q
  subst ev
  exact⟨rv,⟨V.ref (s.heap.objs.size+1),H',J3,rfl,q3⟩⟩
 | .ok .next,q=>exact Zbp q
 | .ok .brk,q=>exact Zbp q
 | .ok .cont,q=>exact Zbp q
end
structure ItI where
 xs:List IV
 chk:IH->Prop
open Classical in
def Qb (chk:IH->Prop)(g:G1)(b:S1):List IV->ISt->IH->SRes
 | [],σ,h=>if chk h then .next σ h else .stuck
 | x::xs,σ,h=>if chk h then(match g x σ h with
   | .next σ1 h1=>(match b σ1 h1 with
    | .next σ2 h2=>Qb chk g b xs σ2 h2
    | .cont σ2 h2=>Qb chk g b xs σ2 h2
    | .brk σ2 h2=>.next σ2 h2
    | .ret v h2=>.ret v h2
    | .exc n σ2 h2=>(match h2[n]? with
     | some (.exc _ _)=>.exc n σ2 h2
     | _=>.stuck)
    | _=>.stuck)
   | _=>.stuck) else .stuck
abbrev I1:=ISt->IH->Res ItI
def sFor (it:I1)(g:G1)(b:S1):S1:=λ σ h=>rS σ (it σ h) λ J h'=>Qb J.chk g b J.xs σ h'
structure ItOk (ce:Str->Option Zd)(K:W.Frag)(ι:List Zd)(H₀:Hp)(J:It)(I:ItI):Prop where
 go:∀(k:Nat)(x:IV)(h:IH)(H:Hp)(ι':List Zd),Nxt ι H₀ ι' H->Rel ce K ι' h H->I.chk h->I.xs[k]?=some x ->
  J.go k H/\∀y H',J.yld k H y H'->Rel ce K ι' h H'/\Nxt ι' H ι' H'/\RV K ι' H' x y
 stop:∀(k:Nat)(h:IH)(H:Hp)(ι':List Zd),Nxt ι H₀ ι' H->Rel ce K ι' h H->I.chk h->I.xs.length<=k->J.stop k H
theorem Rel.get {ce:Str->Option Zd}{K:W.Frag}{ι:List Zd}{h:IH}{H:Hp}(R:Rel ce K ι h H){i:Nat}{o:IO}(e:h[i]?=Zby o){a:Zd}(ha:ι[i]?=Zby a):RO ce K ι H a o:=by
 obtain⟨b,e1,r⟩:=R.at_ i o e
 rw[ha] at e1
 cases e1
 exact r
def RIt (ce:Str->Option Zd)(X:Cx)(tg:Expr)(pins:List (Zd×Obj))(ι':List Zd)(I:ItI)(itv:Za)(s2:Zc)(H':Hp):Prop :=
 ∃(it:Zd)(fp:List Zd)(tn:Nat->Zag->Prop)(J:It),itv=.ref it/\Turn X.prog X.w X.K tg J fp it tn/\tn 0 s2.heap/\(∀b∈fp,FpOk X pins H' b)/\ItOk ce X.K ι' H' J I
def PIi (ce:Str->Option Zd)(X:Cx)(tg iter:Expr)(m:I1):Prop :=
 ∀(pins:List (Zd×Obj))(s:Zc)(σ:L2.St)(H:Hp)(ι:List Zd)(σi:ISt)(h:IH)(Q:Za->Zc->Prop)(E:Za->Zc->Prop),Now ce X pins ι σi h σ H s ->
  (match m σi h with
   | .ok I h'=>∀itv s' H' ι',Now ce X pins ι' σi h' σ H' s'->Nxt ι H ι' H'->RIt ce X tg pins ι' I itv s' H'->Q itv s'
   | .exc n h'=>∀pl a s' H' ι',Now ce X (pins++pl) ι' σi h' σ H' s'->Nxt ι H ι' H'->ι'[n]?=some a->E (.ref a) s'
   | .stuck=>False) ->
  Zs (Z6 X.prog X.w) X.A (ZaK iter X.env) (λ v s1=>Zs (Z6 X.prog X.w) X.A (Zeb v) Q E s1) E s
section
variable {ce:Str->Option Zd}{X:Cx}
theorem nof {M:Model}{A:ZI}{α:Type}{t:Sem α}{Q:α->Zc->Prop}{E:Za->Zc->Prop}{s:Zc}(h:Zs M A t Q (λ _ _=>False) s):Zs M A t Q E s:=Zae h (λ _ _ x=>x) λ _ _ z=>z.elim
theorem Now.pins {pins:List (Zd×Obj)}{pl:List (Zd×Obj)}{ι:List Zd}{σi:ISt}{h:IH}{σ:L2.St}{H:Hp}{s:Zc}(N:Now ce X (pins++pl) ι σi h σ H s):Now ce X pins ι σi h σ H s:=⟨N.inv.unpinned,N.rel,N.st⟩
theorem J42 {tg iter:Expr}{body:List ZcY}{mi:I1}{g:G1}{mb:S1}{pos:Pos}(hc:X.calm=true)(hst:X.stack=X.env::X.outer)(hf:X.env.frame=some X.env.locals)(hi:PIi ce X tg iter mi)(hg:PGi ce X tg g)(hb:PS2 ce X body mb)
  (hs:∀x,ZbR iter X.env x=pure x:=by intro _;rfl):PS1 ce X (.For tg iter body [] pos) (sFor mi g mb):=by
 intro pins s σ H ι σi h Q E N K
 refine wpAny_For (hi pins s σ H ι σi h _ E N ?_) hs
 unfold sFor at K
 cases e0:mi σi h with
 | exc n h'=>rw[e0] at K;exact λ pl a s' H' ι' N' n' q=>K pl a s' σ H' ι' N' n' q s' (.inl rfl)
 | stuck=>rw[e0] at K;exact K
 | ok I h' =>
  rw[e0] at K
  intro itv s2 H2 ι2 N2 n2 R
  obtain⟨it,fp,tn,J,e,T,st2,f2,OK⟩:=R
  subst e
  have stat:∀{H':Hp},(∀b∈fp,H' b=none)->∀b∈fp,FpOk X pins H' b:=λ hn b hb=>⟨hn b hb,(f2 b hb).2⟩
  have K2:JF ce X pins ι2 H2 (Qb I.chk g mb I.xs σi h') Q E:=JF.mono (r:=Qb I.chk g mb I.xs σi h') K n2
  refine codeAny_forLoop_any (λ n s'=>∃k ιk σk hk σ' H',Now ce X pins ιk σk hk σ' H' s'/\Nxt ι2 H2 ιk H'/\tn k s'.heap/\(∀b∈fp,H' b=none)/\n=I.xs.length-k/\k<=I.xs.length/\JF ce X pins ιk H' (Qb I.chk g mb (I.xs.drop k) σk hk) Q E) ?_ I.xs.length
   ⟨0,ι2,σi,h',σ,H2,N2,.refl,st2,λ b hb=>(f2 b hb).1,by simp,ZT _,by simpa using K2⟩
  rintro n s3 ⟨k,ιk,σk,hk,σ3,H3,N3,n3,st3,fr3,rfl,hkl,K3⟩
  by_cases hlt:k<I.xs.length
  ·-- a turn
   have hd:I.xs.drop k=I.xs[k]::I.xs.drop (k+1):=Za8 hlt
   rw[hd] at K3
   unfold Qb at K3
   split at K3
   ·rename_i hck
    obtain⟨go,yl⟩:=OK.go k I.xs[k] hk H3 ιk n3 N3.rel hck (Zb hlt)
    refine nof (thn (T.item X rfl rfl rfl hc k pins s3 σ3 H3 (λ _ _=>False) N3.inv (stat fr3) st3 go) λ r s4 ⟨u,hr,h4⟩=>?_)
    subst hr
    refine nof (thn h4 λ _ s5 ⟨x,H5,I5,r5,y5,st5,fr5⟩=>?_)
    obtain⟨R5,n5,q5⟩:=yl x H5 y5
    have I5':=I5.pinned (stat fr5) (T.obj _ _ st5)
    have N5:Now ce X (pins++QE fp s5.heap) ιk σk hk σ3 H5 s5:=⟨I5',R5,N3.st.mono n5⟩
    cases eg:g I.xs[k] σk hk with
    | next σg hgg =>
     rw[eg] at K3
     dsimp only at K3
     refine nof (hg _ s5 σ3 H5 ιk σk hk _ u (λ _ s6=>Zs (Z6 X.prog X.w) X.A (execs body X.env) _ _ s6) (λ _ _=>False) N5 ⟨x,r5,q5⟩ ?_)
     rw[eg]
     intro s6 σ6 H6 ι6 N6 n6
     refine hb _ s6 σ6 H6 ι6 σg hgg _ _ N6 ?_
     have again:∀{σ7:L2.St}{H7:Hp}{s7:Zc}{σ7i:ISt}{h7:IH}{ι7:List Zd},Now ce X (pins++QE fp s5.heap) ι7 σ7i h7 σ7 H7 s7->Nxt ι6 H6 ι7 H7->JF ce X pins ιk H3 (Qb I.chk g mb (I.xs.drop (k+1)) σ7i h7) Q E ->
       ∃m,m<I.xs.length-k/\∃k ιk σk hk σ' H',Now ce X pins ιk σk hk σ' H' s7/\Nxt ι2 H2 ιk H'/\tn k s7.heap/\(∀b∈fp,H' b=none)/\m=I.xs.length-k/\k<=I.xs.length/\JF ce X pins ιk H' (Qb I.chk g mb (I.xs.drop k) σk hk) Q E :=
      λ {σ7 H7 s7 σ7i h7 ι7} N7 n7 K7=>by
       have nn:Nxt ιk H3 ι7 H7:=(n5.trans n6).trans n7
       refine⟨I.xs.length-(k+1),by omega,k+1,ι7,σ7i,h7,σ7,H7,N7.pins,n3.trans nn,T.keep _ _ _ st5 λ b hb o e=>(N7.inv.pin (b,o) (Zj _ (Zj _ (Yl hb e)))).1,λ b hb=>?_,rfl,hlt,K7.mono nn⟩
       obtain⟨o,e,d⟩:=T.obj _ _ st5 b hb
       exact(N7.inv.pin (b,o) (Zj _ (Zj _ (Yl hb e)))).2.1
     cases eb:mb σg hgg with
     | next σ7i h7 =>
      rw[eb] at K3
      exact λ s7 σ7 H7 ι7 N7 n7=>again N7 n7 K3
     | cont σ7i h7 =>
      rw[eb] at K3
      exact λ s7 σ7 H7 ι7 N7 n7=>again N7 n7 K3
     | brk σ7i h7 =>
      rw[eb] at K3
      exact λ s7 σ7 H7 ι7 N7 n7=>K3 s7 σ7 H7 ι7 N7.pins ((n5.trans n6).trans n7)
     | ret v h7 =>
      rw[eb] at K3
      exact λ u s7 σ7i σ7 H7 ι7 N7 n7 r=>K3 u s7 σ7i σ7 H7 ι7 N7.pins ((n5.trans n6).trans n7) r
     | exc n σ7i h7 =>
      rw[eb] at K3
      dsimp only at K3
      cases hj:h7[n]? with
      | none=>rw[hj] at K3;exact Zf K3
      | some ob =>
       cases ob with
       | exc c fs =>
        rw[hj] at K3
        intro pl a s7 σ7 H7 ι7 N7 n7 q s8 fl
        obtain⟨C,tv,d,fe,hC,ha,ht⟩:=N7.rel.get hj q
        have back:∀h8,Noted X.env.locals (frs X.stack) a s7.heap h8->cameBackBy (Z6 X.prog X.w) X.A X.env E (.ref a) { s7 with heap:=h8 }:=λ h8 n8 =>
         Jqo hf n8 λ h9 n9=>K3 (QE fp s5.heap++pl) a s7 σ7 H7 ι7 (by rw[<- ZQ];exact N7) ((n5.trans n6).trans n7) q _ (.inr ⟨h9,rfl,n9⟩)
        rcases fl with rfl|⟨h8,rfl,n8⟩
        ·exact Jo2 N7.inv hst hf ha ht back
        ·exact Jhm hf n8 (back h8 n8)
       | _=>rw[hj] at K3;exact Zf K3
     | stuck=>rw[eb] at K3;exact Zf K3
    | _=>rw[eg] at K3;exact Zf K3
   ·exact Zf K3
  ·have hke:I.xs.drop k=[]:=ZcB (by omega)
   rw[hke] at K3
   unfold Qb at K3
   split at K3
   ·rename_i hck
    have stop:=OK.stop k hk H3 ιk n3 N3.rel hck (by omega)
    refine nof (thn (T.done X rfl rfl rfl hc k pins s3 σ3 H3 (λ _ _=>False) N3.inv (stat fr3) st3 stop) λ r s4 ⟨hr,I4⟩=>?_)
    subst hr
    exact ZcZ (K3 s4 σ3 H3 ιk ⟨I4,N3.rel,N3.st⟩ .refl)
   ·exact Zf K3
noncomputable def itOf:IV->IH->Res ItI
 | .ref i,h=>match h[i]? with
  | some (.lst xs)=>.ok ⟨xs,λ h'=>h'[i]?=some (.lst xs)⟩ h
  | _=>.stuck
 | .rol xs,h=>.ok ⟨xs,λ _=>True⟩ h
 | .tup xs,h=>.ok ⟨xs,λ _=>True⟩ h
 | _,_=>.stuck
def iVal (e:E1):I1:=λ σ h=>(e σ h).bind itOf
variable {tg:Expr}
theorem J1j {a:Zd}{i:Nat}{xs:List IV}{ι:List Zd}{H₀:Hp}(ha:ι[i]?=some a):ItOk ce X.K ι H₀ (Itl X.K a) ⟨xs,λ h'=>h'[i]?=some (.lst xs)⟩:=by
 refine⟨λ k x h H ι' hp R hck hx=>?_,λ k h H ι' hp R hck hx=>?_⟩
 ·obtain⟨vs,e1,r1⟩:=R.get hck (hp.at ha)
  obtain⟨v,hv,qv⟩:=r1.get hx
  refine⟨⟨vs,v,SqL.of e1,hv⟩,λ y H' hy=>?_⟩
  obtain⟨rfl,hy⟩:=hy
  have:=hy vs (SqL.of e1)
  rw[hv] at this
  cases this
  exact⟨R,.refl,qv⟩
 ·obtain⟨vs,e1,r1⟩:=R.get hck (hp.at ha)
  exact⟨vs,SqL.of e1,by rw[r1.length];exact hx⟩
theorem J1k {a:Zd}{xs:List IV}{vs:List V}{ι:List Zd}{H₀:Hp}(sa:SqR X.K H₀ a vs)(ra:RVs X.K ι H₀ xs vs):ItOk ce X.K ι H₀ (Itl X.K a) ⟨xs,λ _=>True⟩:=by
 refine⟨λ k x h H ι' hp R hck hx=>?_,λ k h H ι' hp R hck hx=>?_⟩
 ·obtain⟨v,hv,qv⟩:=ra.get hx
  have sq:=(hp.ext.sqR sa).sq
  refine⟨⟨vs,v,sq,hv⟩,λ y H' hy=>?_⟩
  obtain⟨rfl,hy⟩:=hy
  have:=hy vs sq
  rw[hv] at this
  cases this
  exact⟨R,.refl,RV.mono hp _ _ qv⟩
 ·exact⟨vs,(hp.ext.sqR sa).sq,by rw[ra.length];exact hx⟩
theorem J1l {a:Zd}{xs:List IV}{vs:List V}{ι:List Zd}{H₀:Hp}(sa:SqT X.K H₀ a vs)(ra:RVs X.K ι H₀ xs vs):ItOk ce X.K ι H₀ (Itt X.K a) ⟨xs,λ _=>True⟩:=by
 refine⟨λ k x h H ι' hp R hck hx=>?_,λ k h H ι' hp R hck hx=>?_⟩
 ·obtain⟨v,hv,qv⟩:=ra.get hx
  have sq:=hp.ext.sqT sa
  refine⟨⟨vs,v,sq,hv⟩,λ y H' hy=>?_⟩
  obtain⟨rfl,hy⟩:=hy
  have:=hy vs sq
  rw[hv] at this
  cases this
  exact⟨R,.refl,RV.mono hp _ _ qv⟩
 ·exact⟨vs,hp.ext.sqT sa,by rw[ra.length];exact hx⟩
theorem Jr6 {l:Expr}{ml:E1}(hl:PEi ce X l ml):PIi ce X tg l (iVal ml):=by
 intro pins s σ H ι σi h Q E N K
 refine hl pins s σ H ι σi h _ E N ?_
 unfold iVal at K
 cases e0:ml σi h with
 | exc n h'=>rw[e0] at K;exact K
 | stuck=>rw[e0] at K;exact K
 | ok v h' =>
  rw[e0] at K
  intro u s1 H1 ι1 N1 n1 r1
  obtain⟨w,rw',q⟩:=r1
  have fresh:∀b∈[s1.heap.objs.size],FpOk X pins H1 b:=λ b hb=>by
   have e:b=s1.heap.objs.size:=by simpa using hb
   subst e
   exact N1.inv.fpOk (Zl _) (N1.inv.hok.fresh (Zl _))
  cases v with
  | ref i =>
   obtain⟨a,e1,ha⟩:=q
   subst e1
   cases rw'
   cases hi:h'[i]? with
   | none=>simp only[Res.bind,itOf,hi] at K
   | some o =>
    cases o with
    | lst xs =>
     simp only[Res.bind,itOf,hi] at K
     obtain⟨vs,e1,r1⟩:=N1.at hi ha
     obtain⟨its,rv,p,hz⟩:=N1.inv.list (SqL.of e1)
     refine ZaX p.isList (K _ _ H1 ι1 ⟨N1.inv.kept (t':=s1.toks) λ b o e=>Zg _ e,N1.rel,N1.st⟩ n1 ?_)
     exact⟨s1.heap.objs.size,[s1.heap.objs.size],_,Itl X.K a,rfl,Jm8 a _,⟨_,Zw _ rfl,rfl,rfl⟩,fresh,J1j ha⟩
    | _=>simp only[Res.bind,itOf,hi] at K
  | rol xs =>
   obtain⟨a,vs,e1,sa,ra⟩:=q
   subst e1
   cases rw'
   simp only[Res.bind,itOf] at K
   obtain⟨its,rv,p,hz⟩:=N1.inv.list sa.sq
   refine ZaX p.isList (K _ _ H1 ι1 ⟨N1.inv.kept (t':=s1.toks) λ b o e=>Zg _ e,N1.rel,N1.st⟩ n1 ?_)
   exact⟨s1.heap.objs.size,[s1.heap.objs.size],_,Itl X.K a,rfl,Jm8 a _,⟨_,Zw _ rfl,rfl,rfl⟩,fresh,J1k sa ra⟩
  | tup xs =>
   obtain⟨a,vs,e1,sa,ra⟩:=q
   subst e1
   cases rw'
   simp only[Res.bind,itOf] at K
   obtain⟨its,rv,p,hz⟩:=N1.inv.tuple sa
   refine wpAny_pyIter_tuple (show s1.heap.IsTuple a its.toArray from p) (K _ _ H1 ι1 ⟨N1.inv.kept (t':=s1.toks) λ b o e=>Zg _ e,N1.rel,N1.st⟩ n1 ?_)
   exact⟨s1.heap.objs.size,[s1.heap.objs.size],_,Itt X.K a,rfl,Jq3 a _,⟨_,Zw _ rfl,rfl,rfl⟩,fresh,J1l sa ra⟩
  | _=>simp only[Res.bind,itOf] at K
noncomputable def rngI (lo hi:Int):List IV:=(ZF (hi-lo).toNat).map λ k=>.int (lo+(k:Nat))
def Qn:List IV->IH->Res ItI
 | [.int j],h=>if -(2^62)<=j/\j<2^62 then .ok ⟨rngI 0 j,λ _=>True⟩ h else .stuck
 | _,_=>.stuck
def Jwx:List IV->IH->Res ItI
 | [.int i,.int j],h=>if -(2^62)<=i/\i<2^62/\ -(2^62)<=j/\j<2^62 then .ok ⟨rngI i j,λ _=>True⟩ h else .stuck
 | _,_=>.stuck
def iRg (f:List IV->IH->Res ItI)(a:A1):I1:=λ σ h=>(a σ h).bind f
theorem J2k {lo hi:Int}{ι:List Zd}{H₀:Hp}:ItOk ce X.K ι H₀ (Itr lo (hi-lo).toNat) ⟨rngI lo hi,λ _=>True⟩:=by
 refine⟨λ k x h H ι' hp R hck hx=>?_,λ k h H ι' hp R hck hx=>?_⟩
 ·have hk:k<(hi-lo).toNat:=by
   have:=(Zk.mp hx).1
   simpa [rngI] using this
  refine⟨hk,λ y H' hy=>?_⟩
  obtain⟨rfl,rfl⟩:=hy
  simp only[rngI,Zt,Zde hk] at hx
  cases hx
  exact⟨R,.refl,rfl⟩
 ·have:(rngI lo hi).length=(hi-lo).toNat:=by simp[rngI]
  show(hi-lo).toNat<=k
  rw[<- this]
  exact hx
theorem Js3 {pins:List (Zd×Obj)}{σ:L2.St}{H:Hp}{ι:List Zd}{σi:ISt}{h:IH}{s:Zc}{Q:Za->Zc->Prop}{E:Za->Zc->Prop}{lo hi:Int}{t u v:Tok}{tk:Nat}(N:Now ce X pins ι σi h σ H s)
  (h1: -(2^62)<=lo)(h2:lo<2^62)(h3: -(2^62)<=hi)(h4:hi<2^62)
  (K:∀itv s' H' ι',Now ce X pins ι' σi h σ H' s'->Nxt ι H ι' H'->RIt ce X tg pins ι' ⟨rngI lo hi,λ _=>True⟩ itv s' H'->Q itv s') :
  Zs (Z6 X.prog X.w) X.A (Zeb (.ref s.heap.objs.size)) Q E { s with heap:=s.heap.push { cls:=.type "range",data:=.fields #[.int lo t,.int hi u,.int 1 v] },toks:=tk }:=by
 have:=Jvg (X:=X) (tg:=tg) (E:=E) (R:=λ J H'=>J=Itr lo (hi-lo).toNat/\H'=H) (t:=t) (u:=u) (v:=v) (tk:=tk) N.inv h1 h2 h3 h4 ⟨rfl,rfl⟩
 refine Zae this (λ itv s' hq=>?_) λ _ _ z=>z
 obtain⟨it,fp,tn,J,H',e,I',T,st,f,rfl,rfl⟩:=hq
 exact K itv s' _ ι ⟨I',N.rel,N.st⟩ .refl ⟨it,fp,tn,_,e,T,st,f,J2k⟩
theorem Jul {a:Expr}{ma:A1}{p pos:Pos}(hg:Gl X "range")(hm:X.mg "range"=none)(ha:PAi ce X [a] ma)(hs:Z8 [a] X.env=[(false,ZaK a X.env)]:=by rfl):PIi ce X tg (.Call (.Name "range" p) [a] [] pos) (iRg Qn ma):=by
 intro pins s σ H ι σi h Q E N K
 refine Call_ (QC N.inv hg hm boot_range (ZaR ?_ hs rfl))
 refine ha pos pins s σ H ι σi h _ E N ?_
 unfold iRg at K
 cases e0:ma σi h with
 | exc n h'=>rw[e0] at K;exact K
 | stuck=>rw[e0] at K;exact K
 | ok vs h' =>
  rw[e0] at K
  intro us s1 H1 ι1 N1 n1 r1
  obtain⟨xs,rv,qs⟩:=r1
  match vs,K with
  | [.int j],K =>
   obtain⟨w,r,e1,q,q2⟩:=qs
   have e2:r=[]:=q2
   subst e1 e2
   have e3:w=.int j:=q
   subst e3
   cases rv with
   | cons r rr =>
    cases rr
    obtain⟨t,rfl⟩:=r
    simp only[Res.bind,Qn] at K
    by_cases hb: -(2^62)<=j/\j<2^62
    ·rw[if_pos hb] at K
     exact call_range_1 (Js3 N1 (by omega) (by omega) hb.1 hb.2 λ itv s' H' ι' N' n' R=>K itv s' H' ι' N' (n1.trans n') R)
    ·rw[if_neg hb] at K
     exact K.elim
  | [],K=>exact Zf K
  | .non::_,K=>exact Zf K
  | .bl _::_,K=>exact Zf K
  | .str _::_,K=>exact Zf K
  | .tup _::_,K=>exact Zf K
  | .rol _::_,K=>exact Zf K
  | .ref _::_,K=>exact Zf K
  | .int _::_::_,K=>exact Zf K
end
end L3
namespace L3
open PySem PySem.Spec PySem.Calls PyProof.Rows L2
section
variable {prog:Z5}{w:ZP}{A:ZI}{E:Za->Zc->Prop}{s:Zc}{K:W.Frag}{x D:Zd}{ox:Obj}
open PySem.W PySem.Builtin PySem.Builtin.ObjectAttr PySem.Builtin.Getset_descriptor in
end
structure ExI (K:W.Frag)(C:Zd):Prop where
 ga:W.findIn K (.ref C) "__getattribute__"=some (some (.builtin "BaseException.__getattribute__"))
 mb:W.mroIn K C (.type "BaseException")=some true
 gn:W.findIn K (.ref C) "__getattr__"=some none
 ca:W.findIn K (.ref C) "__class__"=some (some (.builtin "object.__class__"))
 mo:W.mroIn K C (.type "object")=some true
 hd:W.hasDictIn K C=true
end L3
namespace L3
open PySem PySem.Spec PyProof.Rows L2
def XI (n:Nat)(vs:List IV):ISt:=vs.map some++ZJ (n-vs.length) none
noncomputable def SRes.fin (r:SRes):Res IV:=match r with
 | .next _ h'=>.ok .non h'
 | .ret v h'=>.ok v h'
 | .exc n _ h'=>(match h'[n]? with
  | some (.exc _ _)=>.exc n h'
  | _=>.stuck)
 | _=>.stuck
noncomputable def fnI (n:Nat)(m:S1):List IV->IH->Res IV:=λ vs h=>(m (XI n vs) h).fin
def spI (ce:Str->Option Zd)(K:W.Frag)(ps:List Str)(f:List IV->IH->Res IV):Sp:=λ vs H Q E =>
 vs.length=ps.length/\∃ι h ivs,Rel ce K ι h H/\RVs K ι H ivs vs /\
  match f ivs h with
  | .ok v h'=>∀x H' ι',Rel ce K ι' h' H'->Nxt ι H ι' H'->RV K ι' H' v x->Q x H'
  | .exc n h'=>∀a H' ι',Rel ce K ι' h' H'->Nxt ι H ι' H'->ι'[n]?=some a->E (.ref a) none H'
  | .stuck=>False
theorem RVs.start {K:W.Frag}{ι:List Zd}{H:Hp}{N:List Str}{ivs:List IV}{vs:List V}(r:RVs K ι H ivs vs):RSt K ι H (XI N.length ivs) (L2.start N vs):=by
 have hl:=r.length
 refine⟨by simp[XI,L2.start,hl],λ j v e=>?_⟩
 unfold XI at e
 unfold L2.start
 by_cases hj:j<ivs.length
 ·rw[Z9 (by simpa using hj),Zt] at e
  rw[Z9 (by simp;omega),Zt]
  cases e1:ivs[j]? with
  | none=>rw[e1] at e;cases e
  | some w =>
   rw[e1] at e
   cases e
   obtain⟨u,hu,q⟩:=r.get e1
   exact⟨u,by rw[hu];rfl,q⟩
 ·rw[Z2 (by simpa using hj),Zb7] at e
  split at e<;>cases e
theorem Jo8 {α:Type}:∀{l:List α}{i:Nat}{x:α},l[i]?=some x->l.set i x=l
 | [],_,_,e=>by simp at e
 | a::l,0,x,e=>by cases e;rfl
 | a::l,i+1,x,e=>by
  show a::l.set i x=a::l
  rw[Jo8 (l:=l) e]
theorem J4y {ce:Str->Option Zd}{K:W.Frag}{ι:List Zd}{h:IH}{H:Hp}{i:Nat}{o:IO}{a:Zd}(R:Rel ce K ι h H)(e:h[i]?=some o)(q:ι[i]?=some a):RO ce K ι H a o:=by
 obtain⟨b,e1,r⟩:=R.at_ i o e
 rw[q] at e1
 cases e1
 exact r
structure FunD (K:W.Frag)(x qual:Str)(st:ZcY)(f:Zd)(fd:Zax)(dV:Za):Prop where
 ex:∃(oc:Za)(od:Option Zd)(kV doc pm:Za)(an:Option Zd)(cdv ct:Za)(osl:Array (Option Za)),
  fd=W.fnOf x qual (Q7 st) (Qg st) (JN st) dV kV doc pm an cdv ct/\K.lookup f=some ⟨oc,od,.func fd,osl⟩/\W.codeIn K cdv qual=true
 kp:W.keepIn K (.ref f)=true
section
variable {P:Z5}{w:ZP}{K:W.Frag}{mg:Str->Option Za}{base:Zag}{ce:Str->Option Zd}
theorem FunD.fn {x qual:Str}{st:ZcY}{f:Zd}{fd:Zax}{dV:Za}{N ps:List Str}{k n:Nat}{m:S1}(F:FunD K x qual st f fd dV)(S:FnScope N ps (JN st))
  (hbody:∀(cdv:Za)(A:ZI)(outer:List Env)(s:Zc)(H:Hp)(E:XK),W.codeIn K cdv qual=true->Room k (A.deeper (Zed qual (JN st) s.heap.objs.size f cdv))->PS2 ce (cxOf (CXI P w) P w K mg base N qual (JN st) f cdv A outer s H E).nox (Qg st) m)(hn:N.length=n:=by rfl) :
  FnOk P w K mg base (CXI P w) (k+1) f fd ps (spI ce K ps (fnI n m)):=by
 subst hn
 obtain⟨oc,od,kV,doc,pm,an,cdv,ct,osl,rfl,lk,hcd⟩:=F.ex
 refine J3v lk hcd S (λ vs H Q E h=>h.1) λ A outer s H vs Q E hr hsp=>?_
 obtain⟨hl,ι,h,ivs,R,rv,hk⟩:=hsp
 refine⟨λ D σ H=>∃ι σi h,Rel ce K ι h H/\RSt K ι H σi σ/\match m σi h with
  | .next σi' h'=>∀σ' H' ι',Rel ce K ι' h' H'->RSt K ι' H' σi' σ'->Nxt ι H ι' H'->D.nx σ' H'
  | .ret v h'=>∀x H' ι',Rel ce K ι' h' H'->Nxt ι H ι' H'->RV K ι' H' v x->D.rt x H'
  | .exc n _ h'=>(∃c fs,h'[n]?=some (.exc c fs))/\∀a H' ι',Rel ce K ι' h' H'->Nxt ι H ι' H'->ι'[n]?=some a->E (.ref a) none H'
  | _=>False,λ pins s' σ' H' D I ht=>?_,ι,XI N.length ivs,h,R,rv.start,?_⟩
 ·obtain⟨ι,σi,h,R,rs,hm⟩:=ht
  refine Zae (hbody cdv A outer s H E hcd hr pins s' σ' H' ι σi h (SP _ pins D) _ ⟨I.wish _,R,rs⟩ ?_) (λ _ _ z=>z) (λ _ _ z=>z)
  cases e:m σi h with
  | next σ2 h2 =>
   rw[e] at hm
   exact λ s3 σ3 H3 ι3 N3 n3=>⟨σ3,H3,N3.inv.unwish,hm σ3 H3 ι3 N3.rel N3.st n3⟩
  | ret v h2 =>
   rw[e] at hm
   exact λ u s3 σ3i σ3 H3 ι3 N3 n3 ⟨z,rz,q⟩=>⟨z,σ3,H3,N3.inv.unwish,rz,hm z H3 ι3 N3.rel n3 q⟩
  | exc j σ2 h2 =>
   rw[e] at hm
   obtain⟨⟨c,fs,hj⟩,hm⟩:=hm
   intro pl a s3 σ3 H3 ι3 N3 n3 hi s4 fl
   have I3:=N3.inv.unwish
   obtain⟨C,tv,d,fe,hC,ha,ht⟩:=J4y N3.rel hj hi
   refine Jsn I3 fl rfl rfl ha ht λ T oT h' p=>?_
   have nl:s.heap.get? s.heap.objs.size=none:=Heap.get?_none_of_le (Zl _)
   obtain⟨R4,n4⟩:=N3.rel.grow (o:=.frz oT (.own 0)) p.new
   have ha4:upd H3 T (.frz oT (.own 0)) a=some (ExF a C tv d):=by rw[Jp (ZK p.ne)];exact ha
   obtain⟨R5,n5⟩:=R4.write hi ha4 (by rw[ha4];trivial) (o:=ExF a C (.ref T) d) (io:=.exc c fs) ⟨C,.ref T,d,fe.mono p.un.frzs,hC,J7,.inr ⟨T,oT,_,rfl,by rw[Jp p.ne,J7],p.fld.choose_spec⟩⟩
   rw[Jo8 hj] at R5
   exact⟨_,I3.os,I3.bare,Un.tail I3.base p.un nl,p.hok,hm a _ ι3 R5 ((n3.trans n4).trans n5) hi⟩
  | _=>rw[e] at hm;exact hm.elim
 ·unfold fnI SRes.fin at hk
  cases e:m (XI N.length ivs) h with
  | next σ2 h2 =>
   rw[e] at hk
   exact λ σ3 H3 ι3 R3 _ n3=>hk .non H3 ι3 R3 n3 rfl
  | ret v h2 =>
   rw[e] at hk
   exact hk
  | exc j σ2 h2 =>
   rw[e] at hk
   dsimp only at hk
   cases q:h2[j]? with
   | none=>rw[q] at hk;exact hk.elim
   | some o =>
    cases o with
    | exc c fs=>rw[q] at hk;exact⟨⟨c,fs,q⟩,hk⟩
    | _=>rw[q] at hk;exact hk.elim
  | _=>rw[e] at hk;exact hk.elim
end
noncomputable def Res.nx {α:Type}:Res α->Res α
 | .ok a h=>.ok a h
 | _=>.stuck
def Jm (f:List IV->IH->Res IV)(dvs:List IV)(a:A1):E1:=λ σ h=>(a σ h).bind λ vs h1=>f (vs++dvs) h1
def Qw (c:Str)(f:List IV->IH->Res IV)(dvs:List IV)(a:A1):E1:=λ σ h=>(a σ h).bind λ vs h1=>(f (.ref h1.length::(vs++dvs)) (h1++[.ins c []])).bind λ r h2=>match r with
 | .non=>.ok (.ref h1.length) h2
 | _=>.stuck
def Jua (m:Str)(disp:Str->Option ((List IV->IH->Res IV)×List IV))(o:E1)(a:A1):E1:=λ σ h=>(o σ h).bind λ v h1=>match v with
 | .ref i=>(match h1[i]? with
  | some (.ins c fs)=>(match disp c,fs.lookup m with
   | some (f,dvs),none=>(a σ h1).bind λ vs h2=>f (.ref i::(vs++dvs)) h2
   | _,_=>.stuck)
  | _=>.stuck)
 | _=>.stuck
section
variable {ce:Str->Option Zd}{X:Cx}{k:Nat}{fa C:Zd}{fd:Zax}{ps:List Str}{f:List IV->IH->Res IV}{dvs:List IV}{ds:List Za}{x m:Str}{p pos apos:Pos}{e o:Expr}{es:List Expr}{mo:E1}{ma:A1}
theorem Yr {pins:List (Zd×Obj)}{σ:L2.St}{H:Hp}{ι:List Zd}{σi:ISt}{h:IH}{s:Zc}{Q:Za->Zc->Prop}{E:Za->Zc->Prop}{us:List Za}{xs:List IV}(F:FnOk X.prog X.w X.K X.mg X.base (CXI X.prog X.w) k fa fd ps (spI ce X.K ps f))(hr:Room k X.A)(hb:Qf X.K fd ps ds)
  (hd:∃vs,Vals vs ds/\∀ι H,RVs X.K ι H dvs vs)(hlen:us.length+ds.length=ps.length)(N:Now ce X pins ι σi h σ H s)(r:RUs X.K ι H xs us)(K:Kont ce X RU pins ι σi σ H (f (xs++dvs) h) Q E):Zs (Z6 X.prog X.w) X.A (call (.ref fa) us) Q E s:=by
 obtain⟨vs,rv,q⟩:=r
 obtain⟨dv,rd,qd⟩:=hd
 have hl1:=rv.length
 have hl2:=rd.length
 refine Zae (Jzr (Q:=λ z H'=>∀u s',Inv X pins σ H' s'->RelV z u->Q u s') (E:=λ v _ H'=>∀s',Inv X pins σ H' s'->E v s') F hr hb rd N.inv rv ⟨by rw[Zo];omega,ι,h,xs++dvs,N.rel,q.append (qd ι H),?_⟩ λ _ s' _ I' z=>z s' I')
  (λ u s' ⟨z,H',I',r',k'⟩=>k' u s' I' r') λ _ _ z=>z
 cases e:f (xs++dvs) h with
 | ok v h' =>
  rw[e] at K
  exact λ z H' ι' R' n' qz u s' I' ru=>K u s' H' ι' ⟨I',R',N.st.mono n'⟩ n' ⟨z,ru,qz⟩
 | exc n h' =>
  rw[e] at K
  exact λ a H' ι' R' n' hi s' I'=>K [] a s' H' ι' ⟨by simpa using I',R',N.st.mono n'⟩ n' hi
 | stuck=>rw[e] at K;exact K
theorem J08 (F:FnOk X.prog X.w X.K X.mg X.base (CXI X.prog X.w) k fa fd ps (spI ce X.K ps f))(hr:Room k X.A)(hg:Gl X x)(hm:X.mg x=some (.ref fa))(hk:W.keepIn X.K (.ref fa)=true)(hb:Qf X.K fd ps ds)(hd:∃vs,Vals vs ds/\∀ι H,RVs X.K ι H dvs vs)
  (ha:PAi ce X (e::es) ma)(hlen:∀σ h xs h',ma σ h=.ok xs h'->xs.length+ds.length=ps.length)(hdb:(x==("__debug__":Str))=false:=by decide)(he:Z8 (e::es) X.env=(false,ZaK e X.env)::Z8 es X.env:=by rfl)(hpl:(ZaT pos (Z8 es X.env)).any (·.1)=false:=by rfl) :
  PEi ce X (.Call (.Name x p) (e::es) [] pos) (Jm f dvs ma):=by
 intro pins s σ H ι σi h Q E N K
 refine Zad (VW N.inv hg hm ?_ hdb)
 refine W.callWith_K (h₀:=X.base) N.inv.ok.mod.kin hk ?_ he hpl
 have K':=K
 unfold Jm at K'
 refine ha pos pins s σ H ι σi h _ E N ?_
 cases e0:ma σi h with
 | exc n h'=>rw[e0] at K';exact K'
 | stuck=>rw[e0] at K';exact K'
 | ok xs h' =>
  rw[e0] at K'
  intro us s1 H1 ι1 N1 n1 r1
  have hl:xs.length=us.length:=by
   obtain⟨vs,rv,q⟩:=r1
   rw[<- rv.length,q.length]
  exact⟨N1.inv.kIn,Yr (us:=us) F hr hb hd (by have:=hlen σi h xs h' e0;omega) N1 r1 (Kont.mono (r:=(f (xs++dvs) h')) K' n1)⟩
theorem Jyy (F:FnOk X.prog X.w X.K X.mg X.base (CXI X.prog X.w) k fa fd ps (spI ce X.K ps f))(hr:Room k X.A)(hg:Gl X x)(hm:X.mg x=some (.ref fa))(hk:W.keepIn X.K (.ref fa)=true)(hb:Qf X.K fd ps ds)(hd:∃vs,Vals vs ds/\∀ι H,RVs X.K ι H dvs vs)
  (hlen:ds.length=ps.length)(hdb:(x==("__debug__":Str))=false:=by decide):PEi ce X (.Call (.Name x p) [] [] pos) (Jm f dvs Jd):=by
 intro pins s σ H ι σi h Q E N K
 refine Zad (VW N.inv hg hm ?_ hdb)
 exact W.callWith_K0 N.inv.kIn hk (Yr (xs:=[]) F hr hb hd (by simpa using hlen) N .nil K)
theorem Jmo {c:Str}{pins:List (Zd×Obj)}{σ:L2.St}{H:Hp}{ι:List Zd}{σi:ISt}{h:IH}{s:Zc}{Q:Za->Zc->Prop}{E:Za->Zc->Prop}{us:List Za}{xs:List IV}(M:Mk X.K C fa)(F:FnOk X.prog X.w X.K X.mg X.base (CXI X.prog X.w) k fa fd ps (spI ce X.K ps f))(hC:ce c=some C)(hr:Room (k+1) X.A)(hb:Qf X.K fd ps ds)
  (hd:∃vs,Vals vs ds/\∀ι H,RVs X.K ι H dvs vs)(hlen:us.length+ds.length+1=ps.length)(N:Now ce X pins ι σi h σ H s)(r:RUs X.K ι H xs us)
  (K:Kont ce X RU pins ι σi σ H ((f (.ref h.length::(xs++dvs)) (h++[.ins c []])).bind λ r h2=>match r with|.non=>.ok (.ref h.length) h2|_=>.stuck) Q E):Zs (Z6 X.prog X.w) X.A (call (.ref C) us) Q E s:=by
 obtain⟨vs,rv,q⟩:=r
 obtain⟨dv,rd,qd⟩:=hd
 have hl1:=rv.length
 have hl2:=rd.length
 refine Zae (Js9 (Q:=λ z H'=>∀u s',Inv X pins σ H' s'->RelV z u->Q u s') (E:=λ v _ H'=>∀s',Inv X pins σ H' s'->E v s') M F hr hb rd N.inv rv (λ x dx hx hdx hne=>⟨by rw[Z7,Zo];omega,?_⟩) λ _ s' _ I' z=>z s' I')
  (λ u s' ⟨z,H',I',r',k'⟩=>k' u s' I' r') λ _ _ z=>z
 -- the new instance in the reading's heap
 obtain⟨R1,n1⟩:=N.rel.grow (o:=.own x) hdx
 have hx1:upd H dx (.own x) x=none:=by rw[Jp (ZK hne)];exact hx
 obtain⟨R2,n2⟩:=R1.alloc (o:=.ins C dx []) (io:=.ins c []) hx1 ⟨C,dx,[],hC,J7,rfl⟩
 have n12:=n1.trans n2
 have hat:(ι++[x])[h.length]?=some x:=by
  rw[<- N.rel.len,Z2 (Zl _)]
  simp
 refine⟨ι++[x],h++[.ins c []],.ref h.length::(xs++dvs),R2,⟨_,_,rfl,⟨x,rfl,hat⟩,(RVs.mono n12 _ _ q).append (qd _ _)⟩,?_⟩
 cases e:f (.ref h.length::(xs++dvs)) (h++[.ins c []]) with
 | ok v h' =>
  rw[e] at K
  intro z H' ι' R' n' qz
  cases v with
  | non =>
   have ez:z=.non:=qz
   subst ez
   exact⟨rfl,λ u s' I' ru=>K u s' H' ι' ⟨I',R',N.st.mono (n12.trans n')⟩ (n12.trans n') ⟨.ref x,ru,x,rfl,n'.at hat⟩⟩
  | _=>exact Zf K
 | exc n h' =>
  rw[e] at K
  exact λ a H' ι' R' n' hi s' I'=>K [] a s' H' ι' ⟨by simpa using I',R',N.st.mono (n12.trans n')⟩ (n12.trans n') hi
 | stuck=>rw[e] at K;exact Zf K
theorem J1c {c:Str}(M:Mk X.K C fa)(F:FnOk X.prog X.w X.K X.mg X.base (CXI X.prog X.w) k fa fd ps (spI ce X.K ps f))(hC:ce c=some C)(hr:Room (k+1) X.A)(hg:Gl X x)(hm:X.mg x=some (.ref C))(hb:Qf X.K fd ps ds)(hd:∃vs,Vals vs ds/\∀ι H,RVs X.K ι H dvs vs)
  (ha:PAi ce X (e::es) ma)(hlen:∀σ h xs h',ma σ h=.ok xs h'->xs.length+ds.length+1=ps.length)(hdb:(x==("__debug__":Str))=false:=by decide)(he:Z8 (e::es) X.env=(false,ZaK e X.env)::Z8 es X.env:=by rfl)(hpl:(ZaT pos (Z8 es X.env)).any (·.1)=false:=by rfl) :
  PEi ce X (.Call (.Name x p) (e::es) [] pos) (Qw c f dvs ma):=by
 intro pins s σ H ι σi h Q E N K
 refine Zad (VW N.inv hg hm ?_ hdb)
 refine W.callWith_K (h₀:=X.base) N.inv.ok.mod.kin M.kp ?_ he hpl
 have K':=K
 unfold Qw at K'
 refine ha pos pins s σ H ι σi h _ E N ?_
 cases e0:ma σi h with
 | exc n h'=>rw[e0] at K';exact K'
 | stuck=>rw[e0] at K';exact K'
 | ok xs h' =>
  rw[e0] at K'
  intro us s1 H1 ι1 N1 n1 r1
  have hl:xs.length=us.length:=by
   obtain⟨vs,rv,q⟩:=r1
   rw[<- rv.length,q.length]
  exact⟨N1.inv.kIn,Jmo (us:=us) M F hC hr hb hd (by have:=hlen σi h xs h' e0;omega) N1 r1 (Kont.mono (r:=(f (IV.ref h'.length::(xs++dvs)) (h'++[.ins c []])).bind λ r h2=>match r with|IV.non=>Res.ok (IV.ref h'.length) h2|_=>Res.stuck) K' n1)⟩
theorem Jy1 {c:Str}(M:Mk X.K C fa)(F:FnOk X.prog X.w X.K X.mg X.base (CXI X.prog X.w) k fa fd ps (spI ce X.K ps f))(hC:ce c=some C)(hr:Room (k+1) X.A)(hg:Gl X x)(hm:X.mg x=some (.ref C))(hb:Qf X.K fd ps ds)(hd:∃vs,Vals vs ds/\∀ι H,RVs X.K ι H dvs vs)
  (hlen:ds.length+1=ps.length)(hdb:(x==("__debug__":Str))=false:=by decide):PEi ce X (.Call (.Name x p) [] [] pos) (Qw c f dvs Jd):=by
 intro pins s σ H ι σi h Q E N K
 refine Zad (VW N.inv hg hm ?_ hdb)
 exact W.callWith_K0 N.inv.kIn M.kp (Jmo (xs:=[]) M F hC hr hb hd (by simpa using hlen) N .nil K)
def Jq4 (ce:Str->Option Zd)(X:Cx)(m:Str)(n:Nat)(disp:Str->Option ((List IV->IH->Res IV)×List IV)):Prop :=
 ∀c f dvs,disp c=some (f,dvs)->∃(C fa:Zd)(fd:Zax)(k:Nat)(ps:List Str)(ds:List Za),ce c=some C/\Cls X.K C/\Meth X.K C m fa/\FnOk X.prog X.w X.K X.mg X.base (CXI X.prog X.w) k fa fd ps (spI ce X.K ps f)/\Room k X.A/\Qf X.K fd ps ds/\(∃vs,Vals vs ds/\∀ι H,RVs X.K ι H dvs vs)/\n+ds.length+1=ps.length
theorem J1e {n:Nat}{disp:Str->Option ((List IV->IH->Res IV)×List IV)}{pl:Sem Bool}(ho:PEi ce X o mo)(hd:Jq4 ce X m n disp)(ha:PAi ce X (e::es) ma)(hlen:∀σ h xs h',ma σ h=.ok xs h'->xs.length=n)
  (hst:Z8 (e::es) X.env=(false,ZaK e X.env)::Z8 es X.env:=by rfl)(hpl:(ZaT pos (Z8 es X.env)).any (·.1)=false:=by rfl)
  (ht:ZaK (.Call (.Attribute o m apos) (e::es) [] pos) X.env=(do
   let ov<-ZaK o X.env
   Ze2 apos.atName
   let (f,first)<-ZbQ [ov] (Zd6 ov m pl)
   callWith pos f first (ZaT pos (Z8 (e::es) X.env)) (ZcP pos (ZbC [] X.env))):=by rfl) :
  PEi ce X (.Call (.Attribute o m apos) (e::es) [] pos) (Jua m disp mo ma):=by
 intro pins s σ H ι σi h Q E N K
 refine W.methodCall_KW (pl:=pl) (ho.run N K λ v h1 u s1 H1 ι1 N1 n1 r1 K1=>?_) ht
 cases v with
 | ref i =>
  obtain⟨w,rw',a,e1,hi⟩:=r1
  subst e1
  cases rw'
  dsimp only at K1
  cases hh:h1[i]? with
  | none=>rw[hh] at K1;exact Zf K1
  | some ob =>
   cases ob with
   | ins c fs =>
    rw[hh] at K1
    dsimp only at K1
    cases hd1:disp c with
    | none=>rw[hd1] at K1;exact Zf K1
    | some fd1 =>
     obtain⟨f,dvs⟩:=fd1
     cases hl:fs.lookup m with
     | some z=>rw[hd1,hl] at K1;exact Zf K1
     | none =>
      rw[hd1,hl] at K1
      dsimp only at K1
      obtain⟨C,fa,fd,k,ps,ds,hC,cl,hm,F,hr,hb,hdv,hn⟩:=hd c f dvs hd1
      obtain⟨C',dx,vs,hC',hH,rp⟩:=N1.at hh hi
      rw[hC] at hC'
      cases hC'
      refine Jiw N1.inv hH cl hm ((RPs.lookup rp).2 hl) ?_
      refine W.callWith_K (first:=[.ref a]) (h₀:=X.base) N1.inv.ok.mod.kin hm.kp ?_ hst hpl
      refine ha pos pins s1 σ H1 ι1 σi h1 _ E N1 ?_
      cases e0:ma σi h1 with
      | exc n h'=>rw[e0] at K1;exact K1
      | stuck=>rw[e0] at K1;exact K1
      | ok xs h' =>
       rw[e0] at K1
       intro us s2 H2 ι2 N2 n2 r2
       have hl:xs.length=us.length:=by
        obtain⟨vs,rv,q⟩:=r2
        rw[<- rv.length,q.length]
       have hl2:=hlen σi h1 xs h' e0
       refine⟨N2.inv.kIn,Yr (us:=.ref a::us) (xs:=.ref i::xs) F hr hb hdv (by rw[Z7];omega) N2 (.cons ⟨.ref a,rfl,a,rfl,n2.at hi⟩ r2) ?_⟩
       exact Kont.mono (r:=(f (.ref i::(xs++dvs)) h')) K1 n2
   | _=>rw[hh] at K1;exact Zf K1
 | _=>exact Zf K1
theorem Jy2 {disp:Str->Option ((List IV->IH->Res IV)×List IV)}{pl:Sem Bool}(ho:PEi ce X o mo)(hd:Jq4 ce X m 0 disp)
  (ht:ZaK (.Call (.Attribute o m apos) [] [] pos) X.env=(do
   let ov<-ZaK o X.env
   Ze2 apos.atName
   let (f,first)<-ZbQ [ov] (Zd6 ov m pl)
   callWith pos f first (ZaT pos (Z8 [] X.env)) (ZcP pos (ZbC [] X.env))):=by rfl) :
  PEi ce X (.Call (.Attribute o m apos) [] [] pos) (Jua m disp mo Jd):=by
 intro pins s σ H ι σi h Q E N K
 refine W.methodCall_KW (pl:=pl) (ho.run N K λ v h1 u s1 H1 ι1 N1 n1 r1 K1=>?_) ht
 cases v with
 | ref i =>
  obtain⟨w,rw',a,e1,hi⟩:=r1
  subst e1
  cases rw'
  dsimp only at K1
  cases hh:h1[i]? with
  | none=>rw[hh] at K1;exact Zf K1
  | some ob =>
   cases ob with
   | ins c fs =>
    rw[hh] at K1
    dsimp only at K1
    cases hd1:disp c with
    | none=>rw[hd1] at K1;exact Zf K1
    | some fd1 =>
     obtain⟨f,dvs⟩:=fd1
     cases hl:fs.lookup m with
     | some z=>rw[hd1,hl] at K1;exact Zf K1
     | none =>
      rw[hd1,hl] at K1
      dsimp only at K1
      obtain⟨C,fa,fd,k,ps,ds,hC,cl,hm,F,hr,hb,hdv,hn⟩:=hd c f dvs hd1
      obtain⟨C',dx,vs,hC',hH,rp⟩:=N1.at hh hi
      rw[hC] at hC'
      cases hC'
      refine Jiw N1.inv hH cl hm ((RPs.lookup rp).2 hl) ?_
      exact W.callWith_K0 (first:=[.ref a]) N1.inv.kIn hm.kp (Yr (us:=[.ref a]) (xs:=[.ref i]) F hr hb hdv (by rw[Z7,Zbc];omega) N1 (.cons ⟨.ref a,rfl,a,rfl,hi⟩ .nil) K1)
   | _=>rw[hh] at K1;exact Zf K1
 | _=>exact Zf K1
def Jo (f:Str)(o:E1):E1:=λ σ h=>(o σ h).bind λ v h1=>match v with
 | .ref i=>(match h1[i]? with
  | some (.ins _ fs)=>(match fs.lookup f with
   | some x=>.ok x h1
   | none=>.stuck)
  | _=>.stuck)
 | _=>.stuck
def XV (ce:Str->Option Zd)(K:W.Frag)(f:Str):Prop:=∀c C,ce c=some C->Cls K C/\Q3 K C f
theorem J33 {fl:Str}(ho:PEi ce X o mo)(hf:XV ce X.K fl)(hb:ZbN o fl X.env (ZaK o X.env)=ZaK o X.env:=by rfl):PEi ce X (.Attribute o fl pos) (Jo fl mo):=by
 intro pins s σ H ι σi h Q E N K
 refine Jxz hb (ho.run N K λ v h1 u s1 H1 ι1 N1 n1 r1 K1=>?_)
 cases v with
 | ref i =>
  obtain⟨w,rw',a,e1,hi⟩:=r1
  subst e1
  cases rw'
  dsimp only at K1
  cases hh:h1[i]? with
  | none=>rw[hh] at K1;exact Zf K1
  | some ob =>
   cases ob with
   | ins c fs =>
    rw[hh] at K1
    dsimp only at K1
    cases hl:fs.lookup fl with
    | none=>rw[hl] at K1;exact Zf K1
    | some z =>
     rw[hl] at K1
     obtain⟨C,dx,vs,hC,hH,rp⟩:=N1.at hh hi
     obtain⟨cl,na⟩:=hf c C hC
     obtain⟨y,hy,q⟩:=(RPs.lookup rp).1 z hl
     exact Jiv N1.inv hH cl na hy λ u' s2 I2 ru=>K1 u' s2 H1 ι1 ⟨I2,N1.rel,N1.st⟩ .refl ⟨y,ru,q⟩
   | _=>rw[hh] at K1;exact Zf K1
 | _=>exact Zf K1
noncomputable def putI (f:Str)(v:IV):List (Str×IV)->List (Str×IV)
 | []=>[(f,v)]
 | (g,x)::r=>if g=f then(g,v)::r else(g,x)::putI f v r
theorem RPs.put {K:W.Frag}{ι:List Zd}{H:Hp}{fl:Str}{v:IV}{y:V}(q:RV K ι H v y):∀{fs:List (Str×IV)}{vs:List (Str×V)},RPs K ι H fs vs->RPs K ι H (putI fl v fs) (putF fl y vs)
 | [],_,h=>by
  have e:_=[]:=h
  subst e
  exact⟨y,[],rfl,q,rfl⟩
 | (g,x)::r,_,h=>by
  obtain⟨w,vr,e,qx,t⟩:=h
  subst e
  show RPs K ι H (if g=fl then(g,v)::r else(g,x)::putI fl v r) (if g=fl then(g,y)::vr else(g,w)::putF fl y vr)
  by_cases hg:g=fl
  ·rw[if_pos hg,if_pos hg]
   exact⟨y,vr,rfl,q,t⟩
  ·rw[if_neg hg,if_neg hg]
   exact⟨w,_,rfl,qx,RPs.put q t⟩
def JK (f:Str)(o e:E1):S1:=λ σ h=>rS σ (e σ h) λ v h1=>rS σ (o σ h1) λ ov h2=>match ov with
 | .ref i=>(match h2[i]? with
  | some (.ins c fs)=>if fs.length<1000 then .next σ (h2.set i (.ins c (putI f v fs))) else .stuck
  | _=>.stuck)
 | _=>.stuck
theorem J41 {fl:Str}{value:Expr}{mv:E1}{pos':Pos}(ho:PEi ce X o mo)(hv:PEi ce X value mv)(hf:XV ce X.K fl)(hs:Zdj value (some (.Attribute o fl pos')) pos.line X.env=pure false:=by rfl):PS1 ce X (.Assign [.Attribute o fl pos'] value pos) (JK fl mo mv):=by
 intro pins s σ H ι σi h Q E N K
 refine plainObj_wpAny_Assign_Attribute (krun hv N K λ v h1 u s1 H1 ι1 N1 n1 r1 K1=>krun ho N1 K1 λ ov h2 w s2 H2 ι2 N2 n2 r2 K2=>?_) hs
 cases ov with
 | ref i =>
  obtain⟨w,rw',a,e1,hi⟩:=r2
  subst e1
  cases rw'
  dsimp only at K2
  cases hh:h2[i]? with
  | none=>rw[hh] at K2;exact Zf K2
  | some ob =>
   cases ob with
   | ins c fs =>
    rw[hh] at K2
    dsimp only at K2
    split at K2
    ·rename_i hz
     obtain⟨C,dx,vs,hC,hH,rp⟩:=N2.at hh hi
     obtain⟨cl,na⟩:=hf c C hC
     obtain⟨y,ry,q⟩:=r1
     refine Ji1 N2.inv hH cl na (by rw[rp.length];exact hz) ry λ s3 I3=>?_
     have n3:Nxt ι2 H2 ι2 (upd H2 a (.ins C dx (putF fl y vs))):=⟨⟨[],by simp⟩,Ext.upd_mut hH (by rw[hH];exact Zaj)⟩
     obtain⟨R3,_⟩:=N2.rel.write (o:=.ins C dx (putF fl y vs)) (io:=.ins c (putI fl v fs)) hi hH (by rw[hH];exact Zaj) ⟨C,dx,_,hC,J7,RPs.put (RV.mono (n2.trans n3) _ _ q) (RPs.mono n3 _ _ rp)⟩
     exact K2 s3 σ _ ι2 ⟨I3,R3,N2.st.mono n3⟩ n3
    ·exact Zf K2
   | _=>rw[hh] at K2;exact Zf K2
 | _=>exact Zf K2
end
section
variable {ce:Str->Option Zd}{X:Cx}{a b c:Expr}{ma mb mc:E1}{pos:Pos}
def Je:IV->IV->IH->Res IV
 | .ref i,.int k,h=>match h[i]? with
  | some (.lst xs)=>(match atI xs k with
   | some v=>.ok v h
   | none=>.stuck)
  | _=>.stuck
 | .rol xs,.int k,h=>match atI xs k with
  | some v=>.ok v h
  | none=>.stuck
 | .tup xs,.int k,h=>match atI xs k with
  | some v=>.ok v h
  | none=>.stuck
 | .str x,.int k,h=>if x.length<=sizeLine then(match atI x.cps.toList k with
  | some c=>.ok (.str ⟨#[c]⟩) h
  | none=>.stuck) else .stuck
 | _,_,_=>.stuck
theorem Ji6 {K:W.Frag}{ι:List Zd}{H:Hp}{xs:List IV}{vs:List V}{k:Int}{v:IV}(r:RVs K ι H xs vs)(e:atI xs k=some v):∃u,atI vs k=some u/\RV K ι H v u:=by
 unfold atI at e ⊢
 rw[r.length]
 cases q:ixN xs.length k with
 | none=>rw[q] at e;cases e
 | some j =>
  rw[q] at e
  exact r.get e
def IxI (ce:Str->Option Zd)(X:Cx)(g:IV->IV->IH->Res IV):Prop :=
 ∀(value slice:Expr)(pins:List (Zd×Obj))(s:Zc)(σ:L2.St)(H:Hp)(ι:List Zd)(σi:ISt)(h:IH)(x y:IV)(v u:Za)(Q:Za->Zc->Prop)(E:Za->Zc->Prop),Now ce X pins ι σi h σ H s->RU X.K ι H x v->RU X.K ι H y u ->
  Kont ce X RU pins ι σi σ H (g x y h) Q E->Zef slice false v u=operate [v,u] (ZdM v u)->Zs (Z6 X.prog X.w) X.A (Zdz value slice v u) Q E s
theorem Jpi {pins:List (Zd×Obj)}{s:Zc}{σ:L2.St}{H:Hp}{Q:Za->Zc->Prop}{E:Za->Zc->Prop}{r:R2}{value slice:Expr}{x y:V}{v u:Za}(p:IxR (X.wish E) r)(I:Inv X pins σ H s)(rx:RelV x v)(ry:RelV y u)
  (k:r x y H λ z H'=>∀u s',Inv X pins σ H' s'->RelV z u->Q u s')(hs:Zef slice false v u=operate [v,u] (ZdM v u)):Zs (Z6 X.prog X.w) X.A (Zdz value slice v u) Q E s :=
 Zae (p value slice pins s σ H x y v u _ (I.wish E) rx ry k hs) (λ u s' ⟨_,_,I',r,q⟩=>q u s' I'.unwish r) λ _ _ z=>z
theorem x_ix:IxI ce X Je:=by
 intro value slice pins s σ H ι σi h x y v u Q E N rx ry K hs
 obtain⟨xv,rx,qx⟩:=rx
 obtain⟨yv,ry,qy⟩:=ry
 cases y with
 | int k =>
  have e2:yv=.int k:=qy
  subst e2
  cases x with
  | ref i =>
   obtain⟨a,e1,ha⟩:=qx
   subst e1
   dsimp only[Je] at K
   cases hi:h[i]? with
   | none=>rw[hi] at K;exact Zf K
   | some ob =>
    rw[hi] at K
    cases ob with
    | lst xs =>
     dsimp only at K
     cases hk:atI xs k with
     | none=>rw[hk] at K;exact Zf K
     | some z =>
      rw[hk] at K
      obtain⟨vs,e1,r1⟩:=N.at hi ha
      obtain⟨w,hw,qw⟩:=Ji6 r1 hk
      exact Jpi (Jse (X:=X.wish E)) N.inv rx ry ⟨a,vs,k,w,rfl,rfl,SqL.of e1,hw,fin0 N K qw⟩ hs
    | _=>exact Zf K
  | rol xs =>
   obtain⟨a,vs,e1,sa,ra⟩:=qx
   subst e1
   dsimp only[Je] at K
   cases hk:atI xs k with
   | none=>rw[hk] at K;exact Zf K
   | some z =>
    rw[hk] at K
    obtain⟨w,hw,qw⟩:=Ji6 ra hk
    exact Jpi (Jse (X:=X.wish E)) N.inv rx ry ⟨a,vs,k,w,rfl,rfl,sa.sq,hw,fin0 N K qw⟩ hs
  | tup xs =>
   obtain⟨a,vs,e1,sa,ra⟩:=qx
   subst e1
   dsimp only[Je] at K
   cases hk:atI xs k with
   | none=>rw[hk] at K;exact Zf K
   | some z =>
    rw[hk] at K
    obtain⟨w,hw,qw⟩:=Ji6 ra hk
    exact Jpi (J1n (X:=X.wish E)) N.inv rx ry ⟨a,vs,k,w,rfl,rfl,sa,hw,fin0 N K qw⟩ hs
  | str x =>
   have e1:xv=.str x:=qx
   subst e1
   dsimp only[Je] at K
   split at K
   ·rename_i hz
    cases hk:atI x.cps.toList k with
    | none=>rw[hk] at K;exact Zf K
    | some z =>
     rw[hk] at K
     exact Jpi (J1m (X:=X.wish E)) N.inv rx ry ⟨x,k,z,rfl,rfl,hz,hk,fin0 N K rfl⟩ hs
   ·exact Zf K
  | _=>exact Zf K
 | _=>cases x<;>exact Zf K
theorem i_ix {g:IV->IV->IH->Res IV}(hg:IxI ce X g)(ha:PEi ce X a ma)(hb:PEi ce X b mb)(hs:Jq5 b:=by intro _ _;rfl):PEi ce X (.Subscript a b pos) (Jc g ma mb):=λ pins s σ H ι σi h Q E N K =>
 Subscript_ (ha.run N K λ x h1 u s1 H1 ι1 N1 n1 r1 K1=>hb.run N1 K1 λ y h2 w s2 H2 ι2 N2 n2 r2 K2=>hg a b pins s2 σ H2 ι2 σi h2 x y u w Q E N2 (r1.mono n2) r2 K2 (hs _ _))
abbrev O1:=ISt->IH->Res (Option Int)
def J3i:REL (Option Int) Za:=λ _ _ _ o u=>Ze6 u o
def PPi (ce:Str->Option Zd)(X:Cx)(e:Option Expr)(m:O1):Prop:=PX ce X J3i (evalPart e X.env) m
noncomputable def V3:O1:=λ _ h=>.ok none h
def QD (e:E1):O1:=λ σ h=>(e σ h).bind λ v h1=>match v with
 | .int i=>.ok (some i) h1
 | _=>.stuck
theorem J2e:PPi ce X none V3:=by
 intro pins s σ H ι σi h Q E N K
 rw[evalPart_none]
 exact Zu (K _ s H ι N .refl .none)
theorem J2f (ha:PEi ce X a ma):PPi ce X (some a) (QD ma):=by
 intro pins s σ H ι σi h Q E N K
 rw[evalPart_some]
 refine ha.run N K λ x h1 u s1 H1 ι1 N1 n1 r1 K1=>?_
 cases x with
 | int i =>
  obtain⟨w,rw',q⟩:=r1
  have e:w=.int i:=q
  subst e
  obtain⟨t,rfl⟩:=rw'
  exact K1 _ s1 H1 ι1 N1 .refl (.int i t)
 | _=>exact Zf K1
def cutI {α:Type}(xs:List α)(lo hi:Option Int):List α:=(xs.drop (HT.sIx xs.length 0 lo)).take (HT.sIx xs.length xs.length hi-HT.sIx xs.length 0 lo)
def slI:IV->Option Int->Option Int->IH->Res IV
 | .ref i,lo,hi,h=>match h[i]? with
  | some (.lst xs)=>.ok (.ref h.length) (h++[.lst (cutI xs lo hi)])
  | _=>.stuck
 | .rol xs,lo,hi,h=>.ok (.ref h.length) (h++[.lst (cutI xs lo hi)])
 | _,_,_,_=>.stuck
theorem RVs.cut {K:W.Frag}{ι:List Zd}{H:Hp}{xs:List IV}{vs:List V}(r:RVs K ι H xs vs)(lo hi:Option Int):RVs K ι H (cutI xs lo hi) (cutV vs lo hi):=by
 unfold cutI cutV
 rw[r.length]
 exact(r.drop _).take _
def eSl (f:IV->Option Int->Option Int->IH->Res IV)(e:E1)(lo hi:O1):E1:=λ σ h=>(e σ h).bind λ x h1=>(lo σ h1).bind λ l h2=>(hi σ h2).bind λ u h3=>f x l u h3
def SlI (ce:Str->Option Zd)(X:Cx)(g:IV->Option Int->Option Int->IH->Res IV):Prop :=
 ∀(pins:List (Zd×Obj))(s:Zc)(σ:L2.St)(H:Hp)(ι:List Zd)(σi:ISt)(h:IH)(x:IV)(v vl vu:Za)(lo hi:Option Int)(sl:Zd)(Q:Za->Zc->Prop)(E:Za->Zc->Prop),Now ce X pins ι σi h σ H s->RU X.K ι H x v->s.heap.IsSliceOf sl vl vu .none->Ze6 vl lo->Ze6 vu hi ->
  Kont ce X RU pins ι σi σ H (g x lo hi h) Q E->∃T id,typeLookup (.type T) "__getitem__"=pure (some (.builtin id))/\s.TypeIs v T/\Zs (Z6 X.prog X.w) X.A (ZdM v (.ref sl)) Q E s
theorem Jxl {pins:List (Zd×Obj)}{s:Zc}{σ:L2.St}{H:Hp}{Q:Za->Zc->Prop}{E:Za->Zc->Prop}{r:V->Option Int->Option Int->Hp->VK->Prop}{x:V}{v vl vu:Za}{lo hi:Option Int}{sl:Zd}(p:SlR (X.wish E) r)(I:Inv X pins σ H s)(rx:RelV x v)
  (hs:s.heap.IsSliceOf sl vl vu .none)(pl:Ze6 vl lo)(pu:Ze6 vu hi)(k:r x lo hi H λ z H'=>∀u s',Inv X pins σ H' s'->RelV z u->Q u s') :
  ∃T id,typeLookup (.type T) "__getitem__"=pure (some (.builtin id))/\s.TypeIs v T/\Zs (Z6 X.prog X.w) X.A (ZdM v (.ref sl)) Q E s:=by
 obtain⟨T,id,h1,h2,h3⟩:=p pins s σ H x v vl vu lo hi sl _ (I.wish E) rx hs pl pu k
 exact⟨T,id,h1,h2,Zae h3 (λ u s' ⟨_,_,I',r,q⟩=>q u s' I'.unwish r) λ _ _ z=>z⟩
theorem Jy3 {g:IV->Option Int->Option Int->IH->Res IV}{lo hi:Option Expr}{ml mh:O1}{p2:Pos}(hr:SlI ce X g)(he:PEi ce X a ma)(hl:PPi ce X lo ml)(hu:PPi ce X hi mh):PEi ce X (.Subscript a (.Slice lo hi none p2) pos) (eSl g ma ml mh):=by
 intro pins s σ H ι σi h Q E N K
 refine Subscript_ (he.run N K λ x h1 v s1 H1 ι1 N1 n1 r1 K1=>?_)
 refine wpAny_Slice (PX.run hl N1 K1 λ l h2 vl s2 H2 ι2 N2 n2 pl K2=>PX.run hu N2 K2 λ u h3 vu s3 H3 ι3 N3 n3 pu K3=>?_)
 rw[evalPart_none]
 refine Zu ?_
 have I4:Inv X pins σ H3 { s3 with heap:=s3.heap.push { cls:=.type "slice",data:=.fields #[vl,vu,.none] } }:=N3.inv.kept (t':=s3.toks) λ b ob q=>Zg _ q
 obtain⟨T,id,hT,ht,hg⟩:=hr pins { s3 with heap:=s3.heap.push { cls:=.type "slice",data:=.fields #[vl,vu,.none] } } σ H3 ι3 σi h3 x v vl vu l u s3.heap.objs.size Q E ⟨I4,N3.rel,N3.st⟩ ((r1.mono n2).mono n3) (Heap.IsSliceOf.new ..) pl pu K3
 show Zs (Z6 X.prog X.w) X.A (Zdz a (.Slice lo hi none p2) v (.ref s3.heap.objs.size)) Q E { s3 with heap:=s3.heap.push { cls:=.type "slice",data:=.fields #[vl,vu,.none] } }
 exact tail_any (ops:=[.ref s3.heap.objs.size,v]) ht hT hg (by with_unfolding_all rfl)
def eCB (f:List IV->IH->Res IV)(a:A1):E1:=λ σ h=>(a σ h).bind f
variable {es:List Expr}{mr:A1}{x:Str}{p:Pos}{id T:String}{g:List IV->IH->Res IV}
theorem VD (hc:Qu ce X (.builtin id) g)(hg:Gl X x)(hm:X.mg x=none)(hv:ZbZ x=some (.builtin id))(ha:PAi ce X (a::es) mr)(hn:x≠"__name__":=by decide)(hdb:(x==("__debug__":Str))=false:=by decide)
  (he:Z8 (a::es) X.env=(false,ZaK a X.env)::Z8 es X.env:=by rfl)(hpl:(ZaT pos (Z8 es X.env)).any (·.1)=false:=by rfl):PEi ce X (.Call (.Name x p) (a::es) [] pos) (eCB g mr):=λ pins s σ H ι σi h Q E N K =>
 Zad (QC N.inv hg hm hv (Zb8 ((ha pos).run N K λ xs h1 us s1 H1 ι1 N1 n1 r1 K1=>hc pins s1 σ H1 ι1 σi h1 xs us Q E N1 r1 K1) he hpl) hn hdb)
theorem Jr5 (hc:Qu ce X (.type T) g)(hg:Gl X x)(hm:X.mg x=none)(hv:ZbZ x=some (.type T))(ha:PAi ce X (a::es) mr)(hn:x≠"__name__":=by decide)(hdb:(x==("__debug__":Str))=false:=by decide)
  (he:Z8 (a::es) X.env=(false,ZaK a X.env)::Z8 es X.env:=by rfl)(hpl:(ZaT pos (Z8 es X.env)).any (·.1)=false:=by rfl):PEi ce X (.Call (.Name x p) (a::es) [] pos) (eCB g mr):=λ pins s σ H ι σi h Q E N K =>
 Zad (QC N.inv hg hm hv (ZaR ((ha pos).run N K λ xs h1 us s1 H1 ι1 N1 n1 r1 K1=>hc pins s1 σ H1 ι1 σi h1 xs us Q E N1 r1 K1) he hpl) hn hdb)
def on1 (f:IV->IH->Res IV):List IV->IH->Res IV
 | [x],h=>f x h
 | _,_=>.stuck
def on2 (f:IV->IV->IH->Res IV):List IV->IH->Res IV
 | [x,y],h=>f x y h
 | _,_=>.stuck
theorem RVs.one_of {K:W.Frag}{ι:List Zd}{H:Hp}{x:IV}{vs:List V}(r:RVs K ι H [x] vs):∃v,vs=[v]/\RV K ι H x v:=by
 obtain⟨v,r',e,q,q2⟩:=r
 have e2:r'=[]:=q2
 subst e2
 exact⟨v,e,q⟩
theorem RVs.two_of {K:W.Frag}{ι:List Zd}{H:Hp}{x y:IV}{vs:List V}(r:RVs K ι H [x,y] vs):∃v w,vs=[v,w]/\RV K ι H x v/\RV K ι H y w:=by
 obtain⟨v,r',e,q,r2⟩:=r
 obtain⟨w,e2,q2⟩:=r2.one_of
 subst e2
 exact⟨v,w,e,q,q2⟩
theorem VA {fv:Za}{f:IV->IH->Res IV}(hh:∀(pins:List (Zd×Obj))(s:Zc)(σ:L2.St)(H:Hp)(ι:List Zd)(σi:ISt)(h:IH)(x:IV)(xv:V)(u:Za)(Q:Za->Zc->Prop)(E:Za->Zc->Prop),Now ce X pins ι σi h σ H s->RelV xv u->RV X.K ι H x xv ->
  Kont ce X RU pins ι σi σ H (f x h) Q E->Zs (Z6 X.prog X.w) X.A (call fv [u]) Q E s):Qu ce X fv (on1 f):=by
 intro pins s σ H ι σi h xs us Q E N r K
 obtain⟨vs,rv,q⟩:=r
 match xs,K with
 | [x],K =>
  obtain⟨v,e,qx⟩:=q.one_of
  subst e
  obtain⟨u,rfl,ru⟩:=QU rv
  exact hh pins s σ H ι σi h x v u Q E N ru qx K
 | [],K=>exact Zf K
 | _::_::_,K=>exact Zf K
noncomputable def lenI:IV->IH->Res IV
 | .str x,h=>if x.length<=sizeLine then .ok (.int x.length) h else .stuck
 | .tup xs,h=>.ok (.int xs.length) h
 | .rol xs,h=>.ok (.int xs.length) h
 | .ref i,h=>match h[i]? with
  | some (.lst xs)=>.ok (.int xs.length) h
  | _=>.stuck
 | _,_=>.stuck
theorem J3m:Qu ce X (.builtin "len") (on1 lenI):=VA λ pins s σ H ι σi h x xv u Q E N ru qx K=>by
 cases x with
 | str y =>
  have e:xv=.str y:=qx
  subst e
  dsimp only[lenI] at K
  split at K
  ·rename_i hz
   exact QT (Jfz (X:=X.wish E)) N.inv (.cons ru .nil) ⟨_,_,rfl,⟨hz,rfl⟩,fin0 N K rfl⟩
  ·exact Zf K
 | tup xs =>
  obtain⟨a,vs,e1,sa,ra⟩:=qx
  subst e1
  exact QT (Jfz (X:=X.wish E)) N.inv (.cons ru .nil) ⟨_,xs.length,rfl,.inr ⟨vs,sa,ra.length.symm⟩,fin0 N K rfl⟩
 | rol xs =>
  obtain⟨a,vs,e1,sa,ra⟩:=qx
  subst e1
  exact QT (Jfz (X:=X.wish E)) N.inv (.cons ru .nil) ⟨_,xs.length,rfl,.inl ⟨vs,sa.sq,ra.length.symm⟩,fin0 N K rfl⟩
 | ref i =>
  obtain⟨a,e1,ha⟩:=qx
  subst e1
  dsimp only[lenI] at K
  cases hi:h[i]? with
  | none=>rw[hi] at K;exact Zf K
  | some ob =>
   rw[hi] at K
   cases ob with
   | lst xs =>
    obtain⟨vs,e1,r1⟩:=N.at hi ha
    exact QT (Jfz (X:=X.wish E)) N.inv (.cons ru .nil) ⟨_,xs.length,rfl,.inl ⟨vs,SqL.of e1,r1.length.symm⟩,fin0 N K rfl⟩
   | _=>exact Zf K
 | _=>exact Zf K
end
def ALen (n:Nat)(m:A1):Prop:=∀σ h xs h',m σ h=.ok xs h'->xs.length=n
theorem Jt1:ALen 0 Jd:=λ _ _ xs _ e=>by
 unfold Jd at e
 cases e
 rfl
theorem Jq7 {n:Nat}{e:E1}{r:A1}(hr:ALen n r):ALen (n+1) (Jb e r):=λ σ h xs h' q=>by
 unfold Jb at q
 cases e1:e σ h with
 | ok x h1 =>
  rw[e1] at q
  change (r σ h1).bind (λ xs h2=>.ok (x::xs) h2)=_ at q
  cases e2:r σ h1 with
  | ok ys h2 =>
   rw[e2] at q
   cases q
   rw[Z7,hr σ h1 ys _ e2]
  | exc n h2=>rw[e2] at q;cases q
  | stuck=>rw[e2] at q;cases q
 | exc n h1=>rw[e1] at q;cases q
 | stuck=>rw[e1] at q;cases q
theorem hl1 {n:Nat}{ma:A1}{ds:List Za}{ps:List Str}(l:ALen n ma)(hn:n+ds.length+1=ps.length:=by rfl):∀σ h xs h',ma σ h=.ok xs h'->xs.length+ds.length+1=ps.length:=λ σ h xs h' e=>by
 rw[l σ h xs h' e]
 exact hn
def XH (K:W.Frag)(x:Str)(f:List IV->IH->Res IV):Sp:=λ vs H Q E=>∀ce,spI ce K [x] f vs H Q E
theorem Jud {P:Z5}{w:ZP}{K:W.Frag}{mg:Str->Option Za}{base:Zag}{k:Nat}{fa:Zd}{fd:Zax}{x:Str}{f:List IV->IH->Res IV}{ce:Str->Option Zd}(F:FnOk P w K mg base (CXI P w) k fa fd [x] (spI ce K [x] f)) :
  FnOk P w K mg base (CXI P w) k fa fd [x] (XH K x f):=F.imp λ _ _ _ _ h=>h ce
noncomputable def toD (h:IH):Nat->IV->Option Zcw
 | 0=>λ v=>match v with
  | .non=>some .none
  | .bl b=>some (.bool b)
  | .int i=>some (.int i)
  | .str x=>some (.str x)
  | _=>none
 | n+1=>λ v=>match v with
  | .non=>some .none
  | .bl b=>some (.bool b)
  | .int i=>some (.int i)
  | .str x=>some (.str x)
  | .tup xs=>(xs.mapM (toD h n)).map .tuple
  | .rol xs=>(xs.mapM (toD h n)).map .list
  | .ref i=>match h[i]? with
   | some (.lst xs)=>(xs.mapM (toD h n)).map .list
   | _=>none
section
variable {ce:Str->Option Zd}{X:Cx}
theorem Jb0 {pins:List (Zd×Obj)}{s:Zc}{σ:L2.St}{H:Hp}{ι:List Zd}{σi:ISt}{h:IH}{n:Nat}(N:Now ce X pins ι σi h σ H s)
  (ih:∀(v:IV)(d:Zcw)(x:V)(u:Za),toD h n v=some d->RV X.K ι H v x->RelV x u->∃as,Reads s.heap u d as) :
  ∀(xs:List IV)(ds:List Zcw)(vs:List V)(us:List Za),xs.mapM (toD h n)=some ds->RVs X.K ι H xs vs->Vals vs us->∃as,ReadsAll s.heap us ds as
 | [],ds,vs,us,e,q,r=>by
  have e1:vs=[]:=q
  subst e1
  cases r
  simp at e
  subst e
  exact⟨_,.nil⟩
 | x::xs,ds,vs,us,e,q,r=>by
  obtain⟨v,vr,e1,q1,q2⟩:=q
  subst e1
  cases r with
  | cons r1 r2 =>
   rw[ZbW] at e
   cases e2:toD h n x with
   | none=>rw[e2] at e;cases e
   | some d =>
    rw[e2] at e
    cases e3:xs.mapM (toD h n) with
    | none=>rw[e3] at e;cases e
    | some dr =>
     rw[e3] at e
     cases e
     obtain⟨as,h1⟩:=ih x d v _ e2 q1 r1
     obtain⟨bs,h2⟩:=Jb0 N ih xs dr vr _ e3 q2 r2
     exact⟨_,.cons h1 h2⟩
theorem Jf5 {pins:List (Zd×Obj)}{s:Zc}{σ:L2.St}{H:Hp}{ι:List Zd}{σi:ISt}{h:IH}(N:Now ce X pins ι σi h σ H s):∀(n:Nat)(v:IV)(d:Zcw)(x:V)(u:Za),toD h n v=some d->RV X.K ι H v x->RelV x u->∃as,Reads s.heap u d as:=by
 have flat:∀(v:IV)(d:Zcw)(x:V)(u:Za),toD h 0 v=some d->RV X.K ι H v x->RelV x u->∃as,Reads s.heap u d as:=by
  intro v d x u e q r
  cases v with
  | non=>cases e;have e1:x=.non:=q;subst e1;cases r;exact⟨_,.none⟩
  | bl b=>cases e;have e1:x=.bl b:=q;subst e1;cases r;exact⟨_,.bool b⟩
  | int i=>cases e;have e1:x=.int i:=q;subst e1;obtain⟨t,rfl⟩:=r;exact⟨_,.int i t⟩
  | str z=>cases e;have e1:x=.str z:=q;subst e1;obtain⟨t,rfl⟩:=r;exact⟨_,.str z t⟩
  | _=>cases e
 intro n
 induction n with
 | zero=>exact flat
 | succ n ih =>
  intro v d x u e q r
  cases v with
  | non=>exact flat .non d x u e q r
  | bl b=>exact flat (.bl b) d x u e q r
  | int i=>exact flat (.int i) d x u e q r
  | str z=>exact flat (.str z) d x u e q r
  | tup xs =>
   obtain⟨a,vs,e1,sa,ra⟩:=q
   subst e1
   cases r
   obtain⟨ds,e2,rfl⟩:=ZA.mp (show(xs.mapM (toD h n)).map Ze3=some d from e)
   obtain⟨its,rv,⟨o,ho,hc,m,hd⟩,hz⟩:=N.inv.tuple sa
   obtain⟨as,h1⟩:=Jb0 N ih xs ds vs its e2 ra rv
   exact⟨_,.tuple ho hc hd h1⟩
  | rol xs =>
   obtain⟨a,vs,e1,sa,ra⟩:=q
   subst e1
   cases r
   obtain⟨ds,e2,rfl⟩:=ZA.mp (show(xs.mapM (toD h n)).map ZcQ=some d from e)
   obtain⟨its,rv,⟨o,m,ho,hc,_,hd⟩,hz⟩:=N.inv.list sa.sq
   obtain⟨as,h1⟩:=Jb0 N ih xs ds vs its e2 ra rv
   exact⟨_,.list ho hc hd h1⟩
  | ref i =>
   obtain⟨a,e1,ha⟩:=q
   subst e1
   cases r
   have e':(match h[i]? with|some (.lst xs)=>(xs.mapM (toD h n)).map ZcQ|_=>none)=some d:=e
   cases hi:h[i]? with
   | none=>rw[hi] at e';cases e'
   | some ob =>
    rw[hi] at e'
    cases ob with
    | lst xs =>
     obtain⟨ds,e2,rfl⟩:=ZA.mp e'
     obtain⟨vs,e1,r1⟩:=N.at hi ha
     obtain⟨its,rv,⟨o,m,ho,hc,_,hd⟩,hz⟩:=N.inv.list (SqL.of e1)
     obtain⟨as,h1⟩:=Jb0 N ih xs ds vs its e2 r1 rv
     exact⟨_,.list ho hc hd h1⟩
    | _=>cases e'
theorem Jbz {n:Nat}{f:IV->Option Zcw}(hf:∀v d,f v=some d->d.depth<=n):∀(xs:List IV)(ds:List Zcw),xs.mapM f=some ds->PyData.depthAll ds<=n
 | [],ds,e=>by simp at e;subst e;exact ZT _
 | x::xs,ds,e=>by
  rw[ZbW] at e
  cases e2:f x with
  | none=>rw[e2] at e;cases e
  | some d =>
   rw[e2] at e
   cases e3:xs.mapM f with
   | none=>rw[e3] at e;cases e
   | some dr =>
    rw[e3] at e
    cases e
    have h1:=hf x d e2
    have h2:=Jbz hf xs dr e3
    show max d.depth (PyData.depthAll dr)<=n
    omega
theorem Jm7 {h:IH}:∀(n:Nat)(v:IV)(d:Zcw),toD h n v=some d->d.depth<=n:=by
 intro n
 induction n with
 | zero =>
  intro v d e
  cases v<;>cases e<;>exact Zl _
 | succ n ih =>
  intro v d e
  cases v with
  | non=>cases e;exact ZT _
  | bl b=>cases e;exact ZT _
  | int i=>cases e;exact ZT _
  | str z=>cases e;exact ZT _
  | tup xs =>
   obtain⟨ds,e2,rfl⟩:=ZA.mp (show(xs.mapM (toD h n)).map Ze3=some d from e)
   exact ZcK (Jbz ih xs ds e2)
  | rol xs =>
   obtain⟨ds,e2,rfl⟩:=ZA.mp (show(xs.mapM (toD h n)).map ZcQ=some d from e)
   exact ZcK (Jbz ih xs ds e2)
  | ref i =>
   have e':(match h[i]? with|some (.lst xs)=>(xs.mapM (toD h n)).map ZcQ|_=>none)=some d:=e
   cases hi:h[i]? with
   | none=>rw[hi] at e';cases e'
   | some ob =>
    rw[hi] at e'
    cases ob with
    | lst xs =>
     obtain⟨ds,e2,rfl⟩:=ZA.mp e'
     exact ZcK (Jbz ih xs ds e2)
    | _=>cases e'
noncomputable def Xc:IV->IV->Option Bool
 | .non,.non=>some true
 | .int i,.int j=>some (decide (i=j))
 | .str i,.str j=>some (decide (i=j))
 | .bl i,.bl j=>some (decide (i=j))
 | _,_=>none
noncomputable def Vb (x y:IV)(h:IH):Option Bool:=match toD h 6 x,toD h 6 y with
 | some a,some b=>if a.canLay0=true/\b.canLay0=true then some (Zb3 a b) else none
 | _,_=>none
noncomputable def cEq (x y:IV)(h:IH):Res IV:=match Xc x y with
 | some b=>.ok (.bl b) h
 | none=>match Vb x y h with
  | some b=>.ok (.bl b) h
  | none=>.stuck
noncomputable def cNe (x y:IV)(h:IH):Res IV:=match Xc x y with
 | some b=>.ok (.bl (!b)) h
 | none=>match Vb x y h with
  | some b=>.ok (.bl (!b)) h
  | none=>.stuck
theorem Jor {x y:IV}{h:IH}{b:Bool}(e:Vb x y h=some b):∃da db,toD h 6 x=some da/\toD h 6 y=some db/\da.canLay0=true/\db.canLay0=true/\b=Zb3 da db:=by
 unfold Vb at e
 cases e1:toD h 6 x with
 | none=>rw[e1] at e;cases e
 | some da =>
  cases e2:toD h 6 y with
  | none=>rw[e1,e2] at e;cases e
  | some db =>
   rw[e1,e2] at e
   dsimp only at e
   split at e
   ·rename_i hz
    cases e
    exact⟨da,db,rfl,rfl,hz.1,hz.2,rfl⟩
   ·cases e
theorem Jm3 {K:W.Frag}{ι:List Zd}{H:Hp}{x y:IV}{b:Bool}{xv yv:V}(e:Xc x y=some b)(qx:RV K ι H x xv)(qy:RV K ι H y yv):scal xv yv=true/\decide (xv=yv)=b:=by
 cases x with
 | non =>
  cases y with
  | non=>cases e;cases (show xv=.non from qx);cases (show yv=.non from qy);exact⟨rfl,rfl⟩
  | _=>cases e
 | int i =>
  cases y with
  | int j=>cases e;cases (show xv=.int i from qx);cases (show yv=.int j from qy);exact⟨rfl,by simp⟩
  | _=>cases e
 | str i =>
  cases y with
  | str j=>cases e;cases (show xv=.str i from qx);cases (show yv=.str j from qy);exact⟨rfl,by simp⟩
  | _=>cases e
 | bl i =>
  cases y with
  | bl j=>cases e;cases (show xv=.bl i from qx);cases (show yv=.bl j from qy);exact⟨rfl,by simp⟩
  | _=>cases e
 | _=>cases y<;>cases e
theorem o_eq (hu:X.A.units+64<cLine):OpI ce X (Zas .Eq) cEq:=by
 intro pins s σ H ι σi h x y v u Q E N rx ry K
 obtain⟨xv,rx,qx⟩:=rx
 obtain⟨yv,ry,qy⟩:=ry
 unfold cEq at K
 cases es:Xc x y with
 | some b =>
  rw[es] at K
  obtain⟨h1,h2⟩:=Jm3 es qx qy
  exact JW (J4l (X:=X.wish E)) N.inv rx ry ⟨h1,by rw[h2];exact fin0 N K rfl⟩
 | none =>
  rw[es] at K
  dsimp only at K
  cases ed:Vb x y h with
  | none=>rw[ed] at K;exact Zf K
  | some b =>
   rw[ed] at K
   obtain⟨da,db,e1,e2,c1,c2,rfl⟩:=Jor ed
   obtain⟨as,r1⟩:=Jf5 N 6 x da xv v e1 qx rx
   obtain⟨bs,r2⟩:=Jf5 N 6 y db yv u e2 qy ry
   have d1:=Jm7 6 x da e1
   exact PySem.SeqAt.compareEq_reads r1 r2 c1 c2 (by omega) (fin0 N K rfl _ s N.inv rfl)
theorem o_ne (hu:X.A.units+64<cLine):OpI ce X (Zas .NotEq) cNe:=by
 intro pins s σ H ι σi h x y v u Q E N rx ry K
 obtain⟨xv,rx,qx⟩:=rx
 obtain⟨yv,ry,qy⟩:=ry
 unfold cNe at K
 cases es:Xc x y with
 | some b =>
  rw[es] at K
  obtain⟨h1,h2⟩:=Jm3 es qx qy
  exact JW (J4q (X:=X.wish E)) N.inv rx ry ⟨h1,by rw[h2];exact fin0 N K rfl⟩
 | none =>
  rw[es] at K
  dsimp only at K
  cases ed:Vb x y h with
  | none=>rw[ed] at K;exact Zf K
  | some b =>
   rw[ed] at K
   obtain⟨da,db,e1,e2,c1,c2,rfl⟩:=Jor ed
   obtain⟨as,r1⟩:=Jf5 N 6 x da xv v e1 qx rx
   obtain⟨bs,r2⟩:=Jf5 N 6 y db yv u e2 qy ry
   have d1:=Jm7 6 x da e1
   exact PySem.SeqAt.compareNe_reads r1 r2 c1 c2 (by omega) (fin0 N K rfl _ s N.inv rfl)
noncomputable def isI:IV->IV->Option Bool
 | .non,.non=>some true
 | .bl a,.bl b=>some (a==b)
 | .bl _,.non=>some false
 | .int _,.non=>some false
 | .str _,.non=>some false
 | .tup _,.non=>some false
 | .rol _,.non=>some false
 | .ref _,.non=>some false
 | .non,.bl _=>some false
 | .int _,.bl _=>some false
 | .str _,.bl _=>some false
 | .tup _,.bl _=>some false
 | .rol _,.bl _=>some false
 | .ref _,.bl _=>some false
 | _,_=>none
noncomputable def cIs (x y:IV)(h:IH):Res IV:=match isI x y with
 | some b=>.ok (.bl b) h
 | none=>.stuck
noncomputable def Jom (x y:IV)(h:IH):Res IV:=match isI x y with
 | some b=>.ok (.bl (!b)) h
 | none=>.stuck
theorem Jww {K:W.Frag}{ι:List Zd}{H:Hp}{x y:IV}{b:Bool}{v u:Za}(e:isI x y=some b)(rx:RU K ι H x v)(ry:RU K ι H y u):plainIs v u=true/\(v==u)=b:=by
 obtain⟨xv,rx,qx⟩:=rx
 obtain⟨yv,ry,qy⟩:=ry
 cases y with
 | non =>
  cases (show yv=.non from qy)
  cases ry
  cases x with
  | non=>cases e;cases (show xv=.non from qx);cases rx;exact⟨rfl,rfl⟩
  | bl c=>cases e;cases (show xv=.bl c from qx);cases rx;exact⟨rfl,rfl⟩
  | int c=>cases e;cases (show xv=.int c from qx);obtain⟨t,rfl⟩:=rx;exact⟨rfl,rfl⟩
  | str c=>cases e;cases (show xv=.str c from qx);obtain⟨t,rfl⟩:=rx;exact⟨rfl,rfl⟩
  | tup c=>cases e;obtain⟨a,vs,rfl,_⟩:=qx;cases rx;exact⟨rfl,rfl⟩
  | rol c=>cases e;obtain⟨a,vs,rfl,_⟩:=qx;cases rx;exact⟨rfl,rfl⟩
  | ref c=>cases e;obtain⟨a,rfl,_⟩:=qx;cases rx;exact⟨rfl,rfl⟩
 | bl d =>
  cases (show yv=.bl d from qy)
  cases ry
  cases x with
  | non=>cases e;cases (show xv=.non from qx);cases rx;exact⟨rfl,rfl⟩
  | bl c=>cases e;cases (show xv=.bl c from qx);cases rx;cases c<;>cases d<;>exact⟨rfl,rfl⟩
  | int c=>cases e;cases (show xv=.int c from qx);obtain⟨t,rfl⟩:=rx;exact⟨rfl,rfl⟩
  | str c=>cases e;cases (show xv=.str c from qx);obtain⟨t,rfl⟩:=rx;exact⟨rfl,rfl⟩
  | tup c=>cases e;obtain⟨a,vs,rfl,_⟩:=qx;cases rx;exact⟨rfl,rfl⟩
  | rol c=>cases e;obtain⟨a,vs,rfl,_⟩:=qx;cases rx;exact⟨rfl,rfl⟩
  | ref c=>cases e;obtain⟨a,rfl,_⟩:=qx;cases rx;exact⟨rfl,rfl⟩
 | _=>cases x<;>cases e
theorem o_is:OpI ce X (Zas .Is) cIs:=by
 intro pins s σ H ι σi h x y v u Q E N rx ry K
 unfold cIs at K
 cases ei:isI x y with
 | none=>rw[ei] at K;exact Zf K
 | some b =>
  rw[ei] at K
  obtain⟨h1,h2⟩:=Jww ei rx ry
  exact wpAny_is_plain h1 (by rw[h2];exact fin0 N K rfl _ s N.inv rfl)
theorem Jzh:OpI ce X (Zas .IsNot) Jom:=by
 intro pins s σ H ι σi h x y v u Q E N rx ry K
 unfold Jom at K
 cases ei:isI x y with
 | none=>rw[ei] at K;exact Zf K
 | some b =>
  rw[ei] at K
  obtain⟨h1,h2⟩:=Jww ei rx ry
  exact wpAny_isNot_plain h1 (by rw[h2];exact fin0 N K rfl _ s N.inv rfl)
inductive Ty where
 | non|bl|int|str|lst|tup|dct|ins (c:Str)|exc (c:Str)
noncomputable def tyI:IV->IH->Option Ty
 | .non,_=>some .non
 | .bl _,_=>some .bl
 | .int _,_=>some .int
 | .str _,_=>some .str
 | .tup _,_=>some .tup
 | .rol _,_=>some .lst
 | .ref i,h=>match h[i]? with
  | some (.lst _)=>some .lst
  | some (.dct _)=>some .dct
  | some (.ins c _)=>some (.ins c)
  | _=>none
structure ClsI (K:W.Frag)(C:Zd):Prop where
 cl:Cls K C
 ha:W.findIn K (.ref C) "__class__"=some (some (.builtin "object.__class__"))
 hn:W.specialIn K (.builtin "object.__class__") "__get__"=some (some (.builtin "getset_descriptor.__get__"))
 htk:W.takesIn K (.builtin "object.__class__")=some true
 hm:W.mroIn K C (.type "object")=some true
structure IsOk (ce:Str->Option Zd)(K:W.Frag)(c:Za)(ans:Ty->Option Bool):Prop where
 non:∀b,ans .non=some b->W.kitOne K (.type "NoneType") c=some b
 bl:∀b,ans .bl=some b->W.kitOne K (.type "bool") c=some b
 int:∀b,ans .int=some b->W.kitOne K (.type "int") c=some b
 str:∀b,ans .str=some b->W.kitOne K (.type "str") c=some b
 lst:∀b,ans .lst=some b->W.kitOne K (.type "list") c=some b
 tup:∀b,ans .tup=some b->W.kitOne K (.type "tuple") c=some b
 dct:∀b,ans .dct=some b->W.kitOne K (.type "dict") c=some b
 ins:∀k C b,ans (.ins k)=some b->ce k=some C->ClsI K C/\W.kitOne K (.ref C) c=some b
 exc:∀k C b,ans (.exc k)=some b->W.nsIn K Zx k=some (some (.ref C))->ExI K C/\W.kitOne K (.ref C) c=some b
def eIsi (ans:Ty->Option Bool)(e:E1):E1:=λ σ h=>(e σ h).bind λ v h1=>match (tyI v h1).bind ans with
 | some b=>.ok (.bl b) h1
 | none=>.stuck
theorem Jy5 {pins:List (Zd×Obj)}{s:Zc}{σ:L2.St}{H:Hp}{ι:List Zd}{σi:ISt}{h:IH}{x:IV}{u c:Za}{ans:Ty->Option Bool}{b:Bool}{Q:Za->Zc->Prop}{E:Za->Zc->Prop}{A:ZI}(N:Now ce X pins ι σi h σ H s)(rx:RU X.K ι H x u)(O:IsOk ce X.K c ans)
  (e:(tyI x h).bind ans=some b)(hq:∀tk,Q (.bool b) { s with toks:=tk }):Zs (Z6 X.prog X.w) A (call (.builtin "isinstance") [u,c]) Q E s:=by
 obtain⟨xv,rx,qx⟩:=rx
 cases x with
 | non=>cases (show xv=.non from qx);cases rx;exact W.kia_one W.kitx_none N.inv.kIn Zaj (O.non b e) (λ z=>nomatch z) hq
 | bl i=>cases (show xv=.bl i from qx);cases rx;exact W.kia_one W.kitx_bool N.inv.kIn Zaj (O.bl b e) (λ z=>nomatch z) hq
 | int i=>cases (show xv=.int i from qx);obtain⟨t,rfl⟩:=rx;exact W.kia_one W.kitx_int N.inv.kIn Zaj (O.int b e) (λ z=>nomatch z) hq
 | str i=>cases (show xv=.str i from qx);obtain⟨t,rfl⟩:=rx;exact W.kia_one W.kitx_str N.inv.kIn Zaj (O.str b e) (λ z=>nomatch z) hq
 | tup xs =>
  obtain⟨a,vs,rfl,sa,_⟩:=qx
  cases rx
  obtain⟨its,rv,⟨o,ho,hc,m,hd⟩,hz⟩:=N.inv.tuple sa
  exact W.kia_one W.kitx_tuple N.inv.kIn ⟨o,ho,hc⟩ (O.tup b e) (λ z=>nomatch z) hq
 | rol xs =>
  obtain⟨a,vs,rfl,sa,_⟩:=qx
  cases rx
  obtain⟨its,rv,⟨o,m,ho,hc,_,hd⟩,hz⟩:=N.inv.list sa.sq
  exact W.kia_one W.kitx_list N.inv.kIn ⟨o,ho,hc⟩ (O.lst b e) (λ z=>nomatch z) hq
 | ref i =>
  obtain⟨a,rfl,ha⟩:=qx
  cases rx
  cases hi:h[i]? with
  | none=>simp[tyI,hi] at e
  | some ob =>
   cases ob with
   | lst xs =>
    simp only[tyI,hi] at e
    obtain⟨vs,e1,r1⟩:=N.at hi ha
    obtain⟨its,rv,⟨o,m,ho,hc,_,hd⟩,hz⟩:=N.inv.list (SqL.of e1)
    exact W.kia_one W.kitx_list N.inv.kIn ⟨o,ho,hc⟩ (O.lst b e) (λ z=>nomatch z) hq
   | dct kvs =>
    simp only[tyI,hi] at e
    obtain⟨vs,e1,r1⟩:=N.at hi ha
    obtain⟨_,_,ws,_,p⟩:=(show JG X.prog X.w H s.heap a (.dK vs) from N.inv.hok a _ e1)
    obtain⟨o,es,ep,h1,h2,_⟩:=p
    exact W.kia_one W.kitx_dict N.inv.kIn ⟨o,h1,h2.1⟩ (O.dct b e) (λ z=>nomatch z) hq
   | ins c fs =>
    simp only[tyI,hi] at e
    obtain⟨C,dx,vs,hC,hH,rp⟩:=N.at hi ha
    obtain⟨I,hk⟩:=O.ins c C b e hC
    obtain⟨mA,Ob,_⟩:=Jkb N.inv.hok hH
    obtain⟨od,J,_⟩:=Ob.look
    exact W.kia_one (W.kitx_own (I.cl.get _) I.cl.hd I.ha I.hn I.htk I.hm) N.inv.kIn J hk (λ z=>nomatch z) hq
   | exc c fs=>simp[tyI,hi] at e
   | hld c fs=>simp[tyI,hi] at e
   | tab q=>simp[tyI,hi] at e
variable {a cx:Expr}{ma:E1}{pos p:Pos}
def ClsE (X:Cx)(cx:Expr)(c:Za):Prop:=∀(pins:List (Zd×Obj))(σ:L2.St)(H:Hp)(s:Zc)(Q:Za->Zc->Prop)(E:Za->Zc->Prop),Inv X pins σ H s->Q c s->Zs (Z6 X.prog X.w) X.A (ZaK cx X.env) Q E s
theorem XZ {x:Str}{c:Za}(hg:Gl X x)(hm:X.mg x=none)(hv:ZbZ x=some c)(hn:x≠"__name__":=by decide)(hdb:(x==("__debug__":Str))=false:=by decide):ClsE X (.Name x p) c:=λ _ _ _ _ _ _ I q=>QC I hg hm hv q hn hdb
theorem Jye {x:Str}{c:Za}(hg:Gl X x)(hm:X.mg x=some c)(hdb:(x==("__debug__":Str))=false:=by decide):ClsE X (.Name x p) c:=λ _ _ _ _ _ _ I q=>VW I hg hm q hdb
theorem J35 {ans:Ty->Option Bool}{c:Za}(hc:ClsE X cx c)(O:IsOk ce X.K c ans)(ha:PEi ce X a ma)(hg:Gl X "isinstance")(hm:X.mg "isinstance"=none)(hv:ZbZ "isinstance"=some (.builtin "isinstance"):=by rfl)
  (he:Z8 [a,cx] X.env=(false,ZaK a X.env)::Z8 [cx] X.env:=by rfl)(he2:Z8 [cx] X.env=(false,ZaK cx X.env)::Z8 [] X.env:=by rfl)(hpl:(ZaT pos (Z8 [cx] X.env)).any (·.1)=false:=by rfl):PEi ce X (.Call (.Name "isinstance" p) [a,cx] [] pos) (eIsi ans ma):=by
 intro pins s σ H ι σi h Q E N K
 refine Zad (QC N.inv hg hm hv ?_ (by decide) (by decide))
 refine Zb8 ?_ he hpl
 rw[he]
 show Zs _ _ (spliced ((false,ZaK a X.env)::ZaT pos (Z8 [cx] X.env))) _ _ s
 refine Zdn (ha.run N K λ x h1 u s1 H1 ι1 N1 n1 r1 K1=>?_)
 rw[he2]
 show Zs _ _ (spliced ((false,ZaK cx X.env)::ZaT pos (Z8 [] X.env))) _ _ s1
 refine Zdn (hc pins σ H1 s1 _ E N1.inv ?_)
 refine Calls.spliced_nil ?_
 cases e:(tyI x h1).bind ans with
 | none=>rw[e] at K1;exact Zf K1
 | some b =>
  rw[e] at K1
  exact Jy5 N1 r1 O e λ tk=>K1 _ _ H1 ι1 ⟨N1.inv.tok tk,N1.rel,N1.st⟩ .refl ⟨.bl b,rfl,rfl⟩
def V7:Ty->Option Bool
 | .int=>some true|.bl=>some true|.ins _=>none|.exc _=>none|_=>some false
def V6:Ty->Option Bool
 | .bl=>some true|.ins _=>none|.exc _=>none|_=>some false
def V9:Ty->Option Bool
 | .str=>some true|.ins _=>none|.exc _=>none|_=>some false
def QZ:Ty->Option Bool
 | .lst=>some true|.ins _=>none|.exc _=>none|_=>some false
def Vw:Ty->Option Bool
 | .tup=>some true|.ins _=>none|.exc _=>none|_=>some false
theorem Jsc {K:W.Frag}:IsOk ce K (.type "bool") V6:=by
 refine⟨?_,?_,?_,?_,?_,?_,?_,(λ k C b e=>by cases e),(λ k C b e=>by cases e)⟩<;>(intro b e;cases e;first|rfl|with_unfolding_all rfl|kernel_rfl)
theorem Juo {K:W.Frag}:IsOk ce K (.type "str") V9:=by
 refine⟨?_,?_,?_,?_,?_,?_,?_,(λ k C b e=>by cases e),(λ k C b e=>by cases e)⟩<;>(intro b e;cases e;first|rfl|with_unfolding_all rfl|kernel_rfl)
theorem Jmg {K:W.Frag}:IsOk ce K (.type "list") QZ:=by
 refine⟨?_,?_,?_,?_,?_,?_,?_,(λ k C b e=>by cases e),(λ k C b e=>by cases e)⟩<;>(intro b e;cases e;first|rfl|with_unfolding_all rfl|kernel_rfl)
theorem Jup {K:W.Frag}:IsOk ce K (.type "tuple") Vw:=by
 refine⟨?_,?_,?_,?_,?_,?_,?_,(λ k C b e=>by cases e),(λ k C b e=>by cases e)⟩<;>(intro b e;cases e;first|rfl|with_unfolding_all rfl|kernel_rfl)
theorem Jun {K:W.Frag}:IsOk ce K (.type "int") V7:=by
 refine⟨?_,?_,?_,?_,?_,?_,?_,(λ k C b e=>by cases e),(λ k C b e=>by cases e)⟩<;>(intro b e;cases e;first|rfl|with_unfolding_all rfl|kernel_rfl)
end
def clOf (cells:List (Str×Zd)):List (Str×Zbf)->List (Str×Zd)->List (Str×Zd)
 | [],acc=>acc
 | (n,k)::r,acc=>clOf cells r (if (k==Za0)=true then(match cells.lookup n with|some c=>(n,c)::acc|none=>acc) else acc)
theorem Jh9 {env:Env}(names:List (Str×Zbf))(acc:List (Str×Zd))(h:∀x∈names,x.2=.free->∃c,env.cells.lookup x.1=some c) :
  (forIn names acc (λ (x:Str×Zbf)(r:List (Str×Zd))=>if (x.2==Za0)=true then(do let c<-cellOf env x.1;pure (ZaH ((x.1,c)::r))) else pure (ZaH r)):Sem (List (Str×Zd)))=pure (clOf env.cells names acc):=by
 induction names generalizing acc with
 | nil=>rfl
 | cons x r ih =>
  obtain⟨n,k⟩:=x
  have ih':=λ a=>ih a λ y hy=>h y (Zm _ hy)
  rw[List.forIn_cons]
  by_cases hk:(k==Za0)=true
  ·have hk':k=.free:=by
    cases k<;>first|rfl|exact absurd hk (by decide)
   obtain⟨c,hc⟩:=h (n,k) Z3 hk'
   have e1:cellOf env n=pure c:=by unfold cellOf;rw[hc]
   simp only[hk,if_true,e1,pure_bind]
   rw[ih']
   simp only[clOf,hk,if_true,hc]
  ·simp only[hk,ZU,if_false,pure_bind]
   rw[ih']
   simp only[clOf,hk,ZU,if_false]
theorem Jbl {scope:ZaU}{env:Env}(h:∀x∈scope.names,x.2=.free->∃c,env.cells.lookup x.1=some c):Zdp scope env=pure (clOf env.cells scope.names []):=by
 have e:=Jh9 (env:=env) scope.names [] h
 have e2:Zdp scope env=((forIn scope.names [] (λ (x:Str×Zbf)(r:List (Str×Zd))=>if (x.2==Za0)=true then(do let c<-cellOf env x.1;pure (ZaH ((x.1,c)::r))) else pure (ZaH r)):Sem (List (Str×Zd)))>>=λ s=>pure s):=rfl
 rw[e2,e]
 rfl
theorem Jj1 {cells:List (Str×Zd)}:∀(names:List (Str×Zbf))(acc:List (Str×Zd)),(∀x c,acc.lookup x=some c->cells.lookup x=some c)->∀x c,(clOf cells names acc).lookup x=some c->cells.lookup x=some c
 | [],_,h,x,c,e=>h x c e
 | (n,k)::r,acc,h,x,c,e=>by
  refine Jj1 r _ ?_ x c e
  intro y d q
  split at q
  ·cases hc:cells.lookup n with
   | none=>rw[hc] at q;exact h y d q
   | some a =>
    rw[hc] at q
    simp only[ZX] at q
    cases hb:y==n with
    | true =>
     rw[hb] at q
     cases q
     rw[beq_iff_eq.mp hb]
     exact hc
    | false =>
     rw[hb] at q
     exact h y d q
  ·exact h y d q
theorem Jlu {cells:List (Str×Zd)}:∀(names:List (Str×Zbf))(acc:List (Str×Zd))(x:Str),(acc.lookup x).isSome=true->((clOf cells names acc).lookup x).isSome=true
 | [],_,_,h=>h
 | (n,k)::r,acc,x,h=>by
  refine Jlu r _ x ?_
  split
  ·cases hc:cells.lookup n with
   | none=>exact h
   | some a =>
    simp only[ZX]
    cases hb:x==n with
    | true=>rfl
    | false=>exact h
  ·exact h
theorem XY {cells:List (Str×Zd)}:∀(names:List (Str×Zbf))(acc:List (Str×Zd))(x:Str)(c:Zd),(x,Za0)∈names->cells.lookup x=some c->((clOf cells names acc).lookup x).isSome=true
 | [],_,_,_,h,_=>by simp at h
 | (n,k)::r,acc,x,c,h,hc=>by
  rcases Z4.mp h with e|e
  ·obtain⟨rfl,rfl⟩:=Prod.mk.inj e
   refine Jlu r _ _ ?_
   simp[hc]
  ·exact XY r _ x c e hc
theorem Jbb {env:Env}:∀{names:List (Str×Zbf)}{x:Str}{k:Zbf},
  (names.map λ (n,k)=>if (k==Za0&&env.scope.kind==.function&&env.kindOf n==some .cell) then(n,Zd0) else(n,k)).lookup x=some k ->
  ∃k0,names.lookup x=some k0/\(k,k0)∈([(k0,k0),(.cell,.free)]:List (Zbf×Zbf))
 | [],_,_,h=>by simp at h
 | (n,k1)::r,x,k,h=>by
  have ih:=@Jbb env r x k
  have h':Zbv x ((if (k1==Za0&&env.scope.kind==.function&&env.kindOf n==some .cell)=true then(n,Zd0) else(n,k1))::_)=some k:=h
  cases hx:x==n with
  | true =>
   refine⟨k1,by simp[ZX,hx],?_⟩
   by_cases hc:(k1==Za0&&env.scope.kind==.function&&env.kindOf n==some .cell)=true
   ·rw[if_pos hc] at h'
    simp only[ZX,hx] at h'
    cases h'
    simp only[Zn,beq_iff_eq] at hc
    rw[hc.1.1]
    simp
   ·rw[if_neg hc] at h'
    simp only[ZX,hx] at h'
    cases h'
    simp
  | false =>
   have h2:Zbv x (r.map λ (n,k)=>if (k==Za0&&env.scope.kind==.function&&env.kindOf n==some .cell) then(n,Zd0) else(n,k))=some k:=by
    by_cases hc:(k1==Za0&&env.scope.kind==.function&&env.kindOf n==some .cell)=true
    ·rw[if_pos hc] at h';simpa only[ZX,hx] using h'
    ·rw[if_neg hc] at h';simpa only[ZX,hx] using h'
   obtain⟨k0,e,m⟩:=ih h2
   exact⟨k0,by simp only[ZX,hx];exact e,m⟩
theorem Jfo {env:Env}:∀{names:List (Str×Zbf)}{x:Str},names.lookup x=some .free ->
  ∃k,(names.map λ (n,k)=>if (k==Za0&&env.scope.kind==.function&&env.kindOf n==some .cell) then(n,Zd0) else(n,k)).lookup x=some k/\(k=.cell∨k=.free)
 | [],_,h=>by simp at h
 | (n,k1)::r,x,h=>by
  have ih:=@Jfo env r x
  cases hx:x==n with
  | true =>
   simp only[ZX,hx] at h
   cases h
   by_cases hc:(Za0==Za0&&env.scope.kind==.function&&env.kindOf n==some .cell)=true
   ·exact⟨.cell,by rw[Z0];dsimp only;rw[if_pos hc];simp only[ZX,hx],.inl rfl⟩
   ·exact⟨.free,by rw[Z0];dsimp only;rw[if_neg hc];simp only[ZX,hx],.inr rfl⟩
  | false =>
   simp only[ZX,hx] at h
   obtain⟨k,e,q⟩:=ih h
   refine⟨k,?_,q⟩
   rw[Z0]
   dsimp only
   by_cases hc:(k1==Za0&&env.scope.kind==.function&&env.kindOf n==some .cell)=true
   ·rw[if_pos hc];simp only[ZX,hx];exact e
   ·rw[if_neg hc];simp only[ZX,hx];exact e
def cxC (X:Cx)(N':List Str)(scope:ZaU)(C:Zd)(s:Zc)(H:Hp)(fp:List Zd):Cx :=
 { X with N:=N',s₀:=s,H₀:=H,env:=compEnvC scope (clOf X.env.cells scope.names []) C X.env,outer:=X.stack,ex:=fp,fn:=λ _=>false,pn:=[] }
def Q6 (N0 loc caps:List Str)(js:List Nat)(sc₀ scope:ZaU):Bool :=
 decide (scope.kind=.function)&&decide (sc₀.kind=.function)&&scope.names.all (λ x=>!(x.2==.cell))&&scope.names.all (λ x=>!(x.2==.local)||decide (scope.names.lookup x.1=some .local)) &&
 scope.names.all (λ x=>!(x.2==.free)||decide (sc₀.names.lookup x.1=some .cell)||decide (sc₀.names.lookup x.1=some .free)) &&
 scope.names.all (λ x=>!(decide (scope.names.lookup x.1=some .free))||(x.2==.free)) &&
 (js.zip caps).all (λ p=>decide (N0[p.1]?=some p.2)&&decide (scope.names.lookup p.2=some .free))&&decide (js.length=caps.length)&&decide (loc++caps).Nodup &&
 loc.all (λ n=>decide (scope.names.lookup n=some .local))
open Classical in
def JD (chk:IH->Prop)(g:G1)(t:T1)(e:E1)(i0:Nat):List IV->ISt->IH->Res IV
 | [],_,h=>if chk h then .ok (.ref i0) h else .stuck
 | x::xs,σ,h=>if chk h then(match g x σ h with
   | .next σ1 h1=>(match t σ1 h1 with
    | .ok true h2=>(match e σ1 h2 with
     | .ok v h3=>(match h3[i0]? with
      | some (.lst acc)=>if acc.length<sizeLine then JD chk g t e i0 xs σ1 (h3.set i0 (.lst (acc++[v]))) else .stuck
      | _=>.stuck)
     | _=>.stuck)
    | .ok false h2=>JD chk g t e i0 xs σ1 h2
    | _=>.stuck)
   | _=>.stuck) else .stuck
def stC (nloc:Nat)(js:List Nat)(σ:ISt):ISt:=ZJ nloc none++js.map λ j=>(σ[j]?).join
def Jy (it:I1)(nloc:Nat)(js:List Nat)(g:G1)(t:T1)(e:E1):E1:=λ σ h=>(it σ h).bind λ J h1=>JD J.chk g t e h1.length J.xs (stC nloc js σ) (h1++[.lst []])
theorem Jlw {prog:Z5}{w:ZP}{A:ZI}{R:ZdK->Zc->Prop}{s:Zc}{elt target iter:Expr}{ifs:List Expr}{scope:ZaU}{pos:Pos}{it acc:Za}{env:Env}(I:Nat->Zc->Prop)
  (turn:∀n s,I n s->Zs (Z6 prog w) A (ZbU it) (λ r s₁=>match r with
   | none=>R (.ok .next) s₁
   | some v=>Zs (Z6 prog w) A (Zco target it v) (λ _ s₁'=>Zs (Z6 prog w) A (ZdN target env v) (λ _ s₂ =>
     Zs (Z6 prog w) A (forIn ifs true λ c r=>if r=true then do let ok<-isTrue c env (ZaK c env);pure (ZaH ok) else pure (ZaH r)) (λ ok s₃ =>
      if ok=true then Zs (Z6 prog w) A (ZaK elt env) (λ x s₄ =>
       Zs (Z6 prog w) A (call (.builtin "list.append") [acc,x]) (λ _ s₅=>∃m,m<n/\I m s₅) (λ _ _=>False) s₄) (λ _ _=>False) s₃
      else ∃m,m<n/\I m s₃) (λ _ _=>False) s₂) (λ _ _=>False) s₁') (λ _ _=>False) s₁) (λ _ _=>False) s)
  (n:Nat) (h:I n s):Zc5 (Z6 prog w) A (.compLoop (.ListComp elt [⟨target,iter,ifs,0⟩] scope pos) 0 it acc env) R s:=by
 refine codeAny_loop rfl I (λ n s hI=>?_) n h
 show Zs _ A ((compTurn (.ListComp elt [⟨target,iter,ifs,0⟩] scope pos) 0 it acc env).onRaise (λ x=>do ZdA x env;theTreesLotGoes x)) _ _ s
 refine wpAny_noted (nof ?_)
 rw[compTurn_list]
 refine Ze (Zb2 (Ze (Zae (turn n s hI) (λ r s₁ h₁=>?_) λ _ _ h'=>h')))
 cases r with
 | none=>exact Zu h₁
 | some v =>
  refine Ze (Zae h₁ (λ _ s₁' h₁'=>?_) λ _ _ h'=>h')
  refine Ze (Zae h₁' (λ _ s₂ h₂=>Ze (Zae h₂ (λ ok s₃ h₃=>?_) λ _ _ h'=>h')) λ _ _ h'=>h')
  cases ok with
  | false=>exact Zu ⟨rfl,h₃⟩
  | true =>
   exact Ze (Ze (Zae h₃ (λ x s₄ h₄=>Ze (Zae h₄ (λ _ s₅ h₅=>Zu (Zu ⟨rfl,h₅⟩)) λ _ _ h'=>h')) λ _ _ h'=>h'))
def PTsi (ce:Str->Option Zd)(X:Cx)(ifs:List Expr)(m:T1):Prop:=PX ce X RB (forIn ifs true λ c r=>if r=true then do let ok<-isTrue c X.env (ZaK c X.env);pure (ZaH ok) else pure (ZaH r)) m
noncomputable def J4:T1:=λ _ h=>.ok true h
theorem Jxf {ce:Str->Option Zd}{X:Cx}:PTsi ce X [] J4:=λ _ s _ H ι _ _ _ _ N K=>wpAny_tests_nil (K true s H ι N .refl rfl)
theorem Jxg {ce:Str->Option Zd}{X:Cx}{c:Expr}{m:T1}(hc:PTi ce X c m):PTsi ce X [c] m:=λ pins s σ H ι σi h Q E N K=>wpAny_tests_one (hc pins s σ H ι σi h Q E N K)
def Vs (ce:Str->Option Zd)(X:Cx)(use:Option (Za->Sem Unit))(pins:List (Zd×Obj))(ι:List Zd)(σi:ISt)(σ:L2.St)(H:Hp)(r:Res IV)(Q:Za->Zc->Prop)(E:Za->Zc->Prop):Prop :=
 match r with
 | .ok v h'=>∀D C m s' H' ι',Now ce X pins ι' σi h' σ H' s'->Nxt ι H ι' H'->RU X.K ι' H' v (.ref D)->s'.heap.Ns C m->FpOk X pins H' C->compPost (Z6 X.prog X.w) X.A E use Q (.ref D) C (.ok .next) s'
 | .exc n h'=>∀pl a s' H' ι',Now ce X (pins++pl) ι' σi h' σ H' s'->Nxt ι H ι' H'->ι'[n]?=some a->E (.ref a) s'
 | .stuck=>False
theorem Vs.mono {ce:Str->Option Zd}{X:Cx}{use:Option (Za->Sem Unit)}{pins:List (Zd×Obj)}{ι ι':List Zd}{σi:ISt}{σ:L2.St}{H H':Hp}{r:Res IV}{Q:Za->Zc->Prop}{E:Za->Zc->Prop}(k:Vs ce X use pins ι σi σ H r Q E)(n:Nxt ι H ι' H'):Vs ce X use pins ι' σi σ H' r Q E:=by
 cases r with
 | ok v h'=>exact λ D C m s' H2 ι2 N n2 q=>k D C m s' H2 ι2 N (n.trans n2) q
 | exc m h'=>exact λ pl a s' H2 ι2 N n2 q=>k pl a s' H2 ι2 N (n.trans n2) q
 | stuck=>exact k
structure TurnC (P:Z5)(w:ZP)(C:Cx->Hp->Prop)(tg:Expr)(J:It)(fp:List Zd)(it:Zd)(tn:Nat->Zag->Prop):Prop where
 obj:∀i h,tn i h->∀b∈fp,∃o,h.get? b=some o/\∀v,o.data≠.cell v
 keep:∀i h h',tn i h->(∀b∈fp,∀o,h.get? b=some o->h'.get? b=some o)->tn i h'
 item:∀(X:Cx)(i:Nat)(s:Zc)(σ:L2.St)(H:Hp),C X H->Inv X [] σ H s->(∀b∈fp,FpOk X [] H b)->tn i s.heap->J.go i H ->
  Zs (Z6 P w) X.A (ZbU (.ref it)) (λ r s1=>∃u,r=some u/\Zs (Z6 P w) X.A (Zco tg (.ref it) u) (λ _ s2=>∃x H',Inv X [] σ H' s2/\RelV x u/\J.yld i H x H'/\tn (i+1) s2.heap/\∀b∈fp,H' b=none) (λ _ _=>False) s1) (λ _ _=>False) s
 done:∀(X:Cx)(i:Nat)(s:Zc)(σ:L2.St)(H:Hp),C X H->Inv X [] σ H s->(∀b∈fp,FpOk X [] H b)->tn i s.heap->J.stop i H->Zs (Z6 P w) X.A (ZbU (.ref it)) (λ r s1=>r=none/\Inv X [] σ H s1) (λ _ _=>False) s
 self:∀(A:ZI)(i:Nat)(s:Zc)(Q:Za->Zc->Prop)(E:Za->Zc->Prop),tn i s.heap->Q (.ref it) s->Zs (Z6 P w) A (Zeb (.ref it)) Q E s
def J3g (X0:Cx)(X:Cx)(_:Hp):Prop:=X.prog=X0.prog/\X.w=X0.w/\X.K=X0.K/\X.calm=true
def RItC (C:Cx->Hp->Prop)(ce:Str->Option Zd)(X:Cx)(tg:Expr)(pins:List (Zd×Obj))(ι':List Zd)(I:ItI)(itv:Za)(s2:Zc)(H':Hp):Prop :=
 ∃(it:Zd)(fp:List Zd)(tn:Nat->Zag->Prop)(J:It),itv=.ref it/\TurnC X.prog X.w C tg J fp it tn/\tn 0 s2.heap/\(∀b∈fp,FpOk X pins H' b)/\ItOk ce X.K ι' H' J I
def PIc (C:Cx->Hp->Prop)(ce:Str->Option Zd)(X:Cx)(tg iter:Expr)(m:I1):Prop :=
 ∀(pins:List (Zd×Obj))(s:Zc)(σ:L2.St)(H:Hp)(ι:List Zd)(σi:ISt)(h:IH)(Q:Za->Zc->Prop)(E:Za->Zc->Prop),Now ce X pins ι σi h σ H s ->
  (match m σi h with
   | .ok I h'=>∀itv s' H' ι',Now ce X pins ι' σi h' σ H' s'->Nxt ι H ι' H'->RItC C ce X tg pins ι' I itv s' H'->Q itv s'
   | .exc n h'=>∀pl a s' H' ι',Now ce X (pins++pl) ι' σi h' σ H' s'->Nxt ι H ι' H'->ι'[n]?=some a->E (.ref a) s'
   | .stuck=>False) ->
  Zs (Z6 X.prog X.w) X.A (ZaK iter X.env) (λ v s1=>Zs (Z6 X.prog X.w) X.A (Zeb v) Q E s1) E s
theorem PIi.c {ce:Str->Option Zd}{X:Cx}{tg iter:Expr}{m:I1}(p:PIi ce X tg iter m):PIc (J3g X) ce X tg iter m:=λ pins s σ H ι σi h Q E N k=>p pins s σ H ι σi h Q E N (by
 cases e:m σi h with
 | exc n h'=>rw[e] at k;exact k
 | stuck=>rw[e] at k;exact k
 | ok I h' =>
  rw[e] at k
  intro itv s' H' ι' N' n' ⟨it,fp,tn,J,e1,T,r⟩
  refine k itv s' H' ι' N' n' ⟨it,fp,tn,J,e1,⟨T.obj,T.keep,λ X' i s σ H c=>?_,λ X' i s σ H c=>?_,T.self⟩,r⟩
  ·exact T.item X' c.1 c.2.1 c.2.2.1 c.2.2.2 i [] s σ H _
  ·exact T.done X' c.1 c.2.1 c.2.2.1 c.2.2.2 i [] s σ H _)
section
variable {ce:Str->Option Zd}{X:Cx}
theorem Jlx {N0 loc caps:List Str}{js:List Nat}{sc₀ scope:ZaU}{tg iter elt:Expr}{ifs:List Expr}{mi:I1}{g:G1}{mt:T1}{me:E1}{pos ppos:Pos}{use:Option (Za->Sem Unit)}{Cc:Cx->Hp->Prop}(hi:PIc Cc ce X tg iter mi)
  (hg:∀C s H fp,PGi ce (cxC X (loc++caps) scope C s H fp) tg g)(ht:∀C s H fp,PTsi ce (cxC X (loc++caps) scope C s H fp) ifs mt)(he:∀C s H fp,PEi ce (cxC X (loc++caps) scope C s H fp) elt me)
  (ok:Q6 N0 loc caps js sc₀ scope=true)(hN0:X.N=N0:=by rfl)(hsc:X.env.scope=sc₀:=by rfl)(hs:∀x,ZbR iter X.env x=pure x:=by intro _;rfl)
  {pins:List (Zd×Obj)}{s:Zc}{σ:L2.St}{H:Hp}{ι:List Zd}{σi:ISt}{h:IH}{Q:Za->Zc->Prop}{E:Za->Zc->Prop}(hcc:∀C s H1 fp H',Ext H H'->Cc (cxC X (loc++caps) scope C s H1 fp) H')(N:Now ce X pins ι σi h σ H s)(K:Vs ce X use pins ι σi σ H (Jy mi loc.length js g mt me σi h) Q E) :
  Zs (Z6 X.prog X.w) X.A (comprehension (.ListComp elt [⟨tg,iter,ifs,0⟩] scope pos) scope X.env ppos (newList []) false (ZaK iter X.env) use) Q E s:=by
 simp only[Q6,Zn,decide_eq_true_eq,Zbh,ZaC,Zay,beq_iff_eq,beq_eq_false_iff_ne] at ok
 obtain⟨⟨⟨⟨⟨⟨⟨⟨⟨kF,kF0⟩,kNC⟩,kL⟩,kFr⟩,kFx⟩,kJ⟩,kLen⟩,kNd⟩,kLo⟩:=ok
 have hfree:∀x∈scope.names,x.2=.free->X.env.kindOf x.1=some .cell∨X.env.kindOf x.1=some .free:=λ x hx hk=>by
  have e:X.env.kindOf x.1=sc₀.names.lookup x.1:=by rw[<- hsc];rfl
  rw[e]
  rcases kFr x hx with(z|z)|z
  ·exact absurd hk z
  ·exact .inl z
  ·exact .inr z
 have hclos:Zdp scope X.env=pure (clOf X.env.cells scope.names []):=Jbl λ x hx hk=>N.inv.ok.has x.1 (hfree x hx hk)
 refine wpAny_comprehension_free (use:=use) (e:=.ListComp elt [⟨tg,iter,ifs,0⟩] scope pos) rfl hs hclos kF (λ x hx hl=>(kL x hx).resolve_left λ z=>z hl) ?_
 refine hi pins s σ H ι σi h _ E N ?_
 unfold Jy at K
 cases e0:mi σi h with
 | exc n h'=>rw[e0] at K;exact K
 | stuck=>rw[e0] at K;exact K
 | ok Jt h1 =>
  rw[e0] at K
  intro itv s1 H1 ι1 N1 n1 RI
  obtain⟨it,fp,tn,J,e,T,st1,f1,OK⟩:=RI
  subst e
  -- the list
  refine wpAny_newObj_type ?_
  have fresh1:H1 s1.heap.objs.size=none:=N1.inv.hok.fresh (Zl _)
  have I2:Inv X pins σ (upd H1 s1.heap.objs.size (.lst [])) { s1 with heap:=s1.heap.push { cls:=.type "list",dict:=none,data:=.seq ([]:List Za).toArray } } :=
   N1.inv.laid (t':=s1.toks) (λ b u e=>Zg _ e) (Zl _) ⟨ZT _,[],0,.nil,Zw _ rfl⟩
  obtain⟨R2,n2⟩:=N1.rel.alloc (o:=.lst []) (io:=.lst []) fresh1 ⟨[],J7,rfl⟩
  generalize hs2:({ s1 with heap:=s1.heap.push { cls:=.type "list",dict:=none,data:=.seq ([]:List Za).toArray } }:Zc)=s2 at I2 ⊢
  generalize hD:s1.heap.objs.size=D at *
  generalize hH2:upd H1 D (.lst [])=H2 at *
  have N2:Now ce X pins (ι1++[D]) σi (h1++[.lst []]) σ H2 s2:=⟨I2,R2,N1.st.mono n2⟩
  have keep12:∀b o,s1.heap.get? b=some o->s2.heap.get? b=some o:=λ b o q=>by rw[<- hs2];exact Zg _ q
  have st2:tn 0 s2.heap:=T.keep 0 _ _ st1 λ b _ o q=>keep12 b o q
  have hat:(ι1++[D])[h1.length]?=some D:=by
   rw[<- N1.rel.len,Z2 (Zl _)]
   simp
  have f2:∀b∈fp,FpOk X pins H2 b:=λ b hb=>by
   refine⟨?_,(f1 b hb).2⟩
   obtain⟨o,ho,_⟩:=T.obj 0 _ st1 b hb
   have:b≠D:=Z1 (by rw[<- hD];exact Zv ho)
   rw[<- hH2,Jp this]
   exact(f1 b hb).1
  -- the block's own dict
  refine wpAny_newFunctionEnv (λ x hx=>kNC x hx) (by intro y hy;simp at hy) (λ h3 hns3 hsb3=>?_) kF
  generalize hC:s2.heap.objs.size=C at *
  have keep23:∀b o,s2.heap.get? b=some o->h3.get? b=some o:=λ b o q=>(hsb3.2 b (Z1 (by rw[<- hC];exact Zv q))).trans (Zg _ q)
  have cells':∀x c,(clOf X.env.cells scope.names []).lookup x=some c->X.env.cells.lookup x=some c:=Jj1 _ _ (λ x c q=>by simp at q)
  -- the context of the block
  have okX:(cxC X (loc++caps) scope C s2 H2 fp).Ok:=by
   refine⟨N.inv.ok.mod,kF,N.inv.ok.glob,N.inv.ok.blt,Zc7 hC,λ x y c a b=>N.inv.ok.inj x y c (cells' x c a) (cells' y c b),λ x hx=>?_,λ x c z=>?_,N.inv.ok.hd,N.inv.ok.frames,.inl rfl,λ b hb=>?_,λ b o q=>I2.bs b o q,
    ZO N.inv.ok.bsz I2.sz,λ b o q hb=>?_,λ b hb z=>?_,I2.stack,I2.stkFree⟩
   ·have hx':(relabel scope X.env).names.lookup x=some .cell∨(relabel scope X.env).names.lookup x=some .free:=hx
    have hfr:scope.names.lookup x=some .free:=by
     rcases hx' with z|z
     ·obtain⟨k0,e,m⟩:=Jbb z
      simp only[Z4,Prod.mk.injEq,ZN,or_false] at m
      rcases m with⟨m1,_⟩|⟨_,m2⟩
      ·exact absurd (kNC _ (ZY e)) (by rw[<- m1];intro q;exact q rfl)
      ·rw[m2] at e;exact e
     ·obtain⟨k0,e,m⟩:=Jbb z
      simp only[Z4,Prod.mk.injEq,ZN,or_false] at m
      rcases m with⟨m1,_⟩|⟨m1,_⟩
      ·rw[<- m1] at e;exact e
      ·cases m1
    have hm:=ZY hfr
    obtain⟨c,hc'⟩:=N.inv.ok.has x (hfree (x,.free) hm rfl)
    exact Zbj.mp (XY _ _ x c hm hc')
   ·exact absurd (show false=true from z) Zp
   ·have hbD:=f2 b hb
    obtain⟨o,ho,_⟩:=T.obj 0 _ st2 b hb
    exact⟨Z1 (by show b<C;rw[<- hC];exact Zv ho),λ x c q=>hbD.2.2.2.2.1 x c (cells' x c q)⟩
   ·rcases(f2 b hb).2.2.2.1 with z|z
    ·exact N.inv.ok.noex b o q z
    ·exact Zch _ (ZE (Zv q) (ZO N.inv.ok.bsz z))
   ·rcases Z4.mp (I2.stkSub b z) with e|e
    ·exact(f2 b hb).2.1 e
    ·exact(f2 b hb).2.2.1 e
  -- the block's state
  have lenJ:js.length=caps.length:=kLen
  have stl:(stC loc.length js σi).length=(loc++caps).length:=by simp[stC,lenJ]
  have R3:Rel ce X.K (ι1++[D]) (h1++[.lst []]) H2:=R2
  have I3:Inv (cxC X (loc++caps) scope C s2 H2 fp) [] (ZJ loc.length none++js.map λ j=>(σ[j]?).join) H2 { s2 with heap:=h3,toks:=s2.toks+([]:List (Str×Za)).length }:=by
   refine⟨okX,rfl,I2.bare,Un.kept keep23,⟨_,hns3,λ i x v a b c=>?_⟩,λ x c q=>?_,I2.hok.fresh (Zc7 hC),λ x c q=>I2.freeC x c (cells' x c q),λ p hp=>absurd (show p∈([]:List (Zd×Obj)) from hp) (by simp),I2.hok.kept keep23,by show _=(loc++caps).length;simp[lenJ]⟩
   ·have hi:loc.length<=i:=by
     refine ZcL λ hlt=>?_
     rw[Z9 (by simpa using hlt),Zb7] at b
     split at b<;>cases b
    obtain⟨k,rfl⟩:∃k,i=loc.length+k:=⟨i-loc.length,by omega⟩
    have a':(loc++caps)[loc.length+k]?=some x:=a
    rw[Z2 (by omega)] at a'
    rw[Z2 (by simp)] at b
    simp only[Nat.add_sub_cancel_left,Zbt,Zt] at a' b
    cases ej:js[k]? with
    | none=>rw[ej] at b;cases b
    | some j =>
     rw[ej] at b
     have b':(σ[j]?).join=some v:=Zab b
     have hσ:σ[j]?=some (some v):=by
      cases es:σ[j]? with
      | none=>rw[es] at b';cases b'
      | some o=>rw[es] at b';rw[show o=some v from b']
     have hz:=kJ (j,x) (List.mem_iff_getElem?.mpr ⟨k,by rw[List.getElem?_zip_eq_some];exact⟨ej,a'⟩⟩)
     obtain⟨hx1,hx2⟩:=hz
     obtain⟨m,hn,hl⟩:=I2.loc
     have hk:=hfree (x,.free) (ZY hx2) rfl
     obtain⟨u,ru,lk⟩:=hl j x v (by rw[hN0];exact hx1) hσ (by rcases hk with q|q;exact .inr (.inl q);exact .inr (.inr q))
     rcases lk with⟨q,_⟩|⟨q,c,hc',hcell⟩
     ·rcases hk with q'|q'<;>(rw[q'] at q;cases q)
     ·obtain⟨kk,ek,hkk⟩:=Jfo (env:=X.env) hx2
      have hcl:=XY (cells:=X.env.cells) scope.names [] x c (ZY hx2) hc'
      obtain⟨c',hc2⟩:=Zbj.mp hcl
      have:=cells' x c' hc2
      rw[hc'] at this
      cases this
      obtain⟨oc,hoc,hd⟩:=hcell
      refine⟨u,ru,.inr ⟨?_,c,hc2,oc,keep23 _ _ hoc,hd⟩⟩
      rcases hkk with rfl|rfl
      ·exact .inl ek
      ·exact .inr ek
   ·obtain⟨v,o,ho,hd⟩:=I2.cell x c (cells' x c q)
    exact⟨v,o,keep23 _ _ ho,hd⟩
  have N3:Now ce (cxC X (loc++caps) scope C s2 H2 fp) [] (ι1++[D]) (stC loc.length js σi) (h1++[.lst []]) (ZJ loc.length none++js.map λ j=>(σ[j]?).join) H2 { s2 with heap:=h3,toks:=s2.toks+([]:List (Str×Za)).length }:=by
   refine⟨I3,R3,by simp[stC],λ i v q=>?_⟩
   unfold stC at q
   have hi:loc.length<=i:=by
    refine ZcL λ hlt=>?_
    rw[Z9 (by simpa using hlt),Zb7] at q
    split at q<;>cases q
   rw[Z2 (by simpa using hi)] at q
   simp only[Zbt,Zt] at q
   cases ej:js[i-loc.length]? with
   | none=>rw[ej] at q;cases q
   | some j =>
    rw[ej] at q
    have q':(σi[j]?).join=some v:=Zab q
    have hσ:σi[j]?=some (some v):=by
     cases es:σi[j]? with
     | none=>rw[es] at q';cases q'
     | some o=>rw[es] at q';rw[show o=some v from q']
    obtain⟨u,hu,qu⟩:=N2.st.at_ j v hσ
    refine⟨u,?_,qu⟩
    rw[Z2 (by simpa using hi)]
    simp only[Zbt,Zt,ej,Option.map_some,hu]
    rfl
  have st3:tn 0 h3:=T.keep 0 _ _ st2 λ b _ o q=>keep23 b o q
  have K2:Vs ce X use pins (ι1++[D]) σi σ H2 (JD Jt.chk g mt me h1.length Jt.xs (stC loc.length js σi) (h1++[.lst []])) Q E:=Vs.mono (r:=JD Jt.chk g mt me h1.length Jt.xs (stC loc.length js σi) (h1++[.lst []])) K (n1.trans n2)
  have loop:Zc5 (Z6 X.prog X.w) X.A (.compLoop (.ListComp elt [⟨tg,iter,ifs,0⟩] scope pos) 0 (.ref it) (.ref D) (compEnvC scope (clOf X.env.cells scope.names []) C X.env)) (compPost (Z6 X.prog X.w) X.A E use Q (.ref D) C)
    { s2 with heap:=h3,toks:=s2.toks+([]:List (Str×Za)).length }:=by
   refine Jlw (λ n s'=>∃k ιk σk hk σ' H',Now ce (cxC X (loc++caps) scope C s2 H2 fp) [] ιk σk hk σ' H' s'/\Nxt (ι1++[D]) H2 ιk H'/\tn k s'.heap/\(∀b∈fp,H' b=none)/\n=Jt.xs.length-k/\k<=Jt.xs.length/\Vs ce X use pins ιk σi σ H' (JD Jt.chk g mt me h1.length (Jt.xs.drop k) σk hk) Q E) ?_ Jt.xs.length
    ⟨0,ι1++[D],stC loc.length js σi,h1++[.lst []],_,H2,N3,.refl,st3,λ b hb=>(f2 b hb).1,by simp,ZT _,by simpa using K2⟩
   have stat:∀{H':Hp},(∀b∈fp,H' b=none)->∀b∈fp,FpOk (cxC X (loc++caps) scope C s2 H2 fp) [] H' b:=λ hn b hb =>
    ⟨hn b hb,(okX.exf b hb).1,okX.exfs b hb,.inl hb,(okX.exf b hb).2,λ p hp=>absurd (show p∈([]:List (Zd×Obj)) from hp) (by simp)⟩
   rintro n s4 ⟨k,ιk,σk,hk,σ4,H4,N4,n4,st4,fr4,rfl,hkl,K4⟩
   by_cases hlt:k<Jt.xs.length
   ·have hd:Jt.xs.drop k=Jt.xs[k]::Jt.xs.drop (k+1):=Za8 hlt
    rw[hd] at K4
    unfold JD at K4
    split at K4
    ·rename_i hck
     obtain⟨go,yl⟩:=OK.go k Jt.xs[k] hk H4 ιk (n2.trans n4) N4.rel hck (Zb hlt)
     refine thn (T.item (cxC X (loc++caps) scope C s2 H2 fp) k s4 σ4 H4 (hcc _ _ _ _ _ (n1.trans (n2.trans n4)).ext) N4.inv (stat fr4) st4 go) λ r s5 ⟨u,hr,h5⟩=>?_
     subst hr
     refine thn h5 λ _ s6 ⟨x,H6,I6,r6,y6,st6,fr6⟩=>?_
     obtain⟨R6,n6,q6⟩:=yl x H6 y6
     have I6':=I6.pinned (stat fr6) (T.obj _ _ st6)
     have N6:Now ce (cxC X (loc++caps) scope C s2 H2 fp) ([]++QE fp s6.heap) ιk σk hk σ4 H6 s6:=⟨I6',R6,N4.st.mono n6⟩
     have again:∀{σ7:L2.St}{H7:Hp}{s7:Zc}{σ7i:ISt}{h7:IH}{ι7:List Zd},Now ce (cxC X (loc++caps) scope C s2 H2 fp) ([]++QE fp s6.heap) ι7 σ7i h7 σ7 H7 s7->Nxt ιk H6 ι7 H7->Vs ce X use pins ιk σi σ H4 (JD Jt.chk g mt me h1.length (Jt.xs.drop (k+1)) σ7i h7) Q E ->
       ∃m,m<Jt.xs.length-k/\∃k ιk σk hk σ' H',Now ce (cxC X (loc++caps) scope C s2 H2 fp) [] ιk σk hk σ' H' s7/\Nxt (ι1++[D]) H2 ιk H'/\tn k s7.heap/\(∀b∈fp,H' b=none)/\m=Jt.xs.length-k/\k<=Jt.xs.length/\Vs ce X use pins ιk σi σ H' (JD Jt.chk g mt me h1.length (Jt.xs.drop k) σk hk) Q E :=
      λ {σ7 H7 s7 σ7i h7 ι7} N7 n7 K7=>by
       have nn:Nxt ιk H4 ι7 H7:=n6.trans n7
       refine⟨Jt.xs.length-(k+1),by omega,k+1,ι7,σ7i,h7,σ7,H7,N7.pins,n4.trans nn,T.keep _ _ _ st6 λ b hb o e=>(N7.inv.pin (b,o) (Zj _ (Zj _ (Yl hb e)))).1,λ b hb=>?_,rfl,hlt,K7.mono nn⟩
       obtain⟨o,e,d⟩:=T.obj _ _ st6 b hb
       exact(N7.inv.pin (b,o) (Zj _ (Zj _ (Yl hb e)))).2.1
     cases eg:g Jt.xs[k] σk hk with
     | next σg hgg =>
      rw[eg] at K4
      dsimp only at K4
      refine hg C s2 H2 fp _ s6 σ4 H6 ιk σk hk _ u (λ _ s7=>Zs (Z6 X.prog X.w) X.A (forIn ifs true λ c r=>if r=true then do let ok<-isTrue c _ (ZaK c _);pure (ZaH ok) else pure (ZaH r)) _ _ s7) (λ _ _=>False) N6 ⟨x,r6,q6⟩ ?_
      rw[eg]
      intro s7 σ7 H7 ι7 N7 n7
      refine ht C s2 H2 fp _ s7 σ7 H7 ι7 σg hgg _ (λ _ _=>False) N7 ?_
      cases et:mt σg hgg with
      | ok c h8 =>
       rw[et] at K4
       intro d s8 H8 ι8 N8 n8 rd
       have rd':d=c:=rd
       subst rd'
       cases d with
       | false=>exact again N8 (n7.trans n8) K4
       | true =>
        dsimp only at K4
        refine he C s2 H2 fp _ s8 σ7 H8 ι8 σg h8 _ (λ _ _=>False) N8 ?_
        cases ee:me σg h8 with
        | ok v h9 =>
         rw[ee] at K4
         dsimp only at K4
         intro w s9 H9 ι9 N9 n9 rw9
         have hat9:ι9[h1.length]?=some D:=(((n4.trans n6).trans n7).trans (n8.trans n9)).at hat
         cases hl:h9[h1.length]? with
         | none=>rw[hl] at K4;exact Zf K4
         | some ob =>
          rw[hl] at K4
          cases ob with
          | lst acc =>
           dsimp only at K4
           split at K4
           ·rename_i hz
            obtain⟨vs,eD,rD⟩:=N9.at hl hat9
            obtain⟨wv,rw9,qw⟩:=rw9
            have ap:=Jmk (X:=(cxC X (loc++caps) scope C s2 H2 fp).wish λ _ _=>False) ([]++QE fp s6.heap) s9 σ7 H9 (.ref D) [wv] (.ref D) [w] (λ _ H'=>H'=upd H9 D (.lst (vs++[wv]))) (N9.inv.wish _) rfl (.cons rw9 .nil) ⟨D,vs,wv,rfl,rfl,eD,by rw[rD.length];exact hz,rfl⟩
            refine Zae ap (λ _ s10 hq=>?_) λ _ _ z=>z
            obtain⟨z,H10,I10,_,rfl⟩:=hq
            have n10:Nxt ι9 H9 ι9 (upd H9 D (.lst (vs++[wv]))):=⟨⟨[],by simp⟩,Ext.upd_mut eD (by rw[eD];exact Zaj)⟩
            obtain⟨R10,_⟩:=N9.rel.write (o:=.lst (vs++[wv])) (io:=.lst (acc++[v])) hat9 eD (by rw[eD];exact Zaj) ⟨_,J7,(RVs.mono n10 _ _ rD).append (RVs.one (RV.mono n10 _ _ qw))⟩
            exact again ⟨I10.unwish,R10,N9.st.mono n10⟩ (((n7.trans n8).trans n9).trans n10) K4
           ·exact Zf K4
          | _=>exact Zf K4
        | _=>rw[ee] at K4;exact Zf K4
      | _=>rw[et] at K4;exact Zf K4
     | _=>rw[eg] at K4;exact Zf K4
    ·exact Zf K4
   ·have hke:Jt.xs.drop k=[]:=ZcB (by omega)
    rw[hke] at K4
    unfold JD at K4
    split at K4
    ·rename_i hck
     have stop:=OK.stop k hk H4 ιk (n2.trans n4) N4.rel hck (by omega)
     refine thn (T.done (cxC X (loc++caps) scope C s2 H2 fp) k s4 σ4 H4 (hcc _ _ _ _ _ (n1.trans (n2.trans n4)).ext) N4.inv (stat fr4) st4 stop) λ r s5 ⟨hr,I5⟩=>?_
     subst hr
     obtain⟨m,hnm,_⟩:=I5.loc
     -- back to the def's own frame
     have hos:s5.os=s2.os:=I5.os
     obtain⟨hp5,g5,d5,t5,os5⟩:=s5
     obtain rfl:os5=s2.os:=hos
     have J5:Inv X pins σ H4 { s2 with heap:=hp5,gens:=g5,drawn:=d5,toks:=t5 }:=I2.call (ch:=fp) I5.base I5.hok I5.bare λ b hb=>⟨(f2 b hb).2.2.2.1,(f2 b hb).2.1,(f2 b hb).2.2.2.2.1,(f2 b hb).2.2.2.2.2⟩
     have fC:FpOk X pins H4 C:=I2.fpOk (Zc7 hC) I5.free
     exact K4 D C m _ H4 ιk ⟨J5,N4.rel,(N2.st.mono n4)⟩ .refl ⟨.ref D,rfl,D,rfl,n4.at hat⟩ hnm fC
    ·exact Zf K4
  exact codeAny_compStart_list loop (T.self X.A 0 _ _ _ st3 loop)
theorem Now.letgo {pins:List (Zd×Obj)}{ι:List Zd}{σi:ISt}{h:IH}{σ:L2.St}{H:Hp}{s:Zc}{C:Zd}{h':Zag}(N:Now ce X pins ι σi h σ H s)(fC:FpOk X pins H C)(sb:Zc4 C s.heap h'):Now ce X pins ι σi h σ H { s with heap:=h' } :=
 ⟨N.inv.turned (it:=C) (t':=s.toks) (λ b o hb q=>(sb.2 b hb).trans q) fC.1 fC.2.1 fC.2.2.2.1 fC.2.2.2.2.1 fC.2.2.2.2.2,N.rel,N.st⟩
theorem Jwv {N0 loc caps:List Str}{js:List Nat}{sc₀ scope:ZaU}{tg iter elt:Expr}{ifs:List Expr}{mi:I1}{g:G1}{mt:T1}{me:E1}{pos:Pos}(hc:X.calm=true)(hi:PIi ce X tg iter mi)
  (hg:∀C s H fp,PGi ce (cxC X (loc++caps) scope C s H fp) tg g)(ht:∀C s H fp,PTsi ce (cxC X (loc++caps) scope C s H fp) ifs mt)(he:∀C s H fp,PEi ce (cxC X (loc++caps) scope C s H fp) elt me)
  (ok:Q6 N0 loc caps js sc₀ scope=true)(hN0:X.N=N0:=by rfl)(hsc:X.env.scope=sc₀:=by rfl)(hs:∀x,ZbR iter X.env x=pure x:=by intro _;rfl):PEi ce X (.ListComp elt [⟨tg,iter,ifs,0⟩] scope pos) (Jy mi loc.length js g mt me):=by
 intro pins s σ H ι σi h Q E N K
 rw[eval_ListComp]
 refine Jlx hi.c hg ht he ok hN0 hsc hs (λ _ _ _ _ _ _=>⟨rfl,rfl,rfl,hc⟩) N ?_
 cases e0:Jy mi loc.length js g mt me σi h with
 | exc n h'=>rw[e0] at K;exact K
 | stuck=>rw[e0] at K;exact K
 | ok v h' =>
  rw[e0] at K
  exact λ D C m s' H' ι' N' n' r hns fC=>⟨m,hns,λ h2 sb=>K _ _ H' ι' (N'.letgo fC sb) n' r⟩
theorem Jw6 {N0 loc caps:List Str}{js:List Nat}{sc₀ scope:ZaU}{tg iter elt:Expr}{ifs:List Expr}{mi:I1}{g:G1}{mt:T1}{me:E1}{pos pos2 pos3:Pos}{i:Nat}{x:Str}(hc:X.calm=true)(hi:PIi ce X tg iter mi)
  (hg:∀C s H fp,PGi ce (cxC X (loc++caps) scope C s H fp) tg g)(ht:∀C s H fp,PTsi ce (cxC X (loc++caps) scope C s H fp) ifs mt)(he:∀C s H fp,PEi ce (cxC X (loc++caps) scope C s H fp) elt me)
  (ok:Q6 N0 loc caps js sc₀ scope=true)(hN0:X.N=N0:=by rfl)(hsc:X.env.scope=sc₀:=by rfl)(hs:∀x,ZbR iter X.env x=pure x)
  (hN:X.N.Nodup)(hix:X.N[i]?=some x)(hlx:Loc X.env.scope x)(hf:X.fn x=true∨X.env.scope.names.lookup x=some .local)
  (hsw:Zdj (.ListComp elt [⟨tg,iter,ifs,0⟩] scope pos) (some (.Name x pos2)) pos3.line X.env=pure true) :
  PS1 ce X (.Assign [.Name x pos2] (.ListComp elt [⟨tg,iter,ifs,0⟩] scope pos) pos3) (Jh i (Jy mi loc.length js g mt me)):=by
 intro pins s σ H ι σi h Q E N K
 rw[exec_Assign_Name_used _ _ _ _ hsw]
 refine Ze (Zb2 (Ze ?_))
 rw[arm_evalThenUse_ListComp]
 refine Ze ?_
 refine Jlx (use:=some (ZdN (.Name x pos2) X.env)) hi.c hg ht he ok hN0 hsc hs (λ _ _ _ _ _ _=>⟨rfl,rfl,rfl,hc⟩) N ?_
 unfold Jh at K
 cases e0:Jy mi loc.length js g mt me σi h with
 | exc n h'=>rw[e0] at K;exact λ pl a s' H' ι' N' n' q=>K pl a s' σ H' ι' N' n' q s' (.inl rfl)
 | stuck=>rw[e0] at K;exact K
 | ok v h' =>
  rw[e0] at K
  intro D C m s' H' ι' N' n' r hns fC
  obtain⟨w,rw',q⟩:=r
  obtain⟨oC,es,ep,hoC,hdC,hrest⟩:=id hns
  have hp:Inv X (pins++QE [C] s'.heap) σ H' s':=N'.inv.pinned (λ b hb=>(show b=C by simpa using hb)▸fC) (λ b hb=>by
   have e:b=C:=by simpa using hb
   subst e
   exact⟨oC,hoC,λ v z=>by rw[hdC] at z;cases z⟩)
  refine wpAny_assign_Name (Jf7 hp hN hix hlx rw' (λ s2 I2=>?_) hf)
  have hC2:=(I2.pin (C,oC) (Zj _ (Zj _ (Yl (by simp) hoC)))).1
  refine⟨m,⟨oC,es,ep,hC2,hdC,hrest⟩,λ h2 sb=>Zu ?_⟩
  have N2:Now ce X pins ι' (σi.set i (some v)) h' (σ.set i (some w)) H' s2:=⟨I2.unpinned,N'.rel,N'.st.set i q⟩
  exact Zu (K _ _ H' ι' (N2.letgo fC sb) n')
def Vj (x:Str):List IV:=x.cps.toList.map λ c=>.str ⟨#[c]⟩
def Its (x:Str):It:=⟨λ i _=>i<x.cps.size,λ i H y H'=>H'=H/\∃c,x.cps[i]?=some c/\y=.str ⟨#[c]⟩,λ i _=>x.cps.size<=i⟩
theorem Jph {P:Z5}{w:ZP}{K:W.Frag}{tg:Expr}{ty:String}{x:Str}{t:Tok}(it:Zd)(hty:["enumerate","zip","dict_itemiterator","dict_reverseitemiterator","odict_iterator","itertools.zip_longest","itertools.pairwise"].contains ty=false)
  (W:∀A:ZI,A.handled=none->Walks P w A it [it] [it] x.cps.size (SignAt x) (λ i h=>h.IsStrIter it ty x t i))
  (We:∀(A:ZI)(E:Za->Zc->Prop)(s:Zc)(i:Nat)(Q:Option Za->Zc->Prop),A.handled=none->s.heap.IsStrIter it ty x t i->x.cps[i]?=none->(∀h',Heap.ExtBut it s.heap h'->Q none { s with heap:=h' })->Zs (Z6 P w) A (ZbU (.ref it)) Q E s)
  (Ws:∀(A:ZI)(E:Za->Zc->Prop)(s:Zc)(i:Nat)(Q:Za->Zc->Prop),s.heap.IsStrIter it ty x t i->Q (.ref it) s->Zs (Z6 P w) A (Zeb (.ref it)) Q E s):Turn P w K tg (Its x) [it] it (λ i h=>h.IsStrIter it ty x t i) where
 mem:=by simp
 obj:=λ i h st b hb=>by
  have e:b=it:=by simpa using hb
  subst e
  obtain⟨o,e,c,d⟩:=st
  exact⟨o,e,λ v z=>by rw[d] at z;cases z⟩
 keep:=λ i h h' st k=>by
  obtain⟨o,e,r⟩:=st
  exact⟨o,k it (by simp) o e,r⟩
 item:=by
  intro X hP hw hK hc i pins s σ H E I hf st hg
  subst hP hw hK
  obtain⟨f0,f1,f2,f3,f4,f5⟩:=hf it (by simp)
  refine(W X.A (I.ok.hd hc)).item i s _ _ hg st λ v h' tk hv st' kk=>?_
  obtain⟨c,u,hcc,rfl⟩:=hv
  have I1:Inv X pins σ H { s with heap:=h',toks:=tk }:=I.turned (λ b o hb e=>kk b o (by simpa using hb) e) f0 f1 f3 f4 f5
  obtain⟨o,e,c1,d1⟩:=id st'
  exact⟨_,rfl,Juf (s:={ s with heap:=h',toks:=tk }) e c1 d1 hty ⟨.str ⟨#[c]⟩,H,I1,⟨u,rfl⟩,⟨rfl,c,hcc,rfl⟩,st',λ b hb=>(hf b hb).1⟩⟩
 done:=by
  intro X hP hw hK hc i pins s σ H E I hf st hg
  subst hP hw hK
  obtain⟨f0,f1,f2,f3,f4,f5⟩:=hf it (by simp)
  have hi:x.cps.size<=i:=hg
  have hx:x.cps[i]?=none:=by simp[hi]
  exact We X.A _ s i _ (I.ok.hd hc) st hx λ h' eb=>⟨rfl,I.turned (t':=s.toks) (λ b o hb e=>eb b o hb e) f0 f1 f3 f4 f5⟩
 self:=λ A i s Q E st h=>Ws A E s i Q st h
def Jut:IV->IH->Res ItI
 | .str x,h=>.ok ⟨Vj x,λ _=>True⟩ h
 | _,_=>.stuck
def iStr (e:E1):I1:=λ σ h=>(e σ h).bind Jut
theorem Jwy {x:Str}{ι:List Zd}{H₀:Hp}:ItOk ce X.K ι H₀ (Its x) ⟨Vj x,λ _=>True⟩:=by
 refine⟨λ k v h H ι' hp R hck hx=>?_,λ k h H ι' hp R hck hx=>?_⟩
 ·have hk:k<x.cps.size:=by
   have:=(Zk.mp hx).1
   simpa [Vj] using this
  refine⟨hk,λ y H' hy=>?_⟩
  obtain⟨rfl,c,hc,rfl⟩:=hy
  simp only[Vj,Zt,ZdX,hc] at hx
  cases hx
  exact⟨R,.refl,rfl⟩
 ·have:(Vj x).length=x.cps.size:=by simp[Vj]
  show x.cps.size<=k
  rw[<- this]
  exact hx
theorem Jqe {tg l:Expr}{ml:E1}(hl:PEi ce X l ml):PIi ce X tg l (iStr ml):=by
 intro pins s σ H ι σi h Q E N K
 refine hl pins s σ H ι σi h _ E N ?_
 unfold iStr at K
 cases e0:ml σi h with
 | exc n h'=>rw[e0] at K;exact K
 | stuck=>rw[e0] at K;exact K
 | ok v h' =>
  rw[e0] at K
  intro u s1 H1 ι1 N1 n1 r1
  obtain⟨w,rw',q⟩:=r1
  have fresh:∀b∈[s1.heap.objs.size],FpOk X pins H1 b:=λ b hb=>by
   have e:b=s1.heap.objs.size:=by simpa using hb
   subst e
   exact N1.inv.fpOk (Zl _) (N1.inv.hok.fresh (Zl _))
  cases v with
  | str x =>
   have e1:w=.str x:=q
   subst e1
   obtain⟨t,rfl⟩:=rw'
   simp only[Res.bind,Jut] at K
   cases ha:x.cps.all (· < 128) with
   | true =>
    refine wpAny_pyIter_ascii ha (K _ _ H1 ι1 ⟨N1.inv.kept (t':=s1.toks) λ b o e=>Zg _ e,N1.rel,N1.st⟩ n1 ?_)
    exact⟨s1.heap.objs.size,[s1.heap.objs.size],_,Its x,rfl,Jph (ty:="str_ascii_iterator") (t:=t) _ (by decide) (λ A hA=>Walks.strAscii hA _ x t) (λ A E s i Q hA st hx hQ=>wpAny_pyNext_ascii_end hA st hx hQ) (λ A E s i Q st hq=>wpAny_pyIter_striter_ascii st hq),⟨_,Zw _ rfl,rfl,rfl⟩,fresh,Jwy⟩
   | false =>
    refine wpAny_pyIter_wide ha (K _ _ H1 ι1 ⟨N1.inv.kept (t':=s1.toks) λ b o e=>Zg _ e,N1.rel,N1.st⟩ n1 ?_)
    exact⟨s1.heap.objs.size,[s1.heap.objs.size],_,Its x,rfl,Jph (ty:="str_iterator") (t:=t) _ (by decide) (λ A hA=>Walks.strWide hA _ x t) (λ A E s i Q hA st hx hQ=>wpAny_pyNext_wide_end hA st hx hQ) (λ A E s i Q st hq=>wpAny_pyIter_striter_wide st hq),⟨_,Zw _ rfl,rfl,rfl⟩,fresh,Jwy⟩
  | _=>simp only[Res.bind,Jut] at K
def Ite (K:W.Frag)(a:Zd):It :=
 ⟨λ i H=>∃xs x,SqL K H a xs/\xs[i]?=some x,λ i H y H'=>∃p x,H p=none/\y=.ref p/\H'=upd H p (.tup [.int (i:Int),x])/\∀xs,SqL K H a xs->xs[i]?=some x,λ i H=>∃xs,SqL K H a xs/\xs.length<=i⟩
theorem Jtk {P:Z5}{w:ZP}{K:W.Frag}{es:List Expr}{k:Nat}{p:Pos}(a it e:Zd)(hne:e≠it):Turn P w K (.Tuple es k p) (Ite K a) [e,it] e (λ i h=>(∃old,IsEnum h e it (i:Int) old)/\h.IsListIter it a i) where
 mem:=by simp
 obj:=λ i h st b hb=>by
  obtain⟨⟨old,he⟩,o,e1,c,d⟩:=st
  simp only[Z4,ZN,or_false] at hb
  rcases hb with rfl|rfl
  ·exact⟨_,he,λ v z=>by
    have z':Data.fields _=Ze5 v:=z
    cases z'⟩
  ·exact⟨o,e1,λ v z=>by rw[d] at z;cases z⟩
 keep:=λ i h h' st k=>⟨let ⟨old,he⟩:=st.1;⟨old,k e (by simp) _ he⟩,st.2.at λ o e=>k it (by simp) o e⟩
 item:=by
  intro X hP hw hK hc i pins s σ H E I hf st hg
  subst hP hw hK
  obtain⟨⟨old,he⟩,hit⟩:=st
  obtain⟨xs,x,hq,hx⟩:=hg
  obtain⟨its,rv,pl,hz⟩:=I.list hq
  obtain⟨u,hu,ru⟩:=rv.get hx
  have fe:=hf e (by simp)
  have fi:=hf it (by simp)
  have hn:H s.heap.objs.size=none:=I.hok.fresh (Zl _)
  refine wpAny_pyNext_enum_item he hit pl.isList (x:=u) (by simpa using hu) hne λ h' he' hit' ht hsz kk=>?_
  refine⟨_,rfl,wpAny_letOwnedTupleGo_enum he' λ h2 he2 sb=>?_⟩
  have ltE:e<s.heap.objs.size:=Zv he
  have neT:s.heap.objs.size≠e:=ZaG ltE
  have k2:∀b o,b≠e->b≠it->s.heap.get? b=some o->h2.get? b=some o:=λ b o h1 h3 q=>(sb.2 b h1).trans (kk b o h1 h3 q)
  have hl2:h2.IsListIter it a (i+1):=by
   obtain⟨o,q,r⟩:=hit'
   exact⟨o,(sb.2 it (ZK hne)).trans q,r⟩
  have t2:h2.get? s.heap.objs.size=some { cls:=.type "tuple",data:=.seq #[.int i s.toks,u] }:=(sb.2 _ neT).trans ht
  -- the two records turn, then the tuple is tracked
  obtain⟨oe,hoe⟩:∃o,s.heap.get? e=some o:=⟨_,he⟩
  obtain⟨oi,hoi,_⟩:=id hit
  have neP:∀b u,H b=some u->b≠s.heap.objs.size:=λ b u q=>Vi q hn
  have I1:Inv X pins σ (upd H s.heap.objs.size (.tup [.int (i:Int),x])) { s with heap:=h2,toks:=s.toks+1 }:=by
   refine I.step (g':=s.gens) (d':=s.drawn) (ch:=[e,it]) (λ b hb=>?_) (λ b o _ _ hc q _=>k2 b o (λ z=>hc (by simp[z])) (λ z=>hc (by simp[z])) q) (λ b o _ _ hc q _=>⟨o.slots,k2 b o (λ z=>hc (by simp[z])) (λ z=>hc (by simp[z])) q⟩) (λ b o _ q n=>?_)
    (λ b o hc q=>⟨o,k2 b o (λ z=>hc (by simp[z])) (λ z=>hc (by simp[z])) q⟩) (λ b xs q=>by rw[Jp (neP b _ q)];exact q) (λ b o u q=>by rw[Jp (neP b _ q)];exact q) (λ b ps q=>⟨#[],by rw[Jp (neP b _ q),q];simp⟩) (λ m hm=>?_) (λ b u q=>?_) I.bare
   ·simp only[Z4,ZN,or_false] at hb
    rcases hb with rfl|rfl
    ·exact⟨fe.2.2.2.1,fe.2.1,fe.2.2.2.2.1,fe.2.2.2.2.2⟩
    ·exact⟨fi.2.2.2.1,fi.2.1,fi.2.2.2.2.1,fi.2.2.2.2.2⟩
   ·rw[Jp (Z1 (Zv q))];exact n
   ·obtain⟨o,es,ep,ho,r⟩:=hm
    exact⟨o,es,ep,k2 _ o (ZK fe.2.1) (ZK fi.2.1) ho,r⟩
   ·by_cases hb:b=s.heap.objs.size
    ·subst hb
     rw[J7] at q
     cases q
     exact⟨by show 2<=sizeLine;decide,[.int i s.toks,u],.cons ⟨_,rfl⟩ (.cons ru .nil),⟨_,t2,rfl,_,rfl⟩⟩
    ·rw[Jp hb] at q
     have n1:b≠e:=λ z=>by rw[z,fe.1] at q;cases q
     have n2:b≠it:=λ z=>by rw[z,fi.1] at q;cases q
     refine(I.hok b u q).stay (λ c v hc r=>k2 c v ?_ ?_ r) (λ c q=>by rw[Jp (neP c _ q)];exact q) λ c ys q=>by rw[Jp (neP c _ q)];exact q
     ·rcases hc with z|z
      ·rw[z];exact n1
      ·intro y;rw[y,fe.1] at z;cases z
     ·rcases hc with z|z
      ·rw[z];exact n2
      ·intro y;rw[y,fi.1] at z;cases z
  refine⟨.ref s.heap.objs.size,_,I1,rfl,⟨s.heap.objs.size,x,hn,rfl,rfl,λ ys hy=>by rw[I.list_inj hy hq];exact hx⟩,⟨⟨_,he2⟩,hl2⟩,λ b hb=>?_⟩
  simp only[Z4,ZN,or_false] at hb
  rcases hb with rfl|rfl
  ·rw[Jp (Z1 ltE)];exact fe.1
  ·rw[Jp (Z1 (Zv hoi))];exact fi.1
 done:=by
  intro X hP hw hK hc i pins s σ H E I hf st hg
  subst hP hw hK
  obtain⟨⟨old,he⟩,hit⟩:=st
  obtain⟨xs,hq,hx⟩:=hg
  obtain⟨its,rv,p,hz⟩:=I.list hq
  obtain⟨f0,f1,f2,f3,f4,f5⟩:=hf it (by simp)
  have hl:=rv.length
  exact wpAny_pyNext_enum_end (I.ok.hd hc) he hit p.isList (by simp;omega) λ h' eb=>⟨rfl,I.turned (t':=s.toks) (λ b o hb e=>eb b o hb e) f0 f1 f3 f4 f5⟩
 self:=λ _ _ _ _ _ st h=>let ⟨_,he⟩:=st.1;wpAny_pyIter_enum he h
noncomputable def Qx (n:Nat):List IV->List IV
 | []=>[]
 | x::xs=>.tup [.int n,x]::Qx (n+1) xs
theorem Jg9:∀(xs:List IV)(n k:Nat),(Qx n xs)[k]?=(xs[k]?).map λ x=>.tup [.int ((n+k:Nat):Int),x]
 | [],_,_=>by simp[Qx]
 | x::xs,n,0=>by simp[Qx]
 | x::xs,n,k+1=>by
  simp only[Qx,Zat]
  rw[Jg9 xs (n+1) k]
  have:n+1+k=n+(k+1):=by omega
  rw[this]
theorem Xv:∀(xs:List IV)(n:Nat),(Qx n xs).length=xs.length
 | [],_=>rfl
 | _::xs,n=>by simp[Qx,Xv xs]
def QM:List IV->IH->Res ItI
 | [.ref i],h=>match h[i]? with
  | some (.lst xs)=>.ok ⟨Qx 0 xs,λ h'=>h'[i]?=some (.lst xs)⟩ h
  | _=>.stuck
 | _,_=>.stuck
theorem J1i {a:Zd}{i:Nat}{xs:List IV}{ι:List Zd}{H₀:Hp}(ha:ι[i]?=some a):ItOk ce X.K ι H₀ (Ite X.K a) ⟨Qx 0 xs,λ h'=>h'[i]?=some (.lst xs)⟩:=by
 refine⟨λ k v h H ι' hp R hck hx=>?_,λ k h H ι' hp R hck hx=>?_⟩
 ·obtain⟨vs,e1,r1⟩:=R.get hck (hp.at ha)
  have hx':(Qx 0 xs)[k]?=some v:=hx
  rw[Jg9] at hx'
  obtain⟨x,hxk,rfl⟩:=ZA.mp hx'
  obtain⟨u,hu,qu⟩:=r1.get hxk
  refine⟨⟨vs,u,SqL.of e1,hu⟩,λ y H' hy=>?_⟩
  obtain⟨p,x',hp0,rfl,rfl,hy⟩:=hy
  have:=hy vs (SqL.of e1)
  rw[hu] at this
  cases this
  obtain⟨R',n'⟩:=R.grow (o:=.tup [.int (k:Int),u]) hp0
  refine⟨R',n',p,_,rfl,SqT.of J7,⟨_,_,rfl,?_,_,_,rfl,RV.mono n' _ _ qu,rfl⟩⟩
  show V.int (k:Int)=V.int ((0+k:Nat):Int)
  simp
 ·obtain⟨vs,e1,r1⟩:=R.get hck (hp.at ha)
  exact⟨vs,SqL.of e1,by rw[r1.length,<-Xv xs 0];exact hx⟩
theorem J1a {es:List Expr}{kt:Nat}{pt:Pos}{a:Expr}{ma:A1}{p pos:Pos}(hg:Gl X "enumerate")(hm:X.mg "enumerate"=none)(ha:PAi ce X [a] ma)(hs:Z8 [a] X.env=[(false,ZaK a X.env)]:=by rfl):PIi ce X (.Tuple es kt pt) (.Call (.Name "enumerate" p) [a] [] pos) (iRg QM ma):=by
 intro pins s σ H ι σi h Q E N K
 refine Call_ (QC N.inv hg hm boot_enumerate (ZaR ?_ hs rfl))
 refine ha pos pins s σ H ι σi h _ E N ?_
 unfold iRg at K
 cases e0:ma σi h with
 | exc n h'=>rw[e0] at K;exact K
 | stuck=>rw[e0] at K;exact K
 | ok vs h' =>
  rw[e0] at K
  intro us s1 H1 ι1 N1 n1 r1
  obtain⟨xs,rv,qs⟩:=r1
  match vs,K with
  | [.ref i],K =>
   obtain⟨w,e1,q⟩:=qs.one_of
   subst e1
   obtain⟨b,e3,hb⟩:=q
   subst e3
   obtain⟨u,rfl,ru⟩:=QU rv
   cases ru
   cases hi:h'[i]? with
   | none=>simp only[Res.bind,QM,hi] at K
   | some ob =>
    cases ob with
    | lst ys =>
     simp only[Res.bind,QM,hi] at K
     obtain⟨ws,eH,rH⟩:=N1.at hi hb
     obtain⟨z,its,n,r,hl,eo⟩:=N1.inv.lstM eH
     refine call_enumerate_1 eo λ h2 he hit hsz kp=>?_
     refine wpAny_pyIter_enum he (K _ _ H1 ι1 ⟨N1.inv.kept (t':=s1.toks) kp,N1.rel,N1.st⟩ n1 ?_)
     refine⟨s1.heap.objs.size+1,[s1.heap.objs.size+1,s1.heap.objs.size],_,Ite X.K b,rfl,Jtk b s1.heap.objs.size (s1.heap.objs.size+1) (ZaG (Zaz _)),⟨⟨_,he⟩,hit⟩,λ c hc=>?_,J1i hb⟩
     simp only[Z4,ZN,or_false] at hc
     rcases hc with rfl|rfl
     ·exact N1.inv.fpOk (Zbb _) (N1.inv.hok.fresh (Zbb _))
     ·exact N1.inv.fpOk (Zl _) (N1.inv.hok.fresh (Zl _))
    | _=>simp only[Res.bind,QM,hi] at K
  | [],K=>exact Zf K
  | .non::_,K=>exact Zf K
  | .bl _::_,K=>exact Zf K
  | .str _::_,K=>exact Zf K
  | .tup _::_,K=>exact Zf K
  | .rol _::_,K=>exact Zf K
  | .int _::_,K=>exact Zf K
  | .ref _::_::_,K=>exact Zf K
end
noncomputable def Xw:IV->IH->Res ItI
 | .str x,h=>Jut (.str x) h
 | v,h=>itOf v h
def Ju (e:E1):I1:=λ σ h=>(e σ h).bind Xw
theorem Juj {ce:Str->Option Zd}{X:Cx}{tg l:Expr}{ml:E1}(hl:PEi ce X l ml):PIi ce X tg l (Ju ml):=by
 intro pins s σ H ι σi h Q E N K
 cases e0:ml σi h with
 | ok v h' =>
  cases v with
  | str x=>exact Jqe (tg:=tg) hl pins s σ H ι σi h Q E N (by unfold iStr;unfold Ju at K;rw[e0] at K ⊢;exact K)
  | _=>exact Jr6 (tg:=tg) hl pins s σ H ι σi h Q E N (by unfold iVal;unfold Ju at K;rw[e0] at K ⊢;exact K)
 | exc n h'=>exact Jr6 (tg:=tg) hl pins s σ H ι σi h Q E N (by unfold iVal;unfold Ju at K;rw[e0] at K ⊢;exact K)
 | stuck=>exact Jr6 (tg:=tg) hl pins s σ H ι σi h Q E N (by unfold iVal;unfold Ju at K;rw[e0] at K ⊢;exact K)
section
variable {ce:Str->Option Zd}{X:Cx}
theorem x_sl:SlI ce X slI:=by
 intro pins s σ H ι σi h x v vl vu lo hi sl Q E N rx hs pl pu K
 obtain⟨xv,rx,qx⟩:=rx
 cases x with
 | ref i =>
  obtain⟨a,e1,ha⟩:=qx
  subst e1
  dsimp only[slI] at K
  cases hi':h[i]? with
  | none=>rw[hi'] at K;exact Zf K
  | some ob =>
   rw[hi'] at K
   cases ob with
   | lst xs =>
    obtain⟨vs,e1,r1⟩:=N.at hi' ha
    exact Jxl (Jtc (X:=X.wish E)) N.inv rx hs pl pu ⟨a,vs,rfl,SqL.of e1,λ p hp=>finA N K p hp ⟨_,J7,RVs.new hp (r1.cut lo hi)⟩⟩
   | _=>exact Zf K
 | rol xs =>
  obtain⟨a,vs,e1,sa,ra⟩:=qx
  subst e1
  exact Jxl (Jtc (X:=X.wish E)) N.inv rx hs pl pu ⟨a,vs,rfl,sa.sq,λ p hp=>finA N K p hp ⟨_,J7,RVs.new hp (ra.cut lo hi)⟩⟩
 | _=>exact Zf K
noncomputable def Vg:IV->IH->Res IV
 | .ref i,h=>match h[i]? with
  | some (.lst xs)=>.ok (.ref h.length) (h++[.lst xs])
  | _=>.stuck
 | .rol xs,h=>.ok (.ref h.length) (h++[.lst xs])
 | .tup xs,h=>.ok (.ref h.length) (h++[.lst xs])
 | _,_=>.stuck
theorem J0q:Qu ce X (.type "list") (on1 Vg):=VA λ pins s σ H ι σi h x xv u Q E N ru qx K=>by
 cases x with
 | ref i =>
  obtain⟨a,e1,ha⟩:=qx
  subst e1
  dsimp only[Vg] at K
  cases hi:h[i]? with
  | none=>rw[hi] at K;exact Zf K
  | some ob =>
   rw[hi] at K
   cases ob with
   | lst xs =>
    obtain⟨vs,e1,r1⟩:=N.at hi ha
    exact QT (Jck (X:=X.wish E)) N.inv (.cons ru .nil) ⟨a,vs,rfl,.inl (SqL.of e1),λ p hp=>finA N K p hp ⟨_,J7,RVs.new hp r1⟩⟩
   | _=>exact Zf K
 | rol xs =>
  obtain⟨a,vs,e1,sa,ra⟩:=qx
  subst e1
  exact QT (Jck (X:=X.wish E)) N.inv (.cons ru .nil) ⟨a,vs,rfl,.inl sa.sq,λ p hp=>finA N K p hp ⟨_,J7,RVs.new hp ra⟩⟩
 | tup xs =>
  obtain⟨a,vs,e1,sa,ra⟩:=qx
  subst e1
  exact QT (Jck (X:=X.wish E)) N.inv (.cons ru .nil) ⟨a,vs,rfl,.inr sa,λ p hp=>finA N K p hp ⟨_,J7,RVs.new hp ra⟩⟩
 | _=>exact Zf K
noncomputable def Xg:IV->IH->Res IV
 | .ref i,h=>match h[i]? with
  | some (.lst xs)=>.ok (.tup xs) h
  | _=>.stuck
 | .tup xs,h=>.ok (.tup xs) h
 | _,_=>.stuck
theorem Jyd:Qu ce X (.type "tuple") (on1 Xg):=VA λ pins s σ H ι σi h x xv u Q E N ru qx K=>by
 cases x with
 | ref i =>
  obtain⟨a,e1,ha⟩:=qx
  subst e1
  dsimp only[Xg] at K
  cases hi:h[i]? with
  | none=>rw[hi] at K;exact Zf K
  | some ob =>
   rw[hi] at K
   cases ob with
   | lst xs =>
    obtain⟨vs,e1,r1⟩:=N.at hi ha
    exact QT (Jej (X:=X.wish E)) N.inv (.cons ru .nil) ⟨a,vs,rfl,.inl ⟨SqL.of e1,λ p hp=>finT N K p hp r1⟩⟩
   | _=>exact Zf K
 | tup xs =>
  have qx':=qx
  obtain⟨a,vs,e1,sa,ra⟩:=qx
  subst e1
  exact QT (Jej (X:=X.wish E)) N.inv (.cons ru .nil) ⟨a,vs,rfl,.inr ⟨sa,fin0 N K qx'⟩⟩
 | _=>exact Zf K
def VT:List IV->Option (List Bool)
 | []=>some []
 | .bl b::r=>(VT r).map (b:: ·)
 | _::_=>none
noncomputable def allI:IV->IH->Res IV
 | .ref i,h=>match h[i]? with
  | some (.lst xs)=>(match VT xs with
   | some bs=>.ok (.bl (bs.all id)) h
   | none=>.stuck)
  | _=>.stuck
 | _,_=>.stuck
theorem Jok {K:W.Frag}{ι:List Zd}{H:Hp}:∀{xs:List IV}{bs:List Bool}{vs:List V}{us:List Za},VT xs=some bs->RVs K ι H xs vs->Vals vs us->us=bs.map ZcH
 | [],bs,vs,us,e,q,r=>by
  cases e
  have e1:vs=[]:=q
  subst e1
  cases r
  rfl
 | x::xs,bs,vs,us,e,q,r=>by
  obtain⟨v,vr,e1,q1,q2⟩:=q
  subst e1
  cases r with
  | cons r1 r2 =>
   cases x with
   | bl b =>
    obtain⟨b2,e2,rfl⟩:=ZA.mp (show(VT xs).map (b:: ·)=some bs from e)
    cases (show v=.bl b from q1)
    cases r1
    rw[Jok e2 q2 r2]
    rfl
   | _=>cases e
theorem Jq8 (bs:List Bool):((ZF bs.length).all λ i=>bs.getD i true)=bs.all id:=by
 induction bs with
 | nil=>rfl
 | cons b r ih =>
  rw[Z7,ZdO,Zah,List.all_map,Zah]
  have e:((ZF r.length).all ((λ i=>(b::r).getD i true)∘Nat.succ))=(ZF r.length).all λ i=>r.getD i true:=by
   congr 1
  rw[e,ih]
  rfl
theorem J3l (hh:X.A.handled=none):Qu ce X (.builtin "all") (on1 allI):=VA λ pins s σ H ι σi h x xv u Q E N ru qx K=>by
 cases x with
 | ref i =>
  obtain⟨a,e1,ha⟩:=qx
  subst e1
  cases ru
  dsimp only[allI] at K
  cases hi:h[i]? with
  | none=>rw[hi] at K;exact Zf K
  | some ob =>
   rw[hi] at K
   cases ob with
   | lst xs =>
    dsimp only at K
    cases hb:VT xs with
    | none=>rw[hb] at K;exact Zf K
    | some bs =>
     rw[hb] at K
     obtain⟨vs,e1,r1⟩:=N.at hi ha
     obtain⟨its,rv,pl,hz⟩:=N.inv.list (SqL.of e1)
     have eu:=Jok hb r1 rv
     subst eu
     refine call_all_walk (ZaX pl.isList ?_)
     have hlt:a<s.heap.objs.size:=by obtain⟨o,_,ho,_⟩:=pl;exact Zv ho
     have ne:a≠s.heap.objs.size:=Z1 hlt
     refine⟨s.heap.objs.size,_,_,_,_,_,λ i=>bs.getD i true,rfl,ZcM (prog:=X.prog) (w:=X.w) (A:=X.A.in1) hh s.heap.objs.size a ne (bs.map ZcH).toArray,⟨⟨_,Zw _ rfl,rfl,rfl⟩,?_⟩,?_,λ h' tk kk=>?_⟩
     ·obtain⟨o,n,ho,hc,_,hd⟩:=pl
      exact⟨o,Zg _ ho,hc,n,hd⟩
     ·intro i v s' Q' E' hP hq
      simp only[ZdY,Zt] at hP
      obtain⟨b,hb',rfl⟩:=ZA.mp hP
      refine ZaV ?_
      have:bs.getD i true=b:=by simp[List.getD,hb']
      rw[<- this]
      exact hq
     ·rw[show(bs.map ZcH).toArray.size=bs.length by simp,Jq8]
      have I1:Inv X pins σ H { s with heap:=s.heap.push { cls:=.type "list_iterator",data:=.fields #[.ref a,.int 0 0] } }:=N.inv.kept (t':=s.toks) λ b o e=>Zg _ e
      have f:=N.inv.fpOk (Zl _) (N.inv.hok.fresh (Zl _))
      exact fin0 N K rfl _ _ (I1.turned (t':=tk) (it:=s.heap.objs.size) (λ b o hb e=>kk b o (by simpa using hb) e) f.1 f.2.1 f.2.2.2.1 f.2.2.2.2.1 f.2.2.2.2.2) rfl
   | _=>exact Zf K
 | _=>exact Zf K
def MtI (ce:Str->Option Zd)(X:Cx)(T id:String)(g:IV->List IV->IH->Res IV):Prop :=
 ∀(pins:List (Zd×Obj))(s:Zc)(σ:L2.St)(H:Hp)(ι:List Zd)(σi:ISt)(h:IH)(x:IV)(xs:List IV)(v:Za)(us:List Za)(Q:Za->Zc->Prop)(E:Za->Zc->Prop),Now ce X pins ι σi h σ H s->RU X.K ι H x v->RUs X.K ι H xs us ->
  Kont ce X RU pins ι σi σ H (g x xs h) Q E->Zs (Z6 X.prog X.w) X.A (call (.builtin id) (v::us)) Q E s
def tyOk (T:String):IV->IH->Bool
 | .str _,_=>T=="str"
 | .int _,_=>T=="int"
 | .ref i,h=>match h[i]? with
  | some (.lst _)=>T=="list"
  | some (.dct _)=>T=="dict"
  | _=>false
 | .rol _,_=>T=="list"
 | _,_=>false
def eBm (T:String)(g:IV->List IV->IH->Res IV)(o:E1)(a:A1):E1:=λ σ h=>(o σ h).bind λ x h1=>if tyOk T x h1=true then(a σ h1).bind λ xs h2=>g x xs h2 else .stuck
theorem Jxh {pins:List (Zd×Obj)}{s:Zc}{σ:L2.St}{H:Hp}{ι:List Zd}{σi:ISt}{h:IH}{x:IV}{xv:V}{T:String}(N:Now ce X pins ι σi h σ H s)(q:RV X.K ι H x xv)(e:tyOk T x h=true):tyV X.K T xv H:=by
 cases x with
 | str y=>cases (show xv=.str y from q);exact beq_iff_eq.mp e
 | int y=>cases (show xv=.int y from q);exact beq_iff_eq.mp e
 | rol y =>
  obtain⟨a,vs,rfl,sa,_⟩:=q
  exact .inl ⟨beq_iff_eq.mp e,vs,sa.sq⟩
 | ref i =>
  obtain⟨a,rfl,ha⟩:=q
  cases hi:h[i]? with
  | none=>simp[tyOk,hi] at e
  | some ob =>
   cases ob with
   | lst xs =>
    simp only[tyOk,hi] at e
    obtain⟨vs,e1,_⟩:=N.at hi ha
    exact .inl ⟨beq_iff_eq.mp e,vs,SqL.of e1⟩
   | dct kvs =>
    simp only[tyOk,hi] at e
    obtain⟨vs,e1,_⟩:=N.at hi ha
    exact .inr (.inr (.inl ⟨beq_iff_eq.mp e,.inl ⟨vs,e1⟩⟩))
   | _=>simp[tyOk,hi] at e
 | _=>simp[tyOk] at e
variable {o a:Expr}{es:List Expr}{mo:E1}{ma:A1}{name:Str}{apos cpos:Pos}{T id:String}{g:IV->List IV->IH->Res IV}
theorem i_bm (pa:PlainAttrs T)(slot:Slot T name id)(hty:typeOf (.builtin id)=pure (.type "method_descriptor"))(hm:MtI ce X T id g)(ho:PEi ce X o mo)(ha:PAi ce X (a::es) ma)
  (hbase:ZbN o name X.env (ZaK o X.env)=ZaK o X.env:=by rfl)
  (hfew:((ZaT cpos (Z8 (a::es) X.env)).all (λ x=>!x.1)&&(ZcP cpos (ZbC [] X.env)).all (λ x=>x.1.isSome)
   && decide ((a::es).length+([]:List Zc8).length+(if ([]:List Zc8).isEmpty then 0 else 1)<30))=true:=by rfl)
  (hline:(apos.endLine==cpos.line)=true:=by rfl) (hs:Z8 (a::es) X.env=(false,ZaK a X.env)::Z8 es X.env:=by rfl) (hplain:(ZaT cpos (Z8 es X.env)).any (·.1)=false:=by rfl) :
  PEi ce X (.Call (.Attribute o name apos) (a::es) [] cpos) (eBm T g mo ma):=by
 intro pins s σ H ι σi h Q E N K
 refine wpAny_Call_method_late hbase hfew hline rfl (ho.run N K λ x h1 v s1 H1 ι1 N1 n1 r1 K1=>?_)
 by_cases hty1:tyOk T x h1=true
 ·rw[if_pos hty1] at K1
  obtain⟨xv,rx,qx⟩:=r1
  obtain⟨h1',h2'⟩:=Jxi N1.inv rx (Jxh N1 qx hty1)
  refine⟨T,id,pa,slot,hty,h1',h2',?_⟩
  have hA:=(ha cpos).run (Q1:=λ us s2=>Zs (Z6 X.prog X.w) X.A (call (.builtin id) (v::us)) Q E s2) N1 K1 λ xs h2 us s2 H2 ι2 N2 n2 r2 K2=>hm pins s2 σ H2 ι2 σi h2 x xs v us Q E N2 ⟨xv,rx,RV.mono n2 _ _ qx⟩ r2 K2
  rw[hs] at hA ⊢
  exact ZdP (by show(false||(ZaT cpos (Z8 es X.env)).any (·.1))=false;rw[hplain]<;>rfl) (Calls.evalArgs_plain hA)
 ·rw[if_neg hty1] at K1
  exact Zf K1
theorem J31 (pa:PlainAttrs T)(slot:Slot T name id)(hty:typeOf (.builtin id)=pure (.type "method_descriptor"))(hm:MtI ce X T id g)(ho:PEi ce X o mo)
  (hbase:ZbN o name X.env (ZaK o X.env)=ZaK o X.env:=by rfl)(hline:(apos.endLine==cpos.line)=true:=by rfl):PEi ce X (.Call (.Attribute o name apos) [] [] cpos) (eBm T g mo Jd):=by
 intro pins s σ H ι σi h Q E N K
 refine wpAny_Call_method0_late hbase hline (ho.run N K λ x h1 v s1 H1 ι1 N1 n1 r1 K1=>?_)
 by_cases hty1:tyOk T x h1=true
 ·rw[if_pos hty1] at K1
  obtain⟨xv,rx,qx⟩:=r1
  obtain⟨h1',h2'⟩:=Jxi N1.inv rx (Jxh N1 qx hty1)
  exact⟨T,id,pa,slot,hty,h1',h2',ZdP rfl (PySem.evalArgs_none (hm pins s1 σ H1 ι1 σi h1 x [] v [] Q E N1 ⟨xv,rx,qx⟩ .nil K1))⟩
 ·rw[if_neg hty1] at K1
  exact Zf K1
theorem Jxk {pins:List (Zd×Obj)}{s:Zc}{σ:L2.St}{H:Hp}{Q:Za->Zc->Prop}{E:Za->Zc->Prop}{r:V->List V->Hp->VK->Prop}{x:V}{xs:List V}{v:Za}{us:List Za}(p:MtM (X.wish E) id r)(I:Inv X pins σ H s)(rx:RelV x v)(rs:Vals xs us)
  (k:r x xs H λ z H'=>∀u s',Inv X pins σ H' s'->RelV z u->Q u s'):Zs (Z6 X.prog X.w) X.A (call (.builtin id) (v::us)) Q E s :=
 Zae (p pins s σ H x xs v us _ (I.wish E) rx rs k) (λ u s' ⟨_,_,I',r,q⟩=>q u s' I'.unwish r) λ _ _ z=>z
theorem finW {pins:List (Zd×Obj)}{s:Zc}{σ:L2.St}{H:Hp}{ι:List Zd}{σi:ISt}{h:IH}{i:Nat}{b:Zd}{ys:List IV}{vs ws:List V}{v:IV}{w:V}{Q:Za->Zc->Prop}{E:Za->Zc->Prop}(N:Now ce X pins ι σi h σ H s)(K:Kont ce X RU pins ι σi σ H (.ok v (h.set i (.lst ys))) Q E)
  (hb:ι[i]?=some b)(eH:H b=some (.lst vs))(r:RVs X.K ι H ys ws)(q:RV X.K ι H v w):∀u s',Inv X pins σ (upd H b (.lst ws)) s'->RelV w u->Q u s':=λ u s' I ru=>by
 have n:Nxt ι H ι (upd H b (.lst ws)):=⟨⟨[],by simp⟩,Ext.upd_mut eH (by rw[eH];exact Zaj)⟩
 obtain⟨R,_⟩:=N.rel.write (o:=.lst ws) (io:=.lst ys) hb eH (by rw[eH];exact Zaj) ⟨_,J7,RVs.mono n _ _ r⟩
 exact K u s' _ ι ⟨I,R,N.st.mono n⟩ n ⟨w,ru,RV.mono n _ _ q⟩
def VR:IV->List IV->IH->Res IV
 | .ref i,[y],h=>match h[i]? with
  | some (.lst xs)=>if xs.length<sizeLine then .ok .non (h.set i (.lst (xs++[y]))) else .stuck
  | _=>.stuck
 | _,_,_=>.stuck
theorem Ju0:MtI ce X "list" "list.append" VR:=by
 intro pins s σ H ι σi h x xs v us Q E N rx rs K
 obtain⟨xv,rx,qx⟩:=rx
 obtain⟨vs,rv,qs⟩:=rs
 cases x with
 | ref i =>
  match xs,K with
  | [y],K =>
   obtain⟨a,rfl,ha⟩:=qx
   obtain⟨w,rfl,qw⟩:=qs.one_of
   dsimp only[VR] at K
   cases hi:h[i]? with
   | none=>rw[hi] at K;exact Zf K
   | some ob =>
    rw[hi] at K
    cases ob with
    | lst zs =>
     dsimp only at K
     split at K
     ·rename_i hz
      obtain⟨ws,e1,r1⟩:=N.at hi ha
      exact Jxk (Jmk (X:=X.wish E)) N.inv rx rv ⟨a,ws,w,rfl,rfl,e1,by rw[r1.length];exact hz,finW N K ha e1 (r1.append (RVs.one qw)) rfl⟩
     ·exact Zf K
    | _=>exact Zf K
  | [],K=>exact Zf K
  | _::_::_,K=>exact Zf K
 | _=>cases xs<;>exact Zf K
def setI:IV->IV->IV->ISt->IH->SRes
 | .ref i,.int k,v,σ,h=>match h[i]? with
  | some (.lst xs)=>(match ixN xs.length k with
   | some j=>.next σ (h.set i (.lst (xs.set j v)))
   | none=>.stuck)
  | _=>.stuck
 | _,_,_,_,_=>.stuck
end
section
variable {ce:Str->Option Zd}{X:Cx}
noncomputable def keyI:IV->Option Key
 | .int i=>some (.inl i)
 | .str x=>some (.inr x)
 | _=>none
theorem Jf2 {K:W.Frag}{ι:List Zd}{H:Hp}{x:IV}{v:V}{k:Key}(e:keyI x=some k)(r:RV K ι H x v):v=kV k:=by
 cases x with
 | int i=>cases e;exact r
 | str y=>cases e;exact r
 | _=>cases e
def maxI:IV->IV->IH->Res IV
 | .int i,.int j,h=>.ok (.int (if j>i then j else i)) h
 | _,_,_=>.stuck
def minI:IV->IV->IH->Res IV
 | .int i,.int j,h=>.ok (.int (if j<i then j else i)) h
 | _,_,_=>.stuck
theorem J3n (hc:X.calm=true):Qu ce X (.builtin "max") (on2 maxI):=by
 intro pins s σ H ι σi h xs us Q E N r K
 obtain⟨vs,rv,q⟩:=r
 match xs,K with
 | [x,y],K =>
  obtain⟨v,w,rfl,qx,qy⟩:=q.two_of
  cases x with
  | int i =>
   cases y with
   | int j =>
    cases (show v=.int i from qx)
    cases (show w=.int j from qy)
    exact QT (Jrl (X:=X.wish E) hc) N.inv rv ⟨i,j,rfl,fin0 N K rfl⟩
   | _=>exact Zf K
  | _=>cases y<;>exact Zf K
 | [],K=>exact Zf K
 | [_],K=>exact Zf K
 | _::_::_::_,K=>exact Zf K
theorem J3o (hc:X.calm=true):Qu ce X (.builtin "min") (on2 minI):=by
 intro pins s σ H ι σi h xs us Q E N r K
 obtain⟨vs,rv,q⟩:=r
 match xs,K with
 | [x,y],K =>
  obtain⟨v,w,rfl,qx,qy⟩:=q.two_of
  cases x with
  | int i =>
   cases y with
   | int j =>
    cases (show v=.int i from qx)
    cases (show w=.int j from qy)
    exact QT (Jrm (X:=X.wish E) hc) N.inv rv ⟨i,j,rfl,fin0 N K rfl⟩
   | _=>exact Zf K
  | _=>cases y<;>exact Zf K
 | [],K=>exact Zf K
 | [_],K=>exact Zf K
 | _::_::_::_,K=>exact Zf K
noncomputable def Qp:List IV->Option (List Str)
 | []=>some []
 | .str x::r=>(Qp r).map (x:: ·)
 | _=>none
theorem Joe {K:W.Frag}{ι:List Zd}{H:Hp}:∀{xs:List IV}{zs:List Str}{vs:List V}{us:List Za},Qp xs=some zs->RVs K ι H xs vs->Vals vs us->∃l:List (Str×Tok),us=Ze8 l/\l.map (·.1)=zs
 | [],zs,vs,us,e,q,r=>by
  cases e
  have e1:vs=[]:=q
  subst e1
  cases r
  exact⟨[],rfl,rfl⟩
 | x::xs,zs,vs,us,e,q,r=>by
  obtain⟨v,vr,e1,q1,q2⟩:=q
  subst e1
  cases r with
  | cons r1 r2 =>
   cases x with
   | str y =>
    obtain⟨z2,e2,rfl⟩:=ZA.mp (show(Qp xs).map (y:: ·)=some zs from e)
    cases (show v=.str y from q1)
    obtain⟨t,rfl⟩:=r1
    obtain⟨l,rfl,hl⟩:=Joe e2 q2 r2
    exact⟨(y,t)::l,rfl,by rw[Z0,hl]⟩
   | _=>cases e
def Xx:IV->List IV->IH->Res IV
 | .str x,[.ref i],h=>match h[i]? with
  | some (.lst xs)=>(match Qp xs with
   | some zs=>if JoinOk x zs=true then .ok (.str (Txt.join x zs)) h else .stuck
   | none=>.stuck)
  | _=>.stuck
 | _,_,_=>.stuck
theorem J1y:MtI ce X "str" "str.join" Xx:=by
 intro pins s σ H ι σi h x xs v us Q E N rx rs K
 obtain⟨xv,rx,qx⟩:=rx
 obtain⟨vs,rv,qs⟩:=rs
 cases x with
 | str x =>
  cases (show xv=.str x from qx)
  obtain⟨t,rfl⟩:=rx
  match xs,K with
  | [.ref i],K =>
   obtain⟨w,rfl,a,rfl,ha⟩:=qs.one_of
   obtain⟨u,rfl,ru⟩:=QU rv
   cases ru
   dsimp only[Xx] at K
   cases hi:h[i]? with
   | none=>rw[hi] at K;exact Zf K
   | some ob =>
    rw[hi] at K
    cases ob with
    | lst ys =>
     dsimp only at K
     cases hb:Qp ys with
     | none=>rw[hb] at K;exact Zf K
     | some zs =>
      rw[hb] at K
      dsimp only at K
      split at K
      ·rename_i hz
       obtain⟨ws,e1,r1⟩:=N.at hi ha
       obtain⟨its,rv',pl,_⟩:=N.inv.list (SqL.of e1)
       obtain⟨l,rfl,hl⟩:=Joe hb r1 rv'
       exact SC.join pl.isList hl hz λ t' k=>fin0 N K rfl _ _ (N.inv.tok _) ⟨_,rfl⟩
      ·exact Zf K
    | _=>exact Zf K
  | [],K=>exact Zf K
  | [.non],K=>exact Zf K
  | [.bl _],K=>exact Zf K
  | [.int _],K=>exact Zf K
  | [.str _],K=>exact Zf K
  | [.tup _],K=>exact Zf K
  | [.rol _],K=>exact Zf K
  | y::_::_,K=>cases y<;>exact Zf K
 | _=>exact Zf K
end
noncomputable def JI:List IV->Option (List Int)
 | []=>some []
 | .int i::r=>(JI r).map (i:: ·)
 | _=>none
theorem Vy {K:W.Frag}{ι:List Zd}{H:Hp}:∀{xs:List IV}{ns:List Int}{vs:List V}{us:List Za},JI xs=some ns->RVs K ι H xs vs->Vals vs us->Zb4 us ns
 | [],ns,vs,us,e,q,r=>by
  cases e
  have e1:vs=[]:=q
  subst e1
  cases r
  exact .nil
 | x::xs,ns,vs,us,e,q,r=>by
  obtain⟨v,vr,e1,q1,q2⟩:=q
  subst e1
  cases r with
  | cons r1 r2 =>
   cases x with
   | int i =>
    obtain⟨n2,e2,rfl⟩:=ZA.mp (show(JI xs).map (i:: ·)=some ns from e)
    cases (show v=.int i from q1)
    obtain⟨t,rfl⟩:=r1
    exact .cons i t (Vy e2 q2 r2)
   | _=>cases e
theorem Yh:∀{us:List Za}{ns:List Int},Zb4 us ns->us.length=ns.length
 | _,_,.nil=>rfl
 | _,_,.cons _ _ r=>by simp[Yh r]
section
variable {ce:Str->Option Zd}{X:Cx}
noncomputable def sumI:IV->IH->Res IV
 | .ref i,h=>match h[i]? with
  | some (.lst xs)=>(match JI xs with
   | some ns=>.ok (.int ns.sum) h
   | none=>.stuck)
  | _=>.stuck
 | _,_=>.stuck
theorem J3p (hh:X.A.handled=none):Qu ce X (.builtin "sum") (on1 sumI):=VA λ pins s σ H ι σi h x xv u Q E N ru qx K=>by
 cases x with
 | ref i =>
  obtain⟨a,e1,ha⟩:=qx
  subst e1
  cases ru
  dsimp only[sumI] at K
  cases hi:h[i]? with
  | none=>rw[hi] at K;exact Zf K
  | some ob =>
   rw[hi] at K
   cases ob with
   | lst xs =>
    dsimp only at K
    cases hb:JI xs with
    | none=>rw[hb] at K;exact Zf K
    | some ns =>
     rw[hb] at K
     obtain⟨vs,e1,r1⟩:=N.at hi ha
     obtain⟨its,rv,pl,hz⟩:=N.inv.list (SqL.of e1)
     have are:=Vy hb r1 rv
     obtain⟨ys,hy⟩:=are.allInts.items
     have pl':s.heap.IsList a (intItems ys):=hy▸pl.isList
     refine sum_intListG hh pl' λ h2 tk t2 kk=>?_
     have en:ns=ys.toList.map (·.1):=by
      have q1:=are.numsOf
      have q2:=congrArg (λ z:Array Za=>numsOf z.toList) hy
      simp only at q2
      rw[<- q1]
      exact q2.trans (nums_intItems ys)
     have es:preSum (numAt ys) ys.size=ns.sum:=by
      rw[preSum_eq,en,ZaY (by simp)]
     rw[es]
     exact fin0 N K rfl _ _ (N.inv.kept (t':=tk) kk) ⟨_,rfl⟩
   | _=>exact Zf K
 | _=>exact Zf K
end
def JL (f:Nat->Int):Nat->Int
 | 0=>0
 | 1=>f 0
 | j+2=>if f (j+1)>JL f (j+1) then f (j+1) else JL f (j+1)
theorem Jfb (f:Nat->Int){j:Nat}(hj:0<j):JL f (j+1)=if f j>JL f j then f j else JL f j:=by
 cases j with
 | zero=>omega
 | succ j=>rfl
section
variable {pr:Z5}{wd:ZP}{B:ZI}{R:ZdK->Zc->Prop}{it:Zd}{fps wrs:List Zd}{n:Nat}{P:Nat->Za->Prop}{St:Nat->Zag->Prop}
abbrev Jw4 (v:Za)(c:Nat):Obj:={ cls:=.type "list",dict:=none,data:=.seq #[v,v] c,slots:=#[] }
theorem Jkf:(toString "max"++toString ".loop":String)="max.loop":=by decide
theorem Jze {kw:List (Str×Za)}(W:Walks pr wd B.in1 it fps wrs n P St)(f:Nat->Int)(hf:∀i v,P i v->∃t,v=.int (f i) t)(C:Zd)(hC:C∉fps) :
  ∀(r j:Nat)(z:Zc)(v:Za)(u:Tok)(c:Nat),n-j=r->0<j->j<=n->St j z.heap->v=.int (JL f j) u->z.heap.get? C=some (Jw4 v c) ->
   (∀u h2 tk,(∀a o,a∉wrs->a≠C->z.heap.get? a=some o->h2.get? a=some o)->R (.ok (.ret (.int (JL f n) u))) { z with heap:=h2,toks:=tk }) ->
   Zc5 (Z6 pr wd) B (.builtin "max.loop" ⟨[.ref it,.none,.ref C],kw⟩) R z:=by
 have hw:C∉wrs:=λ q=>hC (W.sub _ q)
 intro r
 induction r with
 | zero =>
  intro j z v u c hr h0 hj st ev gC fin
  obtain rfl:j=n:=by omega
  subst ev
  refine Zal ZcC ?_
  rw[ZW Za6 _]
  show Zs _ B.in1 (Zca (.ref C)>>=_) _ _ z
  refine Ze (Zbm gC rfl ?_)
  show Zs _ B.in1 (tryCatch (ZbU (.ref it)) _>>=_) _ _ z
  refine Ze (Zan (W.done z _ _ st λ h2 tk keep=>?_))
  have gC2:=keep C _ hw gC
  show Zs _ B.in1 (ZdB C (λ _=>#[])>>=_) _ _ _
  refine Ze ?_
  refine Zbd gC2 rfl (Ze (Zbe (Zu ?_)))
  exact fin u _ tk λ a o ha hb e=>(Zr _ _ (ZK hb)).trans (keep a o ha e)
 | succ r ih =>
  intro j z v u c hr h0 hj st ev gC fin
  have lt:j<n:=by omega
  subst ev
  refine Zal ZcC ?_
  rw[ZW Za6 _]
  show Zs _ B.in1 (Zca (.ref C)>>=_) _ _ z
  refine Ze (Zbm gC rfl ?_)
  show Zs _ B.in1 (tryCatch (ZbU (.ref it)) _>>=_) _ _ z
  refine Ze (Zan (W.item j z _ _ lt st λ y h2 tk hP st2 keep=>?_))
  obtain⟨t,rfl⟩:=hf j y hP
  have gC2:=keep C _ hw gC
  have cmp:=CmpOf.ints_gt (prog:=pr) (w:=wd) (A:=B.in1) (P:=λ i v=>∃t,v=.int (if i=0 then f j else JL f j) t) (λ i=>if i=0 then f j else JL f j) (λ _ _ q=>q)
  show Zs _ B.in1 (tryCatch (ZbQ [ZbM (f j) t,ZbM (f j) t] (ZcR .Gt (.int (f j) t) (.int (JL f j) u)>>=_)) _>>=_) _ _ _
  refine Ze (Zan (ZZ (Ze (cmp 0 1 _ _ _ _ _ ⟨t,by simp⟩ ⟨u,by simp⟩ ?_))))
  refine Ze (ZZ (ZaV ?_))
  refine Ze (Zbe (Zu ?_))
  have step:=Jfb f h0
  by_cases hb:f j>JL f j
  ·rw[if_pos hb] at step
   simp only[if_true,show ¬(1:Nat)=0 by decide,if_false,decide_eq_true hb]
   refine Ze ?_
   refine Zbd gC2 rfl (Ze (Zbe ?_))
   rw[Jkf]
   refine Zu ⟨Za1 Za6 _,ih (j+1) _ (.int (f j) t) t _ (by omega) (by omega) lt (W.frame _ _ _ st2 λ a ha o e=>?_) (by rw[step]) (Za2 _ gC2 rfl) λ u2 h3 tk3 k3=>?_⟩
   ·exact(Zr _ _ (λ q:C=a=>hC (by rw[q];exact ha))).trans e
   ·exact fin u2 h3 tk3 λ a o ha hc e=>k3 a o ha hc ((Zr _ _ (ZK hc)).trans (keep a o ha e))
  ·rw[if_neg hb] at step
   simp only[if_true,show ¬(1:Nat)=0 by decide,if_false,decide_eq_false hb,ZU]
   refine Ze (Zbe ?_)
   rw[Jkf]
   refine Zu ⟨Za1 Za6 _,ih (j+1) _ (.int (JL f j) u) u c (by omega) (by omega) lt st2 (by rw[step]) gC2 λ u2 h3 tk3 k3=>?_⟩
   exact fin u2 h3 tk3 λ a o ha hc e=>k3 a o ha hc (keep a o ha e)
end
theorem Jra (a v:Za):Zev "max" ⟨[a],[(Zaw "default",v)]⟩:=by unfold Zev;kernel_rfl
section
variable {pr:Z5}{wd:ZP}{B:ZI}{E:Za->Zc->Prop}{z:Zc}{l:Zd}{us:List Za}{ns:List Int}{d:Option Za}{Q:Za->Zc->Prop}{kw:List (Str×Za)}
def J3h (ns:List Int)(d:Option Za)(v:Za):Prop:=(ns=[]/\d=some v)∨(ns≠[]/\∃u,v=.int (JL (λ i=>ns.getD i 0) ns.length) u)
theorem Jsw (hk:Za4 "max" ["key","default"] 0 ⟨[],kw⟩=pure [none,d])(ha:Zev "max" ⟨[.ref l],kw⟩)(hn:ns=[]->∃v,d=some v)(hh:B.handled=none)(hl:z.heap.IsList l us.toArray)(hi:Zb4 us ns)
  (hQ:∀v h2 tk,J3h ns d v->(∀b o,z.heap.get? b=some o->h2.get? b=some o)->Q v { z with heap:=h2,toks:=tk }) :
  Zs (Z6 pr wd) B (call (.builtin "max") [.ref l] kw) Q E z:=by
 obtain⟨ol,hol,_⟩:=id hl
 have lt:l<z.heap.objs.size:=Zv hol
 have ll:=Yh hi
 refine kmk_tree PySem.F.kind_max PySem.F.plain_max PySem.F.entry_max ha ?_
 show Zs _ B.in1 (Za4 "max" ["key","default"] 0 ⟨[],kw⟩>>=_) _ _ z
 refine Ze (wpAny_of_eq hk ?_)
 refine Ze (Zu ?_)
 refine Ze (ZaX hl ?_)
 refine Ze (Zck ?_ (ZT _))
 rw[Jkf]
 have ne:l≠z.heap.objs.size:=Z1 lt
 have W:=ZcM (prog:=pr) (w:=wd) (A:=B.in1) hh z.heap.objs.size l ne us.toArray
 have sz:us.toArray.size=us.length:=Zq ..
 have hS:(z.heap.push { cls:=.type "list_iterator",data:=.fields #[.ref l,.int 0 0] }).objs.size=z.heap.objs.size+1:=ZdQ ..
 have hC:(z.heap.push { cls:=.type "list_iterator",data:=.fields #[.ref l,.int 0 0] }).objs.size∉[z.heap.objs.size,l]:=by
  rw[hS]
  simp only[Z4,ZN,or_false,not_or]
  exact⟨ZaG (Zaz _),ZaG (Zbz lt)⟩
 have hw:(z.heap.push { cls:=.type "list_iterator",data:=.fields #[.ref l,.int 0 0] }).objs.size∉[z.heap.objs.size]:=by
  rw[hS]
  simp only[Z4,ZN,or_false]
  exact ZaG (Zaz _)
 have old:∀b o,z.heap.get? b=some o->((z.heap.push { cls:=.type "list_iterator",data:=.fields #[.ref l,.int 0 0] }).push (Zai "list" #[] 0)).get? b=some o:=λ b o e=>Zg _ (Zg _ e)
 have gI:((z.heap.push { cls:=.type "list_iterator",data:=.fields #[.ref l,.int 0 0] }).push (Zai "list" #[] 0)).get? z.heap.objs.size=some { cls:=.type "list_iterator",data:=.fields #[.ref l,.int 0 0] }:=Zg _ (Zw _ rfl)
 have gC:((z.heap.push { cls:=.type "list_iterator",data:=.fields #[.ref l,.int 0 0] }).push (Zai "list" #[] 0)).get? (z.heap.push { cls:=.type "list_iterator",data:=.fields #[.ref l,.int 0 0] }).objs.size=some (Zai "list" #[] 0):=Zw _ rfl
 have notin:∀b o,z.heap.get? b=some o->b∉[z.heap.objs.size]:=λ b o e q=>Z1 (Zv e) (Zy.mp q)
 have notC:∀b o,z.heap.get? b=some o->b≠(z.heap.push { cls:=.type "list_iterator",data:=.fields #[.ref l,.int 0 0] }).objs.size:=λ b o e=>by rw[hS];exact Z1 (Zbz (Zv e))
 refine Zu ⟨Za1 Za6 _,Zal ZcC ?_⟩
 rw[ZW Za6 _]
 show Zs _ B.in1 (Zca (.ref _)>>=_) _ _ _
 refine Ze (Zbm gC rfl ?_)
 show Zs _ B.in1 (tryCatch (ZbU (.ref z.heap.objs.size)) _>>=_) _ _ _
 by_cases h0:us.length=0
 ·refine Ze (Zan (W.done _ _ _ (by rw[sz,h0];exact⟨⟨_,gI,rfl,rfl⟩,(hl.push _).push _⟩) λ h2 tk keep=>?_))
  obtain⟨v,rfl⟩:=hn (ZaB (by omega))
  show Zs _ B.in1 (rule _>>=_) _ _ _
  refine Ze (Zew (Zu ?_))
  refine hQ v h2 tk (.inl ⟨ZaB (by omega),rfl⟩) λ b o e=>keep b o (notin b o e) (old b o e)
 ·refine Ze (Zan (W.item 0 _ _ _ (by rw[sz];omega) ⟨⟨_,gI,rfl,rfl⟩,(hl.push _).push _⟩ λ y h2 tk hP st2 keep=>?_))
  have gC2:=keep _ _ hw gC
  show Zs _ B.in1 (ZdB (z.heap.push { cls:=.type "list_iterator",data:=.fields #[.ref l,.int 0 0] }).objs.size (λ _=>#[y,y])>>=_) _ _ _
  refine Ze ?_
  refine Zbd gC2 rfl ?_
  rw[Jkf]
  have hf:∀(i:Nat)(v:Za),us.toArray[i]?=some v->∃t,v=.int ((λ i=>ns.getD i 0) i) t:=λ i v q=>Zeg hi i v (by simpa using q)
  obtain⟨t,rfl⟩:=hf 0 y hP
  refine Zu ⟨Za1 Za6 _,Jze W (λ i=>ns.getD i 0) hf _ hC _ 1 _ _ t _ rfl (by decide) (by rw[sz];omega) (W.frame _ _ _ st2 λ a ha o e=>?_) rfl (Za2 _ gC2 rfl) λ u h3 tk3 k3=>?_⟩
  ·exact(Zr _ _ (λ q=>hC (by rw[q];exact ha))).trans e
  ·rw[sz,ll]
   refine hQ _ h3 tk3 (.inr ⟨λ q=>h0 (by rw[ll,q];rfl),u,rfl⟩) λ b o e=>k3 b o (notin b o e) (notC b o e) ((Zr _ _ (ZK (notC b o e))).trans (keep b o (notin b o e) (old b o e)))
end
section
variable {ce:Str->Option Zd}{X:Cx}
def maxD (ns:List Int)(d:IV):IV:=if ns=[] then d else .int (JL (λ i=>ns.getD i 0) ns.length)
def Yb (aa:A1)(md:E1):E1:=λ σ h=>(aa σ h).bind λ xs h1=>(md σ h1).bind λ d h2=>match xs with
 | [.ref i]=>(match h2[i]? with
  | some (.lst ys)=>(match JI ys with
   | some ns=>.ok (maxD ns d) h2
   | none=>.stuck)
  | _=>.stuck)
 | _=>.stuck
theorem J1d {a de:Expr}{aa:A1}{md:E1}{p pos kp:Pos}(hh:X.A.handled=none)(hg:Gl X "max")(hm:X.mg "max"=none)(ha:PAi ce X [a] aa)(hd:PEi ce X de md)(hs:Z8 [a] X.env=[(false,ZaK a X.env)]) :
  PEi ce X (.Call (.Name "max" p) [a] [⟨some "default",de,kp⟩] pos) (Yb aa md):=λ pins s σ H ι σi h Q E N K=>by
 refine Zad (QC N.inv hg hm rfl ?_)
 refine callWith_kw ?_ (by rw[hs];rfl) (by rw[hs];rfl) rfl rfl
 refine(ha pos).run N K λ xs h1 us s1 H1 ι1 N1 n1 r1 K1=>?_
 refine Zbu (Ze (PX.run hd N1 K1 λ d h2 du s2 H2 ι2 N2 n2 r2 K2=>Ze (Zb2 (Zu (Zcl ?_)))))
 obtain⟨vs,rv,qs⟩:=r1.mono n2
 match xs,K2 with
 | [.ref i],K2 =>
  obtain⟨w,rfl,ad,rfl,hav⟩:=qs.one_of
  obtain⟨u,rfl,ru⟩:=QU rv
  cases ru
  dsimp only at K2
  cases hi:h2[i]? with
  | none=>rw[hi] at K2;exact Zf K2
  | some ob =>
   rw[hi] at K2
   cases ob with
   | lst ys =>
    dsimp only at K2
    cases hb:JI ys with
    | none=>rw[hb] at K2;exact Zf K2
    | some ns =>
     rw[hb] at K2
     dsimp only at K2
     obtain⟨ws,e1,r3⟩:=N2.at hi hav
     obtain⟨its,rv2,pl,_⟩:=N2.inv.list (SqL.of e1)
     refine Jsw (d:=some du) rfl (Jra _ _) (λ _=>⟨_,rfl⟩) hh pl.isList (Vy hb r3 rv2) λ v h3 tk mi kk=>?_
     have N3:Now ce X pins ι2 σi h2 σ H2 { s2 with heap:=h3,toks:=tk }:=⟨N2.inv.kept (t':=tk) kk,N2.rel,N2.st⟩
     rcases mi with⟨e,ev⟩|⟨e,t,rfl⟩
     ·cases ev
      have em:maxD ns d=d:=if_pos e
      rw[em] at K2
      exact K2 _ _ _ _ N3 .refl r2
     ·have em:maxD ns d=.int (JL (λ i=>ns.getD i 0) ns.length):=if_neg e
      rw[em] at K2
      exact K2 _ _ _ _ N3 .refl ⟨.int _,⟨t,rfl⟩,rfl⟩
   | _=>exact Zf K2
 | [],K2=>exact Zf K2
 | [.non],K2=>exact Zf K2
 | [.bl _],K2=>exact Zf K2
 | [.int _],K2=>exact Zf K2
 | [.str _],K2=>exact Zf K2
 | [.tup _],K2=>exact Zf K2
 | [.rol _],K2=>exact Zf K2
 | x::_::_,K2=>cases x<;>exact Zf K2
end
def metB (f:Nat->Str)(i:Nat)(k:Str):Bool:=(ZF i).any λ j=>decide (k=f j)
def cntD (f:Nat->Str):Nat->Nat
 | 0=>0
 | i+1=>if metB f i (f i) then cntD f i else cntD f i+1
theorem Jsu (f:Nat->Str)(i:Nat)(k:Str):metB f (i+1) k=(metB f i k||decide (k=f i)):=by simp[metB,ZdU]
theorem Jno (f:Nat->Str):∀i,cntD f i<=i
 | 0=>Zl _
 | i+1=>by
  have:=Jno f i
  unfold cntD
  split<;>omega
section
variable {pr:Z5}{wd:ZP}{B:ZI}{R:ZdK->Zc->Prop}{it:Zd}{fps wrs:List Zd}{G:Array GenState->Array GenState->Prop}{n:Nat}{P:Nat->Za->Prop}{St:Nat->Zc->Prop}
abbrev Vt (pr:Z5)(wd:ZP)(hp:Zag)(a:Zd)(f:Nat->Str)(i:Nat):Prop:=hp.SetOf (ZcO pr wd) a (λ k=>metB f i k) (cntD f i)
theorem Vt.moved {hp h2:Zag}{a:Zd}{f:Nat->Str}{i:Nat}(q:Vt pr wd hp a f i)(m:∀o,hp.get? a=some o->h2.get? a=some o):Vt pr wd h2 a f i:=by
 obtain⟨o,es,ep,t,ho,rest⟩:=q
 exact⟨o,es,ep,t,m o ho,rest⟩
theorem Jvo (W:WalksS pr wd B.in1 it fps wrs G n P St)(C:Zd)(hC:C∉fps)(f:Nat->Str)(hf:∀i v,P i v->∃t,v=.str (f i) t)(room:n+1<Zcb) :
  ∀(r i:Nat)(z:Zc),n-i=r->i<=n->St i z->Vt pr wd z.heap C f i->(∀z2,Moved (C::wrs) G z z2->Vt pr wd z2.heap C f n->R (.ok (.ret .none)) z2) ->
   Zc5 (Z6 pr wd) B (.builtin "set.update.loop" ⟨[.ref C,.ref it],[]⟩) R z:=by
 have nw:C∉wrs:=λ q=>hC (W.sub _ q)
 have more:∀b∈wrs,b∈C::wrs:=λ b q=>Zm _ q
 intro r
 induction r with
 | zero =>
  intro i z hr hi st hS fin
  obtain rfl:i=n:=by omega
  refine Zal Zcg ?_
  rw[ZW Zbo _]
  show Zs _ B.in1 (ZbU (.ref it)>>=_) _ _ z
  refine Ze (W.done z _ _ st λ z2 mv=>?_)
  show Zs _ B.in1 (ret ZR) _ _ z2
  exact Zu (fin z2 (mv.mono more) (hS.moved λ o e=>mv.heap C _ nw e))
 | succ r ih =>
  intro i z hr hi st hS fin
  have lt:i<n:=by omega
  refine Zal Zcg ?_
  rw[ZW Zbo _]
  show Zs _ B.in1 (ZbU (.ref it)>>=_) _ _ z
  refine Ze (W.item i z _ _ lt st λ v z2 hP st2 mv=>?_)
  obtain⟨t,rfl⟩:=hf i v hP
  have hS2:Vt pr wd z2.heap C f i:=hS.moved λ o e=>mv.heap C _ nw e
  have ki:(ZcO pr wd).is (f i) (.str (f i) t)=true:=strKind_is _ _ _ _
  show Zs _ B.in1 (ZbQ [Zek (f i) t] (setAdd C (.str (f i) t))>>=_) _ _ z2
  refine Ze (ZZ ?_)
  unfold setAdd
  refine ZZ ?_
  refine Ze ((ZcO pr wd).pyHash (k:=f i) ki ?_)
  have rm:cntD f i+1<Zcb:=by have:=Jno f i;omega
  refine wpAny_setAddHashed_of (knd:=ZcO pr wd) (s:={ z2 with toks:=z2.toks+1 }) ki rfl hS2 rm λ h3 sb hS3=>?_
  have hS4:Vt pr wd h3 C f (i+1):=SetOf_congr hS3 (λ k=>(Jsu f i k).symm) (by show _=cntD f (i+1);rfl)
  refine Zu ⟨Za1 Zbo _,ih (i+1) _ (by omega) lt (W.frame _ z2 _ _ st2 (Zbb _) λ b q o e=>?_) hS4 λ z5 m5 hS5=>?_⟩
  ·rw[sb.2 b (λ e2:b=C=>hC (by rw[<- e2];exact q))];exact e
  ·refine fin z5 (Moved.trans W.gtrans ((mv.mono more).then_heap (Zbb _) λ b o q e=>?_) m5) hS5
   rw[sb.2 b (λ e2:b=C=>q (by rw[e2];exact Z3))];exact e
end
section
variable {pr:Z5}{wd:ZP}{B:ZI}{E:Za->Zc->Prop}{z:Zc}{l:Zd}{us:List Za}{zs:List Str}{Q:Za->Zc->Prop}
abbrev QN (led:Bool):Obj:={ cls:=.type "set",dict:=none,data:=.set #[] 0 (.fresh 0 0 led) }
abbrev QG (zs:List Str):Nat->Str:=λ i=>zs.getD i Str.empty
set_option maxRecDepth 100000 in
theorem Jvm {l2:List (Str×Tok)}(hh:B.handled=none)(hl:z.heap.IsList l us.toArray)(eu:us=Ze8 l2)(ez:l2.map (·.1)=zs)(room:zs.length+1<Zcb)
  (fin:∀(h2:Zag)(tk:Nat),Vt pr wd h2 z.heap.objs.size (QG zs) zs.length->(∀b o,z.heap.get? b=some o->h2.get? b=some o)->Q (.ref z.heap.objs.size) { z with heap:=h2,toks:=tk }) :
  Zs (Z6 pr wd) B (call (.type "set") [.ref l]) Q E z:=by
 have len:us.toArray.size=zs.length:=by rw[eu,<-ez];simp[Ze8]
 have vals:∀(i:Nat)(v:Za),us.toArray[i]?=some v->∃t,v=.str (QG zs i) t:=λ i v q=>by
  rw[eu] at q
  simp only[Ze8,ZdY,Zt] at q
  obtain⟨p,hp,rfl⟩:=ZA.mp q
  refine⟨p.2,?_⟩
  rw[<- ez]
  simp[QG,Zi,Zt,hp]
 obtain⟨c,tl,hmro⟩:=PySem.F.called_set.mro
 have hmade:=PySem.F.called_set.made
 have hsub:=PySem.F.called_set.sub
 refine Zeu (codeAny_of_tree ?_)
 show Zs _ _ (callAny (.type "set") _) _ _ _
 refine Zu ⟨Code.quiet_builtin _ (by decide +kernel),Zal PySem.F.entry_type_call ?_⟩
 rw[Around.under_plain (weight_type_call_type "set" [.ref l] []) rfl]
 have no1:=PySem.F.called_set.notType
 have no2:=PySem.F.called_set.canCreate
 have ok1:=PySem.F.typeCall_set_1 (.ref l)
 repeat (any_goals (first|assumption|wp_step))
 refine ZcA (code_set_new_1 (.ref l) (E:=E) (Q₁:=λ obj z1=>∃led:Bool,obj=.ref z.heap.objs.size/\z1={ z with heap:=z.heap.push (QN led) }) λ led=>⟨led,rfl,rfl⟩) λ res z1 hr=>?_
 cases res with
 | error e=>exact hr
 | ok fl =>
  cases fl with
  | ret obj =>
   obtain⟨led,rfl,rfl⟩:=hr
   have gS:(z.heap.push (QN led)).get? z.heap.objs.size=some (QN led):=Zw _ rfl
   have tS:Shared.TypeIs { z with heap:=z.heap.push (QN led) } (.ref z.heap.objs.size) "set":=⟨_,gS,rfl⟩
   have in1:=PySem.F.called_set.init.lookup
   have in2:=PySem.F.called_set.init.bind (.ref z.heap.objs.size)
   repeat (any_goals (first|assumption|wp_step))
   refine ZcA (codeAny_call_builtin (R:=wants (λ res z2=>res=.none/\∃h2 tk,z2={ z with heap:=h2,toks:=tk }/\Vt pr wd h2 z.heap.objs.size (QG zs) zs.length/\(∀b o,z.heap.get? b=some o->h2.get? b=some o)) E)
    PySem.F.called_set.init.plain PySem.F.entry_set_init (check_set_init_1 tS ?_)) λ res2 z2 hr2=>?_
   ·obtain⟨ol,hol,hcl,nl,hdl⟩:=hl
    obtain⟨ocls,odict,odata,oslots⟩:=ol
    simp only at hcl hdl
    subst hcl;subst hdl
    have gl:(z.heap.push (QN led)).get? l=some { cls:=.type "list",dict:=odict,data:=.seq us.toArray nl,slots:=oslots }:=Zg _ hol
    have sb1:=PySem.F.sub_list_set
    have sb2:=PySem.F.sub_list_frozenset
    have dne:(Zes "list"==Zes "dict")=false:=by decide
    have hl1:(z.heap.push (QN led)).IsList l us.toArray:=⟨_,gl,rfl,nl,rfl⟩
    unfold Ze4.«set.__init__» noKeywords Builtin.Frozenset.updateFrom
    generalize hPI:Zeb=PI
    wp_walk
    subst hPI
    refine ZaX hl1 ?_
    refine Ze (wpAny_runValue ?_)
    have lS:l<z.heap.objs.size:=Zv hol
    have h3:B.in1.in1.in1.handled=none:=by simp[hh]
    have neI:l≠(z.heap.push (QN led)).objs.size:=by rw[Zc6];exact Z1 (Zbz lS)
    have nC:z.heap.objs.size∉[(z.heap.push (QN led)).objs.size,l]:=by
     rw[Zc6]
     simp only[Z4,ZN,or_false,not_or]
     exact⟨Z1 (Zaz _),ZaG lS⟩
    refine Jvo ((ZcM h3 _ l neI us.toArray).toS) z.heap.objs.size nC (QG zs) vals (by rw[len];exact room) (us.toArray.size-0) 0 _ (by omega) (ZT _) ⟨⟨_,Zw _ rfl,rfl,rfl⟩,(hl1.push _)⟩ ?start ?stop
    case start =>
     have g0:((z.heap.push (QN led)).push { cls:=.type "list_iterator",data:=.fields #[.ref l,.int 0 0] }).get? z.heap.objs.size=some (QN led):=Zg _ gS
     exact SetOf_congr ((setObjOf_fresh (knd:=ZcO pr wd) led).setOf g0 (by unfold Zcb;omega)) (λ _=>rfl) rfl
    case stop =>
     intro z5 mv hS5
     obtain⟨h5,g5,d5,tk5,os5⟩:=z5
     have eg:g5=z.gens:=mv.gens
     have ed:d5=z.drawn:=mv.drawn
     have eo:os5=z.os:=mv.os
     subst eg;subst ed;subst eo
     show Zs _ _ _ _ _ _
     refine Zu ?_
     show Zs _ _ (ret ZR) _ _ _
     rw[len] at hS5
     refine Zu ⟨rfl,h5,tk5,rfl,hS5,λ b o e=>?_⟩
     have lb:=Zv e
     have b1:b≠z.heap.objs.size:=Z1 lb
     have b2:b≠(z.heap.push (QN led)).objs.size:=by rw[Zc6];exact Z1 (Zbz lb)
     exact mv.heap b o (by simp only[Z4,ZN,or_false,not_or];exact⟨b1,b2⟩) (Zg _ (Zg _ e))
   ·cases res2 with
    | error e=>exact hr2
    | ok fl2 =>
     cases fl2 with
     | ret rv =>
      obtain⟨rfl,h2,tk,rfl,hS2,keep⟩:=hr2
      repeat (any_goals (first|assumption|wp_step))
      exact fin _ _ hS2 keep
     | _=>exact hr2.elim
  | _=>exact hr.elim
end
section
variable {ce:Str->Option Zd}{X:Cx}
def Ya (aa:A1):E1:=λ σ h=>(aa σ h).bind λ xs h1=>match xs with
 | [.ref i]=>(match h1[i]? with
  | some (.lst ys)=>(match Qp ys with
   | some zs=>if zs.length+1<Zcb then .ok (.int (cntD (QG zs) zs.length)) h1 else .stuck
   | none=>.stuck)
  | _=>.stuck)
 | _=>.stuck
theorem Juk {a:Expr}{aa:A1}{p pos p2 pos2:Pos}(hh:X.A.handled=none)(g1:Gl X "len")(m1:X.mg "len"=none)(g2:Gl X "set")(m2:X.mg "set"=none)(ha:PAi ce X [a] aa)(hs:Z8 [a] X.env=[(false,ZaK a X.env)]) :
  PEi ce X (.Call (.Name "len" p) [.Call (.Name "set" p2) [a] [] pos2] [] pos) (Ya aa):=λ pins s σ H ι σi h Q E N K=>by
 refine Zad (QC N.inv g1 m1 rfl ?_)
 refine Zb8 ?_ rfl rfl
 refine Zdu ?_
 refine Zad (QC N.inv g2 m2 rfl ?_)
 refine ZaR ?_ hs rfl
 refine(ha pos2).run N K λ xs h1 us s1 H1 ι1 N1 n1 r1 K1=>?_
 obtain⟨vs,rv,qs⟩:=r1
 match xs,K1 with
 | [.ref i],K1 =>
  obtain⟨w,rfl,ad,rfl,hav⟩:=qs.one_of
  obtain⟨u,rfl,ru⟩:=QU rv
  cases ru
  dsimp only at K1
  cases hi:h1[i]? with
  | none=>rw[hi] at K1;exact Zf K1
  | some ob =>
   rw[hi] at K1
   cases ob with
   | lst ys =>
    dsimp only at K1
    cases hb:Qp ys with
    | none=>rw[hb] at K1;exact Zf K1
    | some zs =>
     rw[hb] at K1
     dsimp only at K1
     split at K1
     ·rename_i room
      obtain⟨ws,e1,r3⟩:=N1.at hi hav
      obtain⟨its,rv2,pl,_⟩:=N1.inv.list (SqL.of e1)
      obtain⟨l2,eu,ez⟩:=Joe hb r3 rv2
      refine Jvm hh pl.isList eu ez room λ h2 tk hS keep=>Zdv ?_
      obtain⟨o,es,ep,t,ho,hex,hd,hel,hmem,hbb,hf,hn⟩:=hS
      have fit:(es.size:Int)<2^63:=by
       have:=Jno (QG zs) zs.length
       have sb:Zcb<=2^40:=by unfold Zcb;decide
       omega
      refine call_len_set ho hex hd hf fit ?_
      rw[hn]
      exact K1 _ _ _ _ ⟨(N1.inv.kept (t':=_) keep),N1.rel,N1.st⟩ .refl ⟨.int _,⟨_,rfl⟩,rfl⟩
     ·exact Zf K1
   | _=>exact Zf K1
 | [],K1=>exact Zf K1
 | [.non],K1=>exact Zf K1
 | [.bl _],K1=>exact Zf K1
 | [.int _],K1=>exact Zf K1
 | [.str _],K1=>exact Zf K1
 | [.tup _],K1=>exact Zf K1
 | [.rol _],K1=>exact Zf K1
 | x::_::_,K1=>cases x<;>exact Zf K1
end
section
variable {α β:Type}{h h1:IH}{σ:ISt}
theorem Yd (v:IV)(σ:ISt):Ja 0 (some v::σ) h=.ok v h:=rfl
theorem Jub (n:Nat)(x:Option IV)(σ:ISt):Ja (n+1) (x::σ) h=Ja n σ h:=rfl
end
def MulS (x:Str)(n:Int):Bool:=decide (x.length<=1000/\ -1000<=n/\n<=1000)
theorem MulS.ok {x:Str}{n:Int}(h:MulS x n=true):MulOk x n:=by
 simp only[MulS,decide_eq_true_eq] at h
 obtain⟨h1,h2,h3⟩:=h
 refine⟨?_,λ hn _=>?_,λ hn _=>?_⟩
 ·simp only[ZcS,decide_eq_false_iff_not]
  omega
 ·have e:(1000:Int)<=(2^63-1)/n:=by
   rw[Int.le_ediv_iff_mul_le (by omega)]
   have:(1000:Int)*n<=1000*1000:=ZbD h3 (by decide)
   omega
  omega
 ·have:x.length*n.toNat<=1000*1000:=Nat.mul_le_mul h1 (by omega)
  have hb:1000000<sizeLine:=by decide
  unfold Builtin.Str.tooLong
  simp only[decide_eq_false_iff_not]
  omega
theorem Jzl {X:L2.Cx}:OpR X (ZaM .Mult) (λ x y H Q=>∃i j,x=.str i/\y=.int j/\MulS i j=true/\Q (.str (Txt.mul i j)) H):=by
 intro pins s σ H x y v u Q I rx ry h
 obtain⟨i,j,rfl,rfl,hz,q⟩:=h
 obtain⟨t,rfl⟩:=rx
 obtain⟨t',rfl⟩:=ry
 exact SB.mul (MulS.ok hz) λ t' tk=>⟨.str (Txt.mul i j),H,I.tok _,⟨_,rfl⟩,q⟩
def Qo (x y:IV)(h:IH):Res IV:=match x with
 | .str i=>(match y with
  | .int j=>if MulS i j then .ok (.str (Txt.mul i j)) h else .stuck
  | _=>.stuck)
 | x=>X4 x y h
section
variable {ce:Str->Option Zd}{X:Cx}
theorem J16:OpI ce X (ZaM .Mult) Qo:=by
 intro pins s σ H ι σi h x y v u Q E N rx ry K
 cases x with
 | str i =>
  obtain⟨xv,rx,qx⟩:=rx
  obtain⟨yv,ry,qy⟩:=ry
  cases y with
  | int j =>
   have e1:xv=.str i:=qx
   have e2:yv=.int j:=qy
   subst e1 e2
   dsimp only[Qo] at K
   split at K
   ·rename_i hz
    exact JW (Jzl (X:=X.wish E)) N.inv rx ry ⟨i,j,rfl,rfl,hz,fin0 N K rfl⟩
   ·exact Zf K
  | _=>exact Zf K
 | _=>exact J4i pins s σ H ι σi h _ y v u Q E N rx ry K
end
noncomputable def valI (kvs:List (Key×IV))(k:Key):Option IV:=(kvs.find? λ kv=>decide (kv.1=k)).map (·.2)
theorem QI {p:Key×IV}{r:List (Key×IV)}{k:Key}(e:p.1=k):valI (p::r) k=some p.2:=by simp[valI,ZbK,e]
theorem Q0 {p:Key×IV}{r:List (Key×IV)}{k:Key}(e:¬p.1=k):valI (p::r) k=valI r k:=by simp[valI,ZbK,e]
theorem RPs.get {K:W.Frag}{ι:List Zd}{H:Hp}(k:Key):∀{xs:List (Key×IV)}{vs:List (Key×V)},RPs K ι H xs vs->(valI xs k=none/\valV vs k=none)∨∃v w,valI xs k=some v/\valV vs k=some w/\RV K ι H v w
 | [],_,h=>by
  have e:_=[]:=h
  subst e
  exact .inl ⟨rfl,rfl⟩
 | x::xs,_,h=>by
  obtain⟨v,r,rfl,q,t⟩:=h
  by_cases e:x.1=k
  ·exact .inr ⟨x.2,v,QI e,Jkw e,q⟩
  ·rw[Q0 e,Jkv e]
   exact RPs.get k t
theorem RPs.snoc {K:W.Frag}{ι:List Zd}{H:Hp}{k:Key}{v:IV}{w:V}(q:RV K ι H v w):∀{xs:List (Key×IV)}{vs:List (Key×V)},RPs K ι H xs vs->RPs K ι H (xs++[(k,v)]) (vs++[(k,w)])
 | [],_,h=>by
  have e:_=[]:=h
  subst e
  exact⟨w,[],rfl,q,rfl⟩
 | x::xs,_,h=>by
  obtain⟨v',r,rfl,q',t⟩:=h
  exact⟨v',r++[(k,w)],rfl,q',RPs.snoc q t⟩
theorem Jkh {vs:List (Key×V)}{k:Key}{w:V}(e:valV vs k=none):putK vs k w=vs++[(k,w)]:=by
 unfold putK
 rw[if_neg]
 rw[Jku,e]
 exact Zp
section
variable {ce:Str->Option Zd}{X:Cx}
def Xt:E1:=λ _ h=>.ok (.ref h.length) (h++[.dct []])
theorem J09 {pos:Pos}:PEi ce X (.Dict [] [] pos) Xt:=λ pins s σ H ι σi h Q E N K=>by
 have hn:=N.inv.hok.fresh (Zl s.heap.objs.size)
 have I1:=N.inv.laid (a:=s.heap.objs.size) (o:=.dK []) (h':=s.heap.push { cls:=.type "dict",data:=.dict #[] }) (t':=s.toks) (λ _ _ q=>Zg _ q) (Zl _) (Jt8 s.heap N.inv.big)
 obtain⟨R1,n1⟩:=N.rel.alloc (o:=.dK []) (io:=.dct []) hn ⟨[],J7,rfl⟩
 have N1:Now ce X pins (ι++[s.heap.objs.size]) σi (h++[.dct []]) σ (upd H s.heap.objs.size (.dK [])) _:=⟨I1,R1,N.st.mono n1⟩
 have h0:(ι++[s.heap.objs.size])[h.length]?=some s.heap.objs.size:=by rw[<- N.rel.len,Z2 (Zl _)];simp
 exact wpAny_Dict_empty (K _ _ _ (ι++[s.heap.objs.size]) N1 n1 ⟨.ref _,rfl,_,rfl,h0⟩)
def VI:IV->List IV->IH->Res IV
 | .ref i,[y,v],h=>match h[i]? with
  | some (.dct kvs)=>(match keyI y with
   | some k=>(match valI kvs k with
    | some w=>.ok w h
    | none=>if kvs.length<sizeLine then .ok v (h.set i (.dct (kvs++[(k,v)]))) else .stuck)
   | none=>.stuck)
  | _=>.stuck
 | _,_,_=>.stuck
theorem Ju2:MtI ce X "dict" "dict.setdefault" VI:=by
 intro pins s σ H ι σi h x xs v us Q E N rx rs K
 obtain⟨xv,rx,qx⟩:=rx
 obtain⟨vs,rv,qs⟩:=rs
 cases x with
 | ref i =>
  match xs,K with
  | [y,y2],K =>
   obtain⟨a,rfl,ha⟩:=qx
   obtain⟨w,w2,rfl,qw,qw2⟩:=qs.two_of
   dsimp only[VI] at K
   cases hi:h[i]? with
   | none=>rw[hi] at K;exact Zf K
   | some ob =>
    rw[hi] at K
    cases ob with
    | dct kvs =>
     dsimp only at K
     cases ek:keyI y with
     | none=>rw[ek] at K;exact Zf K
     | some k =>
      rw[ek] at K
      dsimp only at K
      obtain⟨ws,e1,r1⟩:=N.at hi ha
      cases Jf2 ek qw
      cases rv with
      | @cons _ _ _ _ ru t =>
      cases t with
      | @cons _ u2 _ _ ru2 t =>
      cases t
      cases (show v=.ref a from rx)
      obtain⟨z,hd,ps,rel,dd⟩:=Jt9 N.inv.hok e1
      have hz:ps.length<=sizeLine:=by rw[<- rel.length];exact z
      refine call_meetsIn Zda dd.typeIs PySem.F.entry_dict_setdefault (PySem.F.args_dict_setdefault_3 _ _ _) (kt_meets_setdefault (Vh X.prog X.w) a (Juv ru) hd u2) ⟨ps,dd,hz,λ v' hv=>?_,λ hn h' dd' hs=>?_⟩
      ·rcases r1.get k with⟨p,q⟩|⟨v1,w1,p,q,r⟩
       ·have rr:=rel.val k
        rw[q] at rr
        rw[RelO.none_of rr] at hv
        cases hv
       ·rw[p] at K
        have rr:=rel.val k
        rw[q,hv] at rr
        exact fin0 (w:=w1) N K r _ _ (N.inv.tok _) rr
      ·rcases r1.get k with⟨p,q⟩|⟨v1,w1,p,q,r⟩
       ·rw[p] at K
        dsimp only at K
        split at K
        ·rename_i hl
         have he:∃q,h'.get? a=some q:=let ⟨q,_,_,hq,_⟩:=dd';⟨q,hq⟩
         have hlen:(putK ws k w2).length<=sizeLine:=by rw[Jkh q,Zo,r1.length];exact hl
         have I4:=Jro (t':=s.toks+1) N.inv (by rw[e1];exact Zaj) hs he (Jws hlen hd (rel.put k ru2) dd')
         have n:Nxt ι H ι (upd H a (.dK (putK ws k w2))):=⟨⟨[],by simp⟩,Ext.upd_mut e1 (by rw[e1];exact Zaj)⟩
         obtain⟨R4,_⟩:=N.rel.write (o:=.dK (putK ws k w2)) (io:=.dct (kvs++[(k,y2)])) ha e1 (by rw[e1];exact Zaj) ⟨_,J7,(congrArg (λ P=>RPs X.K ι (upd H a (.dK (putK ws k w2))) (kvs++[(k,y2)]) P) (Jkh q)).mpr (RPs.mono n _ _ (r1.snoc qw2))⟩
         exact K _ _ _ ι ⟨I4,R4,N.st.mono n⟩ n ⟨w2,ru2,RV.mono n _ _ qw2⟩
        ·exact Zf K
       ·have rr:=rel.val k
        rw[q,hn] at rr
        exact Zf rr
    | _=>exact Zf K
  | [],K=>exact Zf K
  | [_],K=>exact Zf K
  | _::_::_::_,K=>exact Zf K
 | _=>cases xs<;>exact Zf K
end
noncomputable def putD (kvs:List (Key×IV))(k:Key)(v:IV):List (Key×IV) :=
 if (kvs.any λ kv=>decide (kv.1=k))=true then kvs.map (λ kv=>if kv.1=k then(kv.1,v) else kv) else kvs++[(k,v)]
theorem RPs.any {K:W.Frag}{ι:List Zd}{H:Hp}(k:Key):∀{xs:List (Key×IV)}{vs:List (Key×V)},RPs K ι H xs vs->(xs.any λ kv=>decide (kv.1=k))=vs.any λ kv=>decide (kv.1=k)
 | [],_,h=>by
  have e:_=[]:=h
  subst e
  rfl
 | x::xs,_,h=>by
  obtain⟨v,r,rfl,q,t⟩:=h
  rw[Zci,Zci,RPs.any k t]
theorem RPs.upd {K:W.Frag}{ι:List Zd}{H:Hp}{k:Key}{v:IV}{w:V}(q:RV K ι H v w):∀{xs:List (Key×IV)}{vs:List (Key×V)},RPs K ι H xs vs->RPs K ι H (xs.map λ kv=>if kv.1=k then(kv.1,v) else kv) (vs.map λ kv=>if kv.1=k then(kv.1,w) else kv)
 | [],_,h=>by
  have e:_=[]:=h
  subst e
  exact rfl
 | x::xs,_,h=>by
  obtain⟨v',r,rfl,q',t⟩:=h
  rw[Z0,Z0]
  by_cases e:x.1=k
  ·rw[if_pos e,if_pos e]
   exact⟨w,_,rfl,q,RPs.upd q t⟩
  ·rw[if_neg e,if_neg e]
   exact⟨v',_,rfl,q',RPs.upd q t⟩
theorem RPs.putKK {K:W.Frag}{ι:List Zd}{H:Hp}{k:Key}{v:IV}{w:V}{xs:List (Key×IV)}{vs:List (Key×V)}(q:RV K ι H v w)(r:RPs K ι H xs vs):RPs K ι H (putD xs k v) (putK vs k w):=by
 unfold putD putK
 rw[r.any k]
 split
 ·exact r.upd q
 ·exact r.snoc q
section
variable {ce:Str->Option Zd}{X:Cx}
def QO (x y:IV)(h:IH):Res IV:=match x with
 | .ref i=>(match h[i]? with
  | some (.dct kvs)=>(match keyI y with
   | some k=>(match valI kvs k with
    | some v=>.ok v h
    | none=>.stuck)
   | none=>.stuck)
  | _=>.stuck)
 | _=>.stuck
theorem J5e:IxI ce X QO:=by
 intro value slice pins s σ H ι σi h x y v u Q E N rx ry K hs
 obtain⟨xv,rx,qx⟩:=rx
 obtain⟨yv,ry,qy⟩:=ry
 cases x with
 | ref i =>
  obtain⟨a,e1,ha⟩:=qx
  subst e1
  dsimp only[QO] at K
  cases hi:h[i]? with
  | none=>rw[hi] at K;exact Zf K
  | some ob =>
   rw[hi] at K
   cases ob with
   | dct kvs =>
    dsimp only at K
    cases ek:keyI y with
    | none=>rw[ek] at K;exact Zf K
    | some k =>
     rw[ek] at K
     dsimp only at K
     obtain⟨ws,e1,r1⟩:=N.at hi ha
     cases Jf2 ek qy
     cases (show v=.ref a from rx)
     obtain⟨z,hd,ps,rel,dd⟩:=Jt9 N.inv.hok e1
     rcases r1.get k with⟨p,q⟩|⟨v1,w1,p,q,r⟩
     ·rw[p] at K;exact Zf K
     ·rw[p] at K
      have rr:=rel.val k
      rw[q] at rr
      obtain⟨w',hw,rw'⟩:=RelO.some_of rr
      exact Zc9 (x:=w') dd.typeIs PySem.F.slot_dict_getitem.lookup (wpAny_getItem_of (Q:=λ r s'=>r=w'/\Q r s') (Juv ry) dd.mapOf hw ⟨rfl,fin0 N K r _ _ (N.inv.tok _) rw'⟩) hs
   | _=>exact Zf K
 | _=>exact Zf K
noncomputable def cInD (x c:IV)(h:IH):Res IV:=match c with
 | .ref i=>(match h[i]? with
  | some (.dct kvs)=>(match keyI x with
   | some k=>.ok (.bl (valI kvs k).isSome) h
   | none=>.stuck)
  | _=>.stuck)
 | _=>.stuck
theorem J4g:OpI ce X (Zas .In) cInD:=by
 intro pins s σ H ι σi h x y v u Q E N rx ry K
 obtain⟨xv,rx,qx⟩:=rx
 obtain⟨yv,ry,qy⟩:=ry
 cases y with
 | ref i =>
  obtain⟨a,e1,ha⟩:=qy
  subst e1
  dsimp only[cInD] at K
  cases hi:h[i]? with
  | none=>rw[hi] at K;exact Zf K
  | some ob =>
   rw[hi] at K
   cases ob with
   | dct kvs =>
    dsimp only at K
    cases ek:keyI x with
    | none=>rw[ek] at K;exact Zf K
    | some k =>
     rw[ek] at K
     dsimp only at K
     obtain⟨ws,e1,r1⟩:=N.at hi ha
     cases Jf2 ek qx
     cases (show u=.ref a from ry)
     obtain⟨z,hd,ps,rel,dd⟩:=Jt9 N.inv.hok e1
     refine wpAny_in_of (Juv rx) hd dd.mapOf ?_
     rw[<- (rel.val k).isSome_eq]
     have es:(valV ws k).isSome=(valI kvs k).isSome:=by
      rcases r1.get k with⟨p,q⟩|⟨v1,w1,p,q,r⟩<;>rw[p,q]<;>rfl
     rw[es]
     exact fin0 N K rfl _ _ (N.inv.tok _) rfl
   | _=>exact Zf K
 | _=>exact Zf K
def Ys:IV->IV->IV->ISt->IH->SRes
 | .ref i,iv,v,σ,h=>match h[i]? with
  | some (.dct kvs)=>(match keyI iv with
   | some k=>if kvs.length<sizeLine then .next σ (h.set i (.dct (putD kvs k v))) else .stuck
   | none=>.stuck)
  | _=>.stuck
 | _,_,_,_,_=>.stuck
def gSbD (o i:E1):G1:=λ v σ h=>rS σ (o σ h) λ ov h1=>rS σ (i σ h1) λ iv h2=>Ys ov iv v σ h2
theorem J00 {oe ie:Expr}{mo mi:E1}{pos:Pos}(ho:PEi ce X oe mo)(hi:PEi ce X ie mi)
  (ha:∀v,ZdN (.Subscript oe ie pos) X.env v=(do
   let ov<-ZbQ [v] (ZaK oe X.env)
   let iv<-ZbQ [v,ov] (ZaK ie X.env)
   Ze2 pos
   ZbQ [v,ov,iv] (setItem ov iv v)
   release [v,ov,iv] [])):PGi ce X (.Subscript oe ie pos) (gSbD mo mi):=by
 intro pins s σ H ι σi h v u Q E N r K
 rw[ha]
 refine Ze (ZZ (krun ho N K λ ov h1 ou s1 H1 ι1 N1 n1 r1 K1=>?_))
 refine Ze (ZZ (krun hi N1 K1 λ iv h2 iu s2 H2 ι2 N2 n2 r2 K2=>?_))
 have r':RU X.K ι2 H2 v u:=(r.mono n1).mono n2
 obtain⟨ox,ro,qo⟩:=r1.mono n2
 obtain⟨ix,ri,qi⟩:=r2
 obtain⟨vx,rvx,qv⟩:=r'
 refine Ze (Zb2 (Ze (ZZ ?_)))
 cases ov with
 | ref i =>
  obtain⟨a,rfl,haa⟩:=qo
  dsimp only[Ys] at K2
  cases hh:h2[i]? with
  | none=>rw[hh] at K2;exact Zf K2
  | some ob =>
   rw[hh] at K2
   cases ob with
   | dct kvs =>
    dsimp only at K2
    cases ek:keyI iv with
    | none=>rw[ek] at K2;exact Zf K2
    | some k =>
     rw[ek] at K2
     dsimp only at K2
     split at K2
     ·rename_i hl
      obtain⟨ws,e1,r1'⟩:=N2.at hh haa
      cases Jf2 ek qi
      cases (show ou=.ref a from ro)
      obtain⟨z,hd,ps,rel,dd⟩:=Jt9 N2.inv.hok e1
      have hz:ps.length<=sizeLine:=by rw[<- rel.length];exact z
      have hlen:(putK ws k vx).length<=sizeLine:=by
       have h1:=Jny ws k vx
       have h2:=r1'.length
       omega
      refine wpAny_setItem_pairs (hsz:=hz) (Juv ri) dd λ h' dd' hs=>?_
      have he:∃q,h'.get? a=some q:=let ⟨q,_,_,hq,_⟩:=dd';⟨q,hq⟩
      have I4:=Jro (t':=s2.toks+1) N2.inv (by rw[e1];exact Zaj) hs he (Jws hlen hd (rel.put k rvx) dd')
      have n:Nxt ι2 H2 ι2 (upd H2 a (.dK (putK ws k vx))):=⟨⟨[],by simp⟩,Ext.upd_mut e1 (by rw[e1];exact Zaj)⟩
      obtain⟨R3,_⟩:=N2.rel.write (o:=.dK (putK ws k vx)) (io:=.dct (putD kvs k v)) haa e1 (by rw[e1];exact Zaj) ⟨_,J7,RPs.putKK (RV.mono n _ _ qv) (RPs.mono n _ _ r1')⟩
      exact wpAny_release (K2 _ σ _ ι2 ⟨I4,R3,N2.st.mono n⟩ n)
     ·exact Zf K2
   | _=>exact Zf K2
 | _=>exact Zf K2
end
def leZ (a b:Int):Bool:=decide (a<=b)
def QQ (ns:List Int):List Int:=ns.mergeSort leZ
theorem Jpc (ns:List Int):(QQ ns).Pairwise (· <= ·):=by
 have:=List.pairwise_mergeSort (le:=leZ) (λ a b c h1 h2=>by simp only[leZ,decide_eq_true_eq] at *;omega) (λ a b=>by simp only[leZ,Zay,decide_eq_true_eq];omega) ns
 exact this.imp λ h=>by simpa [leZ] using h
theorem Jvy {ns ns':List Int}(p:ns'.Perm ns)(s:ns'.Pairwise (· <= ·)):ns'=QQ ns :=
 List.Perm.eq_of_pairwise (le:=(· <= ·)) (λ a b _ _ h1 h2=>Int.le_antisymm h1 h2) s (Jpc ns) (p.trans (List.mergeSort_perm ns leZ).symm)
theorem XN:∀{us:List Za}{ns:List Int},Zb4 us ns->Vals (ns.map V.int) us
 | _,_,.nil=>.nil
 | _,_,.cons _ _ r=>.cons ⟨_,rfl⟩ (XN r)
theorem Jki {K:W.Frag}{ι:List Zd}{H:Hp}:∀ns:List Int,RVs K ι H (ns.map IV.int) (ns.map V.int)
 | []=>rfl
 | _::ns=>⟨_,_,rfl,rfl,Jki ns⟩
def srtI (xs:List IV):Option (List IV):=match JI xs with
 | some ns=>some ((QQ ns).map .int)
 | none=>none
section
variable {ce:Str->Option Zd}{X:Cx}
def XG:IV->IH->Res IV
 | .ref i,h=>match h[i]? with
  | some (.lst xs)=>if xs.length<64 then(match srtI xs with
   | some ys=>.ok (.ref h.length) (h++[.lst ys])
   | none=>.stuck) else .stuck
  | _=>.stuck
 | _,_=>.stuck
theorem Jt4:Qu ce X (.builtin "sorted") (on1 XG):=VA λ pins s σ H ι σi h x xv u Q E N ru qx K=>by
 cases x with
 | ref i =>
  obtain⟨a,e1,ha⟩:=qx
  subst e1
  cases ru
  dsimp only[XG] at K
  cases hi:h[i]? with
  | none=>rw[hi] at K;exact Zf K
  | some ob =>
   rw[hi] at K
   cases ob with
   | lst xs =>
    dsimp only at K
    split at K
    ·rename_i h64
     obtain⟨vs,e1,r1⟩:=N.at hi ha
     obtain⟨its,rv,pl,hz⟩:=N.inv.list (SqL.of e1)
     have li:its.length=xs.length:=by rw[<- rv.length,r1.length]
     have hb:64<=sizeLine:=by decide
     have fresh:H (s.heap.objs.size+1)=none:=N.inv.hok.fresh (Zbb _)
     unfold srtI at K
     cases ei:JI xs with
     | some ns =>
      rw[ei] at K
      have are:=Vy ei r1 rv
      have ln:=Yh are
      refine sorted_ints pl.isList are (by omega) λ out ns' hI hp hs=>?_
      have en:=Jvy hp hs
      subst en
      obtain⟨e,he⟩:=sortedAll_at s.heap its out
      have hl:((QQ ns).map V.int).length<=sizeLine:=by rw[Zh,hp.length_eq];omega
      have I':=N.inv.laid (a:=s.heap.objs.size+1) (o:=.lst ((QQ ns).map V.int)) (h':=sortedAll s.heap its out) (t':=s.toks) (λ _ _=>sortedAll_old) (Zbb _) ⟨hl,out.toList,e,XN hI,he⟩
      exact finA N K (s.heap.objs.size+1) fresh ⟨_,J7,Jki _⟩ _ _ I' rfl
     | none =>
      rw[ei] at K
      exact Zf K
    ·exact Zf K
   | _=>exact Zf K
 | _=>exact Zf K
end
def JP (f:Nat->Int):Nat->Int
 | 0=>0
 | 1=>f 0
 | j+2=>if f (j+1)<JP f (j+1) then f (j+1) else JP f (j+1)
theorem Jcr (f:Nat->Int){j:Nat}(hj:0<j):JP f (j+1)=if f j<JP f j then f j else JP f j:=by
 cases j with
 | zero=>omega
 | succ j=>rfl
section
variable {pr:Z5}{wd:ZP}{B:ZI}{R:ZdK->Zc->Prop}{it:Zd}{fps wrs:List Zd}{n:Nat}{P:Nat->Za->Prop}{St:Nat->Zag->Prop}
theorem Jkg:(toString "min"++toString ".loop":String)="min.loop":=by decide
theorem Jzd {kw:List (Str×Za)}(W:Walks pr wd B.in1 it fps wrs n P St)(f:Nat->Int)(hf:∀i v,P i v->∃t,v=.int (f i) t)(C:Zd)(hC:C∉fps) :
  ∀(r j:Nat)(z:Zc)(v:Za)(u:Tok)(c:Nat),n-j=r->0<j->j<=n->St j z.heap->v=.int (JP f j) u->z.heap.get? C=some (Jw4 v c) ->
   (∀u h2 tk,(∀a o,a∉wrs->a≠C->z.heap.get? a=some o->h2.get? a=some o)->R (.ok (.ret (.int (JP f n) u))) { z with heap:=h2,toks:=tk }) ->
   Zc5 (Z6 pr wd) B (.builtin "min.loop" ⟨[.ref it,.none,.ref C],kw⟩) R z:=by
 have hw:C∉wrs:=λ q=>hC (W.sub _ q)
 intro r
 induction r with
 | zero =>
  intro j z v u c hr h0 hj st ev gC fin
  obtain rfl:j=n:=by omega
  subst ev
  refine Zal ZaZ ?_
  rw[ZW ZL _]
  show Zs _ B.in1 (Zca (.ref C)>>=_) _ _ z
  refine Ze (Zbm gC rfl ?_)
  show Zs _ B.in1 (tryCatch (ZbU (.ref it)) _>>=_) _ _ z
  refine Ze (Zan (W.done z _ _ st λ h2 tk keep=>?_))
  have gC2:=keep C _ hw gC
  show Zs _ B.in1 (ZdB C (λ _=>#[])>>=_) _ _ _
  refine Ze ?_
  refine Zbd gC2 rfl (Ze (Zbe (Zu ?_)))
  exact fin u _ tk λ a o ha hb e=>(Zr _ _ (ZK hb)).trans (keep a o ha e)
 | succ r ih =>
  intro j z v u c hr h0 hj st ev gC fin
  have lt:j<n:=by omega
  subst ev
  refine Zal ZaZ ?_
  rw[ZW ZL _]
  show Zs _ B.in1 (Zca (.ref C)>>=_) _ _ z
  refine Ze (Zbm gC rfl ?_)
  show Zs _ B.in1 (tryCatch (ZbU (.ref it)) _>>=_) _ _ z
  refine Ze (Zan (W.item j z _ _ lt st λ y h2 tk hP st2 keep=>?_))
  obtain⟨t,rfl⟩:=hf j y hP
  have gC2:=keep C _ hw gC
  have cmp:=CmpOf.ints_lt (prog:=pr) (w:=wd) (A:=B.in1) (P:=λ i v=>∃t,v=.int (if i=0 then f j else JP f j) t) (λ i=>if i=0 then f j else JP f j) (λ _ _ q=>q)
  show Zs _ B.in1 (tryCatch (ZbQ [ZbM (f j) t,ZbM (f j) t] (ZcR .Lt (.int (f j) t) (.int (JP f j) u)>>=_)) _>>=_) _ _ _
  refine Ze (Zan (ZZ (Ze (cmp 0 1 _ _ _ _ _ ⟨t,by simp⟩ ⟨u,by simp⟩ ?_))))
  refine Ze (ZZ (ZaV ?_))
  refine Ze (Zbe (Zu ?_))
  have step:=Jcr f h0
  by_cases hb:f j<JP f j
  ·rw[if_pos hb] at step
   simp only[if_true,show ¬(1:Nat)=0 by decide,if_false,decide_eq_true hb]
   refine Ze ?_
   refine Zbd gC2 rfl (Ze (Zbe ?_))
   rw[Jkg]
   refine Zu ⟨Za1 ZL _,ih (j+1) _ (.int (f j) t) t _ (by omega) (by omega) lt (W.frame _ _ _ st2 λ a ha o e=>?_) (by rw[step]) (Za2 _ gC2 rfl) λ u2 h3 tk3 k3=>?_⟩
   ·exact(Zr _ _ (λ q:C=a=>hC (by rw[q];exact ha))).trans e
   ·exact fin u2 h3 tk3 λ a o ha hc e=>k3 a o ha hc ((Zr _ _ (ZK hc)).trans (keep a o ha e))
  ·rw[if_neg hb] at step
   simp only[if_true,show ¬(1:Nat)=0 by decide,if_false,decide_eq_false hb,ZU]
   refine Ze (Zbe ?_)
   rw[Jkg]
   refine Zu ⟨Za1 ZL _,ih (j+1) _ (.int (JP f j) u) u c (by omega) (by omega) lt st2 (by rw[step]) gC2 λ u2 h3 tk3 k3=>?_⟩
   exact fin u2 h3 tk3 λ a o ha hc e=>k3 a o ha hc (keep a o ha e)
end
theorem Jrb (a:Za):Zev "min" ⟨[a],[]⟩:=by unfold Zev;kernel_rfl
section
variable {pr:Z5}{wd:ZP}{B:ZI}{E:Za->Zc->Prop}{z:Zc}{l:Zd}{us:List Za}{ns:List Int}{Q:Za->Zc->Prop}
theorem Jzc (hh:B.handled=none)(hl:z.heap.IsList l us.toArray)(hi:Zb4 us ns)(hne:ns≠[])
  (hQ:∀v h2 tk,(∃u,v=.int (JP (λ i=>ns.getD i 0) ns.length) u)->(∀b o,z.heap.get? b=some o->h2.get? b=some o)->Q v { z with heap:=h2,toks:=tk }) :
  Zs (Z6 pr wd) B (call (.builtin "min") [.ref l]) Q E z:=by
 obtain⟨ol,hol,_⟩:=id hl
 have lt:l<z.heap.objs.size:=Zv hol
 have ll:=Yh hi
 refine kmk_tree PySem.F.kind_min PySem.F.plain_min PySem.F.entry_min (Jrb _) ?_
 show Zs _ B.in1 (Za4 "min" ["key","default"] 0 ⟨[],[]⟩>>=_) _ _ z
 refine Ze (wpAny_of_eq (show Za4 "min" ["key","default"] 0 ⟨[],[]⟩=pure [none,none] from rfl) ?_)
 refine Ze (Zu ?_)
 refine Ze (ZaX hl ?_)
 refine Ze (Zck ?_ (ZT _))
 rw[Jkg]
 have ne:l≠z.heap.objs.size:=Z1 lt
 have W:=ZcM (prog:=pr) (w:=wd) (A:=B.in1) hh z.heap.objs.size l ne us.toArray
 have sz:us.toArray.size=us.length:=Zq ..
 have hS:(z.heap.push { cls:=.type "list_iterator",data:=.fields #[.ref l,.int 0 0] }).objs.size=z.heap.objs.size+1:=ZdQ ..
 have hC:(z.heap.push { cls:=.type "list_iterator",data:=.fields #[.ref l,.int 0 0] }).objs.size∉[z.heap.objs.size,l]:=by
  rw[hS]
  simp only[Z4,ZN,or_false,not_or]
  exact⟨ZaG (Zaz _),ZaG (Zbz lt)⟩
 have hw:(z.heap.push { cls:=.type "list_iterator",data:=.fields #[.ref l,.int 0 0] }).objs.size∉[z.heap.objs.size]:=by
  rw[hS]
  simp only[Z4,ZN,or_false]
  exact ZaG (Zaz _)
 have old:∀b o,z.heap.get? b=some o->((z.heap.push { cls:=.type "list_iterator",data:=.fields #[.ref l,.int 0 0] }).push (Zai "list" #[] 0)).get? b=some o:=λ b o e=>Zg _ (Zg _ e)
 have gI:((z.heap.push { cls:=.type "list_iterator",data:=.fields #[.ref l,.int 0 0] }).push (Zai "list" #[] 0)).get? z.heap.objs.size=some { cls:=.type "list_iterator",data:=.fields #[.ref l,.int 0 0] }:=Zg _ (Zw _ rfl)
 have gC:((z.heap.push { cls:=.type "list_iterator",data:=.fields #[.ref l,.int 0 0] }).push (Zai "list" #[] 0)).get? (z.heap.push { cls:=.type "list_iterator",data:=.fields #[.ref l,.int 0 0] }).objs.size=some (Zai "list" #[] 0):=Zw _ rfl
 have notin:∀b o,z.heap.get? b=some o->b∉[z.heap.objs.size]:=λ b o e q=>Z1 (Zv e) (Zy.mp q)
 have notC:∀b o,z.heap.get? b=some o->b≠(z.heap.push { cls:=.type "list_iterator",data:=.fields #[.ref l,.int 0 0] }).objs.size:=λ b o e=>by rw[hS];exact Z1 (Zbz (Zv e))
 refine Zu ⟨Za1 ZL _,Zal ZaZ ?_⟩
 rw[ZW ZL _]
 show Zs _ B.in1 (Zca (.ref _)>>=_) _ _ _
 refine Ze (Zbm gC rfl ?_)
 show Zs _ B.in1 (tryCatch (ZbU (.ref z.heap.objs.size)) _>>=_) _ _ _
 have h0:¬us.length=0:=λ q=>hne (ZaB (by omega))
 ·refine Ze (Zan (W.item 0 _ _ _ (by rw[sz];omega) ⟨⟨_,gI,rfl,rfl⟩,(hl.push _).push _⟩ λ y h2 tk hP st2 keep=>?_))
  have gC2:=keep _ _ hw gC
  show Zs _ B.in1 (ZdB (z.heap.push { cls:=.type "list_iterator",data:=.fields #[.ref l,.int 0 0] }).objs.size (λ _=>#[y,y])>>=_) _ _ _
  refine Ze ?_
  refine Zbd gC2 rfl ?_
  rw[Jkg]
  have hf:∀(i:Nat)(v:Za),us.toArray[i]?=some v->∃t,v=.int ((λ i=>ns.getD i 0) i) t:=λ i v q=>Zeg hi i v (by simpa using q)
  obtain⟨t,rfl⟩:=hf 0 y hP
  refine Zu ⟨Za1 ZL _,Jzd W (λ i=>ns.getD i 0) hf _ hC _ 1 _ _ t _ rfl (by decide) (by rw[sz];omega) (W.frame _ _ _ st2 λ a ha o e=>?_) rfl (Za2 _ gC2 rfl) λ u h3 tk3 k3=>?_⟩
  ·exact(Zr _ _ (λ q=>hC (by rw[q];exact ha))).trans e
  ·rw[sz,ll]
   refine hQ _ h3 tk3 ⟨u,rfl⟩ λ b o e=>k3 b o (notin b o e) (notC b o e) ((Zr _ _ (ZK (notC b o e))).trans (keep b o (notin b o e) (old b o e)))
end
section
variable {ce:Str->Option Zd}{X:Cx}
def VY:IV->IH->Res IV
 | .ref i,h=>match h[i]? with
  | some (.lst xs)=>(match JI xs with
   | some ns=>if ns=[] then .stuck else .ok (.int (JP (λ i=>ns.getD i 0) ns.length)) h
   | none=>.stuck)
  | _=>.stuck
 | _,_=>.stuck
theorem J0s (hh:X.A.handled=none):Qu ce X (.builtin "min") (on1 VY):=VA λ pins s σ H ι σi h x xv u Q E N ru qx K=>by
 cases x with
 | ref i =>
  obtain⟨a,e1,ha⟩:=qx
  subst e1
  cases ru
  dsimp only[VY] at K
  cases hi:h[i]? with
  | none=>rw[hi] at K;exact Zf K
  | some ob =>
   rw[hi] at K
   cases ob with
   | lst xs =>
    dsimp only at K
    cases hb:JI xs with
    | none=>rw[hb] at K;exact Zf K
    | some ns =>
     rw[hb] at K
     dsimp only at K
     split at K
     ·exact Zf K
     ·rename_i hne
      obtain⟨vs,e1,r1⟩:=N.at hi ha
      obtain⟨its,rv,pl,hz⟩:=N.inv.list (SqL.of e1)
      refine Jzc hh pl.isList (Vy hb r1 rv) hne λ v h2 tk ⟨t,ev⟩ kk=>?_
      subst ev
      exact fin0 N K rfl _ _ (N.inv.kept (t':=tk) kk) ⟨t,rfl⟩
   | _=>exact Zf K
 | _=>exact Zf K
end
theorem RVs.erase {K:W.Frag}{ι:List Zd}{H:Hp}:∀{xs:List IV}{vs:List V}(k:Nat),RVs K ι H xs vs->RVs K ι H (xs.eraseIdx k) (vs.eraseIdx k)
 | [],vs,k,h=>by
  cases (show vs=[] from h)
  exact rfl
 | _::_,_,0,h=>by
  obtain⟨v,r,rfl,q,t⟩:=h
  exact t
 | _::_,_,k+1,h=>by
  obtain⟨v,r,rfl,q,t⟩:=h
  exact⟨v,r.eraseIdx k,rfl,q,RVs.erase k t⟩
section
variable {ce:Str->Option Zd}{X:Cx}
def isK (k:Int):Za->Bool
 | .int a _=>a==k
 | _=>false
theorem Jr7:∀(us:List Za)(ns:List Int),us.length=ns.length->(∀i v,us[i]?=some v->∃t:Tok,v=ZbM (ns.getD i 0) t)->Zb4 us ns
 | [],[],_,_=>.nil
 | u::us,n::ns,hl,h=>by
  obtain⟨t,e⟩:=h 0 u rfl
  cases (show u=.int n t from e)
  exact .cons n t (Jr7 us ns (by simpa using hl) λ i v q=>h (i+1) v q)
 | [],_::_,hl,_=>by cases hl
 | _::_,[],hl,_=>by cases hl
theorem XB (j:Int):rngI 0 j=((ZF j.toNat).map λ k=>((k:Nat):Int)).map IV.int:=by
 simp[rngI]
end
section
variable {prog:Z5}{w:ZP}{A:ZI}{E:Za->Zc->Prop}{s:Zc}
end
open AutoSeq1 (wpAny_loadPart') in
section
variable {prog:Z5}{w:ZP}{A:ZI}{E:Za->Zc->Prop}{s:Zc}
end
section
variable {ce:Str->Option Zd}{X:Cx}
end
def Vf (a:ZbO):Option Str:=match a with
 | { posonlyargs:=[],args:=[p],vararg:=none,kwonlyargs:=[],kw_defaults:=[],kwarg:=none,defaults:=[] }=>some p.arg
 | _=>none
abbrev lamQ (q:Str):Str:=q++".<locals>."++"<lambda>"
abbrev lamO (q:Str)(params:ZbO)(body:Expr)(scope:ZaU)(cl:List (Str×Zd))(pm ctv:Za)(c:Zd):Obj:=W.kla_obj "<lambda>" (lamQ q) params body scope cl pm c ctv
def Q2 (mg:Str->Option Za)(base:Zag):Prop :=
 ∃bm ob,mg "__builtins__"=some (.ref bm)/\bm≠Zcv/\bm≠Zx/\base.get? bm=some ob/\ob.cls=.type "module"/\ob.dict=some Zcv/\ob.data=.plain
theorem QK.rec {H:Hp}{q:Str}{cv:Za}{P:Z5}{w:ZP}{h:Zag}(l:QK H q cv)(hok:HOk P w H h):h.CodeRec cv (lamQ q):=by
 obtain⟨c,oc,vs,t,e1,e2,e3,e4⟩:=l
 exact⟨c,oc,vs,t,e1,(hok c _ e2).1,e3,e4⟩
theorem QK.mono {H H':Hp}{q:Str}{cv:Za}(fz:∀b o u,H b=some (.frz o u)->H' b=some (.frz o u))(l:QK H q cv):QK H' q cv:=by
 obtain⟨c,oc,vs,t,e1,e2,r⟩:=l
 exact⟨c,oc,vs,t,e1,fz _ _ _ e2,r⟩
theorem Jis {pos:Pos}{a b:Int}{c cv:Za}:∀(l:List Za),TriplesOk l->Zd8 pos (l++[ZbG a,ZbG b,c])=some cv->Zd8 pos l=some cv∨cv=c
 | [],_,e=>by
  simp only[Zac,ZbG,Zd8] at e
  split at e
  ·cases e;exact .inr rfl
  ·cases e
 | .int x t::.int y u::z::rest,h,e=>by
  simp only[ZV,Zd8] at e ⊢
  split at e
  ·rename_i hh
   rw[if_pos hh]
   exact .inl e
  ·rename_i hh
   rw[if_neg hh]
   exact Jis rest h e
 | [.int _ _],h,_=>(show False from h).elim
 | [.int _ _,.int _ _],h,_=>(show False from h).elim
section
variable {ce:Str->Option Zd}{X:Cx}
theorem Now.pinO {pins:List (Zd×Obj)}{ι:List Zd}{σi:ISt}{h:IH}{σ:L2.St}{H:Hp}{s:Zc}{f:Zd}{fo:Obj}(N:Now ce X pins ι σi h σ H s)(e:s.heap.get? f=some fo)(F:FpOk X pins H f)(d:∀v,fo.data≠.cell v):Now ce X (pins++[(f,fo)]) ι σi h σ H s:=by
 have I:=N.inv.pinned (fp:=[f]) (λ b hb=>by rw[Zy.mp hb];exact F) (λ b hb=>by rw[Zy.mp hb];exact⟨fo,e,d⟩)
 have ep:QE [f] s.heap=[(f,fo)]:=by simp[QE,e]
 rw[ep] at I
 exact⟨I,N.rel,N.st⟩
theorem Jov {q:Str}{j:Nat}{params:ZbO}{body:Expr}{scope:ZaU}{pos:Pos}{cl:List (Str×Zd)}{pins:List (Zd×Obj)}{s:Zc}{σ:L2.St}{H:Hp}{ι:List Zd}{σi:ISt}{h:IH}{Q:Za->Zc->Prop}{E:Za->Zc->Prop}
  (N:Now ce X pins ι σi h σ H s)(hj:h[j]?=some (.tab q))(hcd:W.codeIn X.K X.env.code q=true)(hq:X.env.qual=q++".<locals>.")(hdef:defaultsOf params X.env=([],[]))(hcl:Zdp scope X.env=pure cl)(B:Q2 X.mg X.base)
  (K:∀f c pm ctv s' H',Now ce X (pins++[(f,lamO q params body scope cl pm ctv c)]) ι σi h σ H' s'->Nxt ι H ι H'->QK H' q (.ref c)->Q (.ref f) s') :
  Zs (Z6 X.prog X.w) X.A (ZaK (.Lambda params body scope pos) X.env) Q E s:=by
 obtain⟨a,ha,hc,ps,hP,ht,hcodes⟩:=N.rel.at_ j _ hj
 obtain⟨c,ec,hhd⟩:=hc _ hcd
 have I:=N.inv
 have C:=W.codeHd_of_K I.kIn hhd
 have gP:s.heap.get? a=some (W.tabObj ps):=I.hok a _ hP
 have hg:s.heap.Ns Zx X.mg:=I.ok.mod.glob.keeps I.bk
 obtain⟨bm,ob,b1,b2,b3,b4,b5,b6,b7⟩:=B
 have gb:=I.bs bm ob b4
 have nba:bm≠a:=λ z=>by rw[z,hP] at gb;cases gb.2
 have hb:s.heap.BuiltinsAt X.mg a:=⟨bm,ob,b1,b2,b3,nba,gb.1,b5,b6,b7⟩
 have nga:Zx≠a:=λ z=>by
  obtain⟨o,es,ep,e,d,_⟩:=hg
  rw[z,gP] at e
  cases e
  cases d
 refine W.kla_eval hdef ?_
 rw[hq]
 cases ea:Zd8 pos ps.toList with
 | some cv =>
  have LC:=hcodes pos cv ea
  obtain⟨c',oc,vs,t,ecv,_⟩:=id LC
  subst ecv
  refine W.kla_makeFunctionHit hcl I.ok.glob hg ec C gP ht ea hb λ ctv h' tk hk hsz=>?_
  have I1:=I.kept (h':=h'.push (lamO q params body scope cl ((X.mg "__name__").getD .none) ctv c')) (t':=tk) λ b o e=>Zg _ (hk b o e)
  have N1:Now ce X pins ι σi h σ H _:=⟨I1,N.rel,N.st⟩
  exact K h'.objs.size c' _ ctv _ H (N1.pinO (Zw _ rfl) (I.fpOk hsz (I.hok.fresh hsz)) λ v z=>by
   have z':Data.func _=Ze5 v:=z
   cases z') .refl LC
 | none =>
  refine W.kla_makeFunction hcl I.ok.glob hg ec C gP ht ea nga hb λ c' ctv h' tk hx hge hlt hrec htb=>?_
  obtain⟨c2,oc,vs,t,e2,hoc,hd,hv⟩:=hrec
  cases e2
  generalize hps:ps++#[ZbG pos.line,ZbG pos.col,.ref c']=ps' at htb
  generalize hob:lamO q params body scope cl ((X.mg "__name__").getD .none) ctv c'=fo
  have fc:H c'=none:=I.hok.fresh hge
  have nca:c'≠a:=λ z=>by rw[z,hP] at fc;cases fc
  have lts:s.heap.objs.size<=h'.objs.size:=ZO hge (ZbF hlt)
  obtain⟨H',hH⟩:∃H',H'=upd (upd H a (.tbl ps')) c' (.frz oc (.own 0)):=⟨_,rfl⟩
  have Ha:H' a=some (.tbl ps'):=by rw[hH,Jp (ZK nca),J7]
  have Hc:H' c'=some (.frz oc (.own 0)):=by rw[hH,J7]
  have Ho:∀b,b≠a->b≠c'->H' b=H b:=λ b h1 h2=>by rw[hH,Jp h2,Jp h1]
  have kp:∀b o,b≠a->s.heap.get? b=some o->(h'.push fo).get? b=some o:=λ b o hb e=>Zg _ (hx b o hb e)
  have ga:(h'.push fo).get? a=some (W.tabObj ps'):=Zg _ htb
  have frz:∀b o u,H b=some (.frz o u)->H' b=some (.frz o u):=λ b o u e=>by rw[Ho b (λ z=>by rw[z,hP] at e;cases e) (λ z=>by rw[z,fc] at e;cases e)];exact e
  have tup:∀b xs,H b=some (.tup xs)->H' b=some (.tup xs):=λ b xs e=>by rw[Ho b (λ z=>by rw[z,hP] at e;cases e) (λ z=>by rw[z,fc] at e;cases e)];exact e
  have own:∀b x,H b=some (.own x)->H' b=some (.own x):=λ b x e=>by rw[Ho b (λ z=>by rw[z,hP] at e;cases e) (λ z=>by rw[z,fc] at e;cases e)];exact e
  have I1:Inv X pins σ H' { s with heap:=h'.push fo,toks:=tk }:=by
   refine I.step (g':=s.gens) (d':=s.drawn) (ch:=[]) (λ b hb=>absurd hb (by simp)) (λ b o _ _ _ e n=>kp b o (λ z=>by rw[z,hP] at n;cases n) e) (λ b o _ _ _ e n=>⟨o.slots,kp b o (λ z=>by rw[z,hP] at n;cases n) e⟩) (λ b o _ e n=>?_) (λ b o _ e=>?_) tup frz (λ b qs e=>?_) (λ m hm=>?_) (λ b u e=>?_) I.bare
   ·rw[Ho b (λ z=>by rw[z,hP] at n;cases n) (Z1 (ZE (Zv e) hge))];exact n
   ·by_cases hb:b=a
    ·subst hb;exact⟨_,ga⟩
    ·exact⟨o,kp b o hb e⟩
   ·by_cases hb:b=a
    ·subst hb
     rw[hP] at e
     cases e
     exact⟨_,by rw[Ha,<-hps]⟩
    ·exact⟨#[],by rw[Ho b hb (λ z=>by rw[z,fc] at e;cases e),e];simp⟩
   ·obtain⟨o,es,ep,ho,r⟩:=hm
    exact⟨o,es,ep,kp _ o (λ z=>by have:=I.free;rw[z,hP] at this;cases this) ho,r⟩
   ·by_cases hb:b=a
    ·subst hb
     rw[Ha] at e
     cases e
     exact ga
    ·by_cases hb2:b=c'
     ·subst hb2
      rw[Hc] at e
      cases e
      exact⟨Zg _ hoc,_,Zg _ hoc⟩
     ·rw[Ho b hb hb2] at e
      refine(I.hok b u e).stay (λ d v hd r=>kp d v (λ z=>?_) r) (λ d z=>own d _ z) tup
      subst z
      rcases hd with z|z
      ·exact hb z.symm
      ·rw[hP] at z;cases z
  have n:Nxt ι H ι H':=⟨⟨[],by simp⟩,⟨tup,frz⟩⟩
  have LC:QK H' q (.ref c'):=⟨c',oc,vs,t,rfl,Hc,hd,hv⟩
  have R:Rel ce X.K ι h H':=by
   refine⟨N.rel.len,N.rel.nd,λ i o e=>?_⟩
   obtain⟨b,eb,ro⟩:=N.rel.at_ i o e
   refine⟨b,eb,?_⟩
   by_cases hb:b=a
   ·subst hb
    have hij:i=j:=N.rel.inj eb ha
    subst hij
    rw[hj] at e
    cases e
    refine⟨hc,ps',Ha,?_,λ pos' cv ea'=>?_⟩
    ·rw[<- hps,Array.toList_append]
     exact TriplesOk_snoc _ _ _ _ ht
    ·rw[<- hps,Array.toList_append] at ea'
     rcases Jis ps.toList ht ea' with z|z
     ·exact(hcodes pos' cv z).mono frz
     ·rw[z];exact LC
   ·refine ro.mono n λ u hu=>?_
    rw[Ho b hb (λ z=>by rw[z,fc] at hu;cases hu)]
    exact hu
  have N1:Now ce X pins ι σi h σ H' _:=⟨I1,R,N.st.mono n⟩
  subst hob
  exact K h'.objs.size c' _ ctv _ H' (N1.pinO (Zw _ rfl) (I.fpOk lts (by rw[Ho _ (ZaG (ZE (Zv gP) lts)) (ZaG hlt)];exact I.hok.fresh lts)) λ v z=>by
   have z':Data.func _=Ze5 v:=z
   cases z') n LC
end
abbrev envL (q:Str)(scope:ZaU)(L f:Zd)(cd:Za)(cl:List (Str×Zd)):Env:=newEnv scope L Zx cl (lamQ q++".<locals>.") (some f) cd none Zcv
def cxL (X:Cx)(A:ZI)(N':List Str)(q:Str)(scope:ZaU)(f:Zd)(cd:Za)(s:Zc)(H:Hp):Cx :=
 { X with A:=A.deeper (envL q scope s.heap.objs.size f cd (clOf X.env.cells scope.names [])),N:=N',s₀:=s,H₀:=H,env:=envL q scope s.heap.objs.size f cd (clOf X.env.cells scope.names []),outer:=X.stack,stack:=envL q scope s.heap.objs.size f cd (clOf X.env.cells scope.names [])::X.stack,ex:=[],calm:=true,fn:=λ _=>false,pn:=[],xe:=λ _ _=>False }
structure LamSc (N0:List Str)(sc₀:List (Str×Zbf))(x:Str)(caps:List Str)(js:List Nat)(scope:ZaU):Prop where
 kind:scope.kind=.function
 co:scope.isCoroutine=false
 gen:scope.isGenerator=false
 nocell:∀y∈scope.names,y.2≠.cell
 par:scope.names.lookup x=some .local
 free:∀y∈scope.names,y.2=.free->sc₀.lookup y.1=some .cell
 fr:∀y,scope.names.lookup y=some .free->(y,.free)∈scope.names
 cap:∀(k j:Nat)(y:Str),js[k]?=some j->caps[k]?=some y->N0[j]?=some y/\scope.names.lookup y=some .free
 len:js.length=caps.length
 nd:(x::caps).Nodup
theorem Jt3 {p:Arg}{nm qu:Str}{body:Expr}{scope:ZaU}{cl:List (Str×Zd)}{pm cd ctv u:Za}:Zec (W.kla_fn nm qu { posonlyargs:=[],args:=[p],vararg:=none,kwonlyargs:=[],kw_defaults:=[],kwarg:=none,defaults:=[] } body scope cl pm cd ctv) ⟨[u],[]⟩=pure [(p.arg,u)]:=by
 have e:(Zbv p.arg [(p.arg,u)]).isNone=false:=by simp
 unfold Zec
 simp[Zca,e]
 rfl
section
variable {ce:Str->Option Zd}{X:Cx}
theorem Jsk {k:Nat}{A:ZI}{q x:Str}{caps:List Str}{js:List Nat}{params:ZbO}{body:Expr}{scope:ZaU}{pm ctv:Za}{c f:Zd}{m:E1}{v:IV}{u:Za}{pins:List (Zd×Obj)}{s:Zc}{σ:L2.St}{H:Hp}{ι:List Zd}{σi:ISt}{h:IH}{Q:Za->Zc->Prop}{E:Za->Zc->Prop}
  (hA:A.frames=some X.stack)(hr:Room (k+1) A)(N:Now ce X pins ι σi h σ H s)(hf:s.heap.get? f=some (lamO q params body scope (clOf X.env.cells scope.names []) pm ctv c))(LC:QK H q (.ref c))(hx:Vf params=some x)(S:LamSc X.N X.env.scope.names x caps js scope)
  (hb:∀s' H',PEi ce (cxL X A (x::caps) q scope f (.ref c) s' H') body m)(ru:RU X.K ι H v u)(K:Kont ce X RU pins ι σi σ H ((m (some v::js.map λ j=>(σi[j]?).join) h).nx) Q E) :
  Zs (Z6 X.prog X.w) A (call (.ref f) [u]) Q E s:=by
 have I:=N.inv
 have e0:=I.env0
 have lim:s.heap.NoLimit:=e0.mod.nolimit.keeps λ b o e=>(e0.bs b o e).1
 refine Zeu (W.kla_callFunE hr.depth hf rfl S.co S.gen rfl (LC.rec I.hok) ?_)
 have hbind:Zec (W.kla_fn "<lambda>" (lamQ q) params body scope (clOf X.env.cells scope.names []) pm (.ref c) ctv) ⟨[u],[]⟩=pure [(x,u)]:=by
  unfold Vf at hx
  split at hx
  ·cases hx
   exact Jt3
  ·cases hx
 rw[hbind]
 refine Zu (wpAny_newFunctionEnv S.nocell (λ y hy=>by rw[Zy.mp hy];exact S.par) (λ h3 hns hsb=>⟨lim.fresh _ hsb,?_⟩) S.kind)
 obtain⟨w,rw',qw⟩:=ru
 have keep:∀b o,s.heap.get? b=some o->h3.get? b=some o:=λ b o z=>(hsb.2 b (Z1 (Zv z))).trans (Zg _ z)
 have cells':∀y d,(clOf X.env.cells scope.names []).lookup y=some d->X.env.cells.lookup y=some d:=Jj1 _ _ (λ y d z=>by simp at z)
 have okX:(cxL X A (x::caps) q scope f (.ref c) s H).Ok:=by
  have noA:∀b:Zd,b∉(cxL X A (x::caps) q scope f (.ref c) s H).ex:=λ b z=>absurd (show b∈([]:List Zd) from z) (by simp)
  refine⟨I.ok.mod,S.kind,rfl,rfl,Zl _,λ y y' d a b=>I.ok.inj y y' d (cells' y d a) (cells' y' d b),λ y hy=>?_,λ y d z=>absurd (show false=true from z) Zp,λ _=>hr.hd,Around.frames_deeper hA,.inr ⟨rfl,rfl⟩,λ b z=>absurd z (noA b),e0.bs,e0.bsz,λ b _ _=>noA b,λ b z=>absurd z (noA b),e0.funs,e0.frf⟩
  have hy':scope.names.lookup y=some .cell∨scope.names.lookup y=some .free:=hy
  rcases hy' with z|z
  ·exact absurd rfl (S.nocell _ (ZY z))
  ·have hm:=ZY z
   obtain⟨d,hd⟩:=I.ok.has y (.inl (S.free (y,.free) hm rfl))
   exact Zbj.mp (XY _ _ y d hm hd)
 have I3:Inv (cxL X A (x::caps) q scope f (.ref c) s H) [] (some w::js.map λ j=>(σ[j]?).join) H { s with heap:=h3,toks:=s.toks+[(x,u)].length }:=by
  refine⟨okX,rfl,I.bare,Un.kept keep,⟨_,hns,λ i y z a b cc=>?_⟩,λ y d z=>?_,I.hok.fresh (Zl _),λ y d z=>I.freeC y d (cells' y d z),λ p hp=>absurd (show p∈([]:List (Zd×Obj)) from hp) (by simp),I.hok.kept keep,by show _=(x::caps).length;simp[S.len]⟩
  ·cases i with
   | zero =>
    have a':some x=some y:=a
    cases a'
    have b':some (some w)=some (some z):=b
    cases b'
    exact⟨u,rw',.inl ⟨S.par,by simp⟩⟩
   | succ i =>
    have a':caps[i]?=some y:=a
    have b':(js.map λ j=>(σ[j]?).join)[i]?=some (some z):=b
    rw[Zt] at b'
    cases ej:js[i]? with
    | none=>rw[ej] at b';cases b'
    | some j =>
     rw[ej] at b'
     have b2:(σ[j]?).join=some z:=Zab b'
     have hσ:σ[j]?=some (some z):=by
      cases es:σ[j]? with
      | none=>rw[es] at b2;cases b2
      | some o=>rw[es] at b2;rw[show o=some z from b2]
     obtain⟨hx1,hx2⟩:=S.cap i j y ej a'
     have hm:=ZY hx2
     have hk:=S.free (y,.free) hm rfl
     obtain⟨m0,hn,hl⟩:=I.loc
     obtain⟨u',ru',lk⟩:=hl j y z hx1 hσ (.inr (.inl hk))
     rcases lk with⟨e,_⟩|⟨e,d,hd,hcell⟩
     ·have hk':X.env.scope.names.lookup y=some .cell:=hk
      have e':X.env.scope.names.lookup y=some .local:=e
      rw[hk'] at e'
      cases e'
     ·obtain⟨d',hd2⟩:=Zbj.mp (XY (cells:=X.env.cells) scope.names [] y d hm hd)
      have:=cells' y d' hd2
      rw[hd] at this
      cases this
      obtain⟨oc,hoc,hdd⟩:=hcell
      exact⟨u',ru',.inr ⟨.inr hx2,d,hd2,oc,keep _ _ hoc,hdd⟩⟩
  ·obtain⟨z',o,ho,hd⟩:=I.cell y d (cells' y d z)
   exact⟨z',o,keep _ _ ho,hd⟩
 have N3:Now ce (cxL X A (x::caps) q scope f (.ref c) s H) [] ι (some v::js.map λ j=>(σi[j]?).join) h (some w::js.map λ j=>(σ[j]?).join) H { s with heap:=h3,toks:=s.toks+[(x,u)].length }:=by
  refine⟨I3,N.rel,by simp,λ i z a=>?_⟩
  cases i with
  | zero =>
   have a':some (some v)=some (some z):=a
   cases a'
   exact⟨w,rfl,qw⟩
  | succ i =>
   have a':(js.map λ j=>(σi[j]?).join)[i]?=some (some z):=a
   rw[Zt] at a'
   cases ej:js[i]? with
   | none=>rw[ej] at a';cases a'
   | some j =>
    rw[ej] at a'
    have a2:(σi[j]?).join=some z:=Zab a'
    have hσ:σi[j]?=some (some z):=by
     cases es:σi[j]? with
     | none=>rw[es] at a2;cases a2
     | some o=>rw[es] at a2;rw[show o=some z from a2]
    obtain⟨z',ez,qz⟩:=N.st.2 j z hσ
    refine⟨z',?_,qz⟩
    show(js.map λ j=>(σ[j]?).join)[i]?=some (some z')
    rw[Zt,ej]
    show some ((σ[j]?).join)=_
    rw[ez]
    rfl
 refine W.kla_codeExpr (Zae (hb s H [] _ _ H ι _ h (λ u' s'=>Q u' s') (λ _ _=>False) N3 ?_) (λ _ _ z=>z) λ _ _ z=>z.elim)
 cases er:m (some v::js.map λ j=>(σi[j]?).join) h with
 | ok v' h' =>
  rw[er] at K
  intro u' s' H' ι' N' n' ⟨z,rz,qz⟩
  have J:=N'.inv
  obtain⟨_,_,I',rz',e1,e2⟩:=I.after (Q:=λ z2 H2=>z2=z/\H2=H') ⟨z,H',J.os,J.bare,J.base,J.hok,rz,rfl,rfl⟩
  subst e1
  subst e2
  exact K u' s' _ ι' ⟨I',N'.rel,N.st.mono n'⟩ n' ⟨_,rz',qz⟩
 | exc n h'=>rw[er] at K;exact Zf K
 | stuck=>rw[er] at K;exact Zf K
end
def Ve (gt:IV->IV->Option Bool)(mk:IV->IH->Res IV)(i n:Nat):Nat->IV->IV->IH->Res IV
 | 0,b,_,h=>(match h[i]? with
  | some (.lst ys)=>if ys.length=n then .ok b h else .stuck
  | _=>.stuck)
 | r+1,b,kb,h=>(match h[i]? with
  | some (.lst ys)=>if ys.length=n then(match ys[n-(r+1)]? with
    | some y=>(mk y h).nx.bind λ k h'=>(match gt k kb with
     | some true=>Ve gt mk i n r y k h'
     | some false=>Ve gt mk i n r b kb h'
     | none=>.stuck)
    | none=>.stuck) else .stuck
  | _=>.stuck)
theorem FpOk.more {X:Cx}{pins:List (Zd×Obj)}{H:Hp}{b:Zd}{p:Zd×Obj}(F:FpOk X pins H b)(ne:p.1≠b):FpOk X (pins++[p]) H b:=by
 refine⟨F.1,F.2.1,F.2.2.1,F.2.2.2.1,F.2.2.2.2.1,λ q hq=>?_⟩
 rcases ZS.mp hq with z|z
 ·exact F.2.2.2.2.2 q (Zam _ z)
 ·rcases ZS.mp z with z|z
  ·exact F.2.2.2.2.2 q (Zj _ z)
  ·rw[Zy.mp z]
   exact ne
theorem FpOk.at {X:Cx}{pins:List (Zd×Obj)}{H H':Hp}{b:Zd}(F:FpOk X pins H b)(n:H' b=none):FpOk X pins H' b:=⟨n,F.2⟩
theorem Jog {xs:List V}{us:List Za}{i:Nat}{u:Za}(r:Vals xs us)(e:us[i]?=some u):∃x,xs[i]?=some x/\RelV x u:=by
 have hi:=(Zk.mp e).1
 have hl:=r.length
 have hi2:i<xs.length:=by omega
 have hx:xs[i]?=some xs[i]:=Zb hi2
 obtain⟨u',e',q⟩:=r.get hx
 rw[e] at e'
 cases e'
 exact⟨_,hx,q⟩
section
variable {ce:Str->Option Zd}{X:Cx}
theorem Now.turned {pins:List (Zd×Obj)}{ι:List Zd}{σi:ISt}{h:IH}{σ:L2.St}{H:Hp}{s:Zc}{it:Zd}{h':Zag}{t':Nat}(N:Now ce X pins ι σi h σ H s)(F:FpOk X pins H it)(k:∀b o,b≠it->s.heap.get? b=some o->h'.get? b=some o) :
  Now ce X pins ι σi h σ H { s with heap:=h',toks:=t' }:=⟨N.inv.turned k F.1 F.2.1 F.2.2.2.1 F.2.2.2.2.1 F.2.2.2.2.2,N.rel,N.st⟩
theorem Now.keptH {pins:List (Zd×Obj)}{ι:List Zd}{σi:ISt}{h:IH}{σ:L2.St}{H:Hp}{s:Zc}{h':Zag}{t':Nat}(N:Now ce X pins ι σi h σ H s)(k:∀b o,s.heap.get? b=some o->h'.get? b=some o) :
  Now ce X pins ι σi h σ H { s with heap:=h',toks:=t' }:=⟨N.inv.kept k,N.rel,N.st⟩
def CmpK (ce:Str->Option Zd)(X:Cx)(A:ZI)(op:CmpOp)(gt:IV->IV->Option Bool):Prop :=
 ∀(pins:List (Zd×Obj))(ι:List Zd)(σi:ISt)(h:IH)(σ:L2.St)(H:Hp)(s:Zc)(k kb:IV)(u ub:Za)(b:Bool)(Q:Za->Zc->Prop)(E:Za->Zc->Prop),Now ce X pins ι σi h σ H s->RU X.K ι H k u->RU X.K ι H kb ub->gt k kb=some b ->
  (∀h' t',(∀a o,s.heap.get? a=some o->h'.get? a=some o)->Q (.bool b) { s with heap:=h',toks:=t' })->Zs (Z6 X.prog X.w) A (ZcR op u ub) Q E s
def Jt0 (ce:Str->Option Zd)(X:Cx)(A:ZI)(σi:ISt)(σ:L2.St)(pins:List (Zd×Obj))(G:Hp->Prop)(fv:Za)(mk:IV->IH->Res IV):Prop :=
 ∀(pl:List (Zd×Obj))(s:Zc)(H:Hp)(ι:List Zd)(h:IH)(v:IV)(u:Za)(Q:Za->Zc->Prop),Now ce X (pins++pl) ι σi h σ H s->G H->RU X.K ι H v u->Kont ce X RU (pins++pl) ι σi σ H (mk v h).nx Q (λ _ _=>False) ->
  Zs (Z6 X.prog X.w) A (call fv [u]) Q (λ _ _=>False) s
theorem Jsx {α γ:Type}{pins:List (Zd×Obj)}{ι:List Zd}{σi:ISt}{σ:L2.St}{H:Hp}{R:REL α Za}{R':REL γ Za}{r:Res α}{g:α->IH->Res γ}{Q:Za->Zc->Prop}{E:Za->Zc->Prop}{pl:List (Zd×Obj)}{Q1:Za->Zc->Prop}
  (K:Kont ce X R' pins ι σi σ H (r.nx.bind g) Q E)
  (step:∀x h1 u s1 H1 ι1,Now ce X (pins++pl) ι1 σi h1 σ H1 s1->Nxt ι H ι1 H1->R X.K ι1 H1 x u->Kont ce X R' pins ι1 σi σ H1 (g x h1) Q E->Q1 u s1):Kont ce X R (pins++pl) ι σi σ H r.nx Q1 (λ _ _=>False):=by
 cases r with
 | ok v h'=>exact λ u s' H' ι' N' n' q=>step v h' u s' H' ι' N' n' q (Kont.mono (r:=g v h') K n')
 | exc n h'=>exact Zf K
 | stuck=>exact Zf K
section
variable {A:ZI}{R:ZdK->Zc->Prop}{Q:Za->Zc->Prop}{E:Za->Zc->Prop}{pins:List (Zd×Obj)}{σi:ISt}{σ:L2.St}{G:Hp->Prop}{fq:Zd}{mk:IV->IH->Res IV}{gt:IV->IV->Option Bool}{i n:Nat}{l I C:Zd}{kw:List (Str×Za)}
end
theorem Kont.more {α β:Type}{R:REL α β}{pins pl:List (Zd×Obj)}{ι:List Zd}{σi:ISt}{σ:L2.St}{H:Hp}{r:Res α}{Q:β->Zc->Prop}{E:Za->Zc->Prop}(K:Kont ce X R pins ι σi σ H r Q E):Kont ce X R (pins++pl) ι σi σ H r Q E:=by
 cases r with
 | ok v h'=>exact λ u s' H' ι' N n q=>K u s' H' ι' N.pins n q
 | exc m h'=>exact λ pl' a s' H' ι' N n q=>K (pl++pl') a s' H' ι' (by rw[<- ZQ];exact N) n q
 | stuck=>exact K
theorem Jou {params:ZbO}{x:Str}{env:Env}(hx:Vf params=some x):defaultsOf params env=([],[]):=by
 unfold Vf at hx
 split at hx
 ·rfl
 ·cases hx
end
section
variable {ce:Str->Option Zd}{X:Cx}{C:Zd}{x c:Str}{np cpos pos:Pos}{e:Expr}{es:List Expr}{ma:A1}
end
section
variable {ce:Str->Option Zd}{X:Cx}{a C:Zd}{pins:List (Zd×Obj)}{σ:L2.St}{H:Hp}{s:Zc}{ι:List Zd}{σi:ISt}{h:IH}{n:Nat}{c:Str}{fs:List (Str×IV)}{tv:Za}
end
section
variable {ce:Str->Option Zd}{X:Cx}
def slT:IV->Option Int->Option Int->IH->Res IV
 | .str x,lo,hi,h=>if x.length<=sizeLine then .ok (.str (Zem x lo hi)) h else .stuck
 | x,lo,hi,h=>slI x lo hi h
theorem J5h:SlI ce X slT:=by
 intro pins s σ H ι σi h x v vl vu lo hi sl Q E N rx hs pl pu K
 cases x with
 | str x =>
  obtain⟨xv,rx,qx⟩:=rx
  cases (show xv=.str x from qx)
  obtain⟨t,rfl⟩:=rx
  dsimp only[slT] at K
  split at K
  ·rename_i hz
   refine⟨"str",_,F.slot_str_getitem.lookup,typeIs_str _ _ _,?_⟩
   cases pl with
   | none =>
    cases pu with
    | none=>exact Zb9 (l:=none) (u:=none) (st:=none) hs rfl (Zdb ⟨ZO (ZdR x _ _) hz,λ t' k=>fin0 N K rfl _ _ (N.inv.tok _) ⟨_,rfl⟩⟩)
    | int j tj=>exact Zb9 (l:=none) (u:=some (j,tj)) (st:=none) hs rfl (Zdb ⟨ZO (ZdR x _ _) hz,λ t' k=>fin0 N K rfl _ _ (N.inv.tok _) ⟨_,rfl⟩⟩)
   | int i ti =>
    cases pu with
    | none=>exact Zb9 (l:=some (i,ti)) (u:=none) (st:=none) hs rfl (Zdb ⟨ZO (ZdR x _ _) hz,λ t' k=>fin0 N K rfl _ _ (N.inv.tok _) ⟨_,rfl⟩⟩)
    | int j tj=>exact Zb9 (l:=some (i,ti)) (u:=some (j,tj)) (st:=none) hs rfl (Zdb ⟨ZO (ZdR x _ _) hz,λ t' k=>fin0 N K rfl _ _ (N.inv.tok _) ⟨_,rfl⟩⟩)
  ·exact Zf K
 | _=>exact x_sl pins s σ H ι σi h _ v vl vu lo hi sl Q E N rx hs pl pu K
end
theorem Jq9 (a:Za):Zev "max" ⟨[a],[]⟩:=by unfold Zev;kernel_rfl
section
variable {ce:Str->Option Zd}{X:Cx}
def X2:IV->IH->Res IV
 | .ref i,h=>match h[i]? with
  | some (.lst xs)=>(match JI xs with
   | some ns=>if ns=[] then .stuck else .ok (.int (JL (λ i=>ns.getD i 0) ns.length)) h
   | none=>.stuck)
  | _=>.stuck
 | _,_=>.stuck
theorem J0r (hh:X.A.handled=none):Qu ce X (.builtin "max") (on1 X2):=VA λ pins s σ H ι σi h x xv u Q E N ru qx K=>by
 cases x with
 | ref i =>
  obtain⟨a,e1,ha⟩:=qx
  subst e1
  cases ru
  dsimp only[X2] at K
  cases hi:h[i]? with
  | none=>rw[hi] at K;exact Zf K
  | some ob =>
   rw[hi] at K
   cases ob with
   | lst xs =>
    dsimp only at K
    cases hb:JI xs with
    | none=>rw[hb] at K;exact Zf K
    | some ns =>
     rw[hb] at K
     dsimp only at K
     split at K
     ·exact Zf K
     ·rename_i hne
      obtain⟨vs,e1,r1⟩:=N.at hi ha
      obtain⟨its,rv,pl,hz⟩:=N.inv.list (SqL.of e1)
      refine Jsw (d:=none) rfl (Jq9 _) (λ q=>absurd q hne) hh pl.isList (Vy hb r1 rv) λ v h2 tk mi kk=>?_
      rcases mi with⟨e,_⟩|⟨_,t,ev⟩
      ·exact absurd e hne
      ·subst ev
       exact fin0 N K rfl _ _ (N.inv.kept (t':=tk) kk) ⟨t,rfl⟩
   | _=>exact Zf K
 | _=>exact Zf K
structure BasK (K:W.Frag)(C:Zd):Prop where
 sp:W.specialIn K (.ref C) "__getattribute__"=some (some (.builtin "type.__getattribute__"))
 rd:W.readsIn K C (.type "type")=true
 fc:∃fa,W.findIn K (.ref C) "__init__"=some (some (.ref fa))/\W.findCls K (.ref C) (.type "type") "__init__"=some (.val (.ref fa))/\W.keepIn K (.ref fa)=true
variable {k:Nat}{fa C:Zd}{fd:Zax}{ps:List Str}{f:List IV->IH->Res IV}{dvs:List IV}{ds:List Za}{x:Str}{p pos apos:Pos}{e:Expr}{es:List Expr}{ma:A1}{pl:Sem Bool}
theorem J07 (F:FnOk X.prog X.w X.K X.mg X.base (CXI X.prog X.w) k fa fd ps (spI ce X.K ps f))(hr:Room k X.A)(hg:Gl X x)(hm:X.mg x=some (.ref C))(B:BasK X.K C)(M:Mk X.K C fa)(hb:Qf X.K fd ps ds)(hd:∃vs,Vals vs ds/\∀ι H,RVs X.K ι H dvs vs)
  (ha:PAi ce X (e::es) ma)(hlen:∀σ h xs h',ma σ h=.ok xs h'->xs.length+ds.length=ps.length)(hdb:(x==("__debug__":Str))=false:=by decide)(he:Z8 (e::es) X.env=(false,ZaK e X.env)::Z8 es X.env:=by rfl)(hpl:(ZaT pos (Z8 es X.env)).any (·.1)=false:=by rfl)
  (ht:ZaK (.Call (.Attribute (.Name x p) "__init__" apos) (e::es) [] pos) X.env=(do
   let ov<-ZaK (.Name x p) X.env
   Ze2 apos.atName
   let (f,first)<-ZbQ [ov] (Zd6 ov "__init__" pl)
   callWith pos f first (ZaT pos (Z8 (e::es) X.env)) (ZcP pos (ZbC [] X.env))):=by rfl) :
  PEi ce X (.Call (.Attribute (.Name x p) "__init__" apos) (e::es) [] pos) (Jm f dvs ma):=by
 intro pins s σ H ι σi h Q E N K
 obtain⟨fa',f1,f2,hk⟩:=B.fc
 have ef:fa'=fa:=by
  have:=f1.symm.trans M.init
  cases this
  rfl
 subst ef
 refine W.methodCall_KW (pl:=pl) (VW N.inv hg hm ?_ hdb) ht
 refine W.method_cls N.inv.kIn B.sp (W.cls_value N.inv.kIn B.rd f2 rfl ?_)
 have N':Now ce X pins ι σi h σ H { s with toks:=s.toks+1 }:=⟨N.inv.tok _,N.rel,N.st⟩
 refine W.callWith_K (h₀:=X.base) N.inv.ok.mod.kin hk ?_ he hpl
 have K':=K
 unfold Jm at K'
 refine ha pos pins _ σ H ι σi h _ E N' ?_
 cases e0:ma σi h with
 | exc n h'=>rw[e0] at K';exact K'
 | stuck=>rw[e0] at K';exact K'
 | ok xs h' =>
  rw[e0] at K'
  intro us s1 H1 ι1 N1 n1 r1
  have hl:xs.length=us.length:=by
   obtain⟨vs,rv,q⟩:=r1
   rw[<- rv.length,q.length]
  have hl2:=hlen σi h xs h' e0
  exact⟨N1.inv.kIn,Yr (us:=us) F hr hb hd (by omega) N1 r1 (Kont.mono (r:=f (xs++dvs) h') K' n1)⟩
end
section
variable {prog:Z5}{w:ZP}{A:ZI}{E:Za->Zc->Prop}{s:Zc}{x y:Str}{t u:Tok}{Q:Za->Zc->Prop}
open Builtin Builtin.Str in
end
section
variable {ce:Str->Option Zd}{X:Cx}
end
section
variable {prog:Z5}{w:ZP}{A:ZI}{E:Za->Zc->Prop}{s:Zc}
end
section
variable {ce:Str->Option Zd}{X:Cx}
end
section
variable {ce:Str->Option Zd}{X:Cx}{pins:List (Zd×Obj)}{σ:L2.St}{H:Hp}{s:Zc}{ι:List Zd}{σi:ISt}{h:IH}{n:Nat}{c:Str}{fs:List (Str×IV)}{a:Zd}
end
section
variable {P:Z5}{w:ZP}{K:W.Frag}{mg:Str->Option Za}{base:Zag}{ce:Str->Option Zd}
end
section
variable {ce:Str->Option Zd}{X:Cx}
end
section
variable {prog:Z5}{w:ZP}{A:ZI}{E:Za->Zc->Prop}{s:Zc}
end
def neIn (K:W.Frag)(C:Zd):Bool:=match K.lookup C with
 | some ⟨.type "type",_,.cls cd,sl⟩=>(match cd.mro,sl.toList with
  | [.ref C',.type "object"],[_,_,_,_,some (.builtin _),_]=>C'==C&&!cd.hasDel&&W.nsOkIn K cd.ns&&W.nsIn K cd.ns "__eq__"==some none&&W.nsIn K cd.ns "__ne__"==some none
  | _,_=>false)
 | _=>false
section
variable {ce:Str->Option Zd}{X:Cx}{pins:List (Zd×Obj)}{s:Zc}{σ:L2.St}{H:Hp}{ι:List Zd}{σi:ISt}{h:IH}
end
section
variable {ce:Str->Option Zd}{X:Cx}
end
section
variable {X:Cx}
end
section
variable {ce:Str->Option Zd}{X:Cx}
end
def V8:Ty->Option Bool
 | .lst=>some true|.ins c=>if c=="Work" then some false else none|.exc _=>none|_=>some false
theorem Jqg {ce:Str->Option Zd}{K:W.Frag}(h:∀C,ce "Work"=some C->ClsI K C/\W.kitOne K (.ref C) (.type "list")=some false):IsOk ce K (.type "list") V8:=by
 have O:IsOk ce K (.type "list") QZ:=Jmg
 refine⟨O.non,O.bl,O.int,O.str,O.lst,O.tup,O.dct,λ k C b e hk=>?_,(λ k C b e=>by cases e)⟩
 unfold V8 at e
 dsimp only at e
 split at e
 ·rename_i q
  cases beq_iff_eq.mp q
  cases e
  exact h C hk
 ·cases e
section
variable {ce:Str->Option Zd}{X:Cx}{x:Expr}{m:E1}{pos:Pos}
end
section
variable {prog:Z5}{w:ZP}{A:ZI}{E:Za->Zc->Prop}{hp:Zag}{ge:Array GenState}{dr:Drawn}{tk:Nat}{ox:OsState}
variable {nm qn:Str}{C Na:Zd}{bs bm bmB:List Za}{hdct:Bool}{sn:List Str}{sub:List Za}{ab:Bool}{col:Option Bool}{dd:Option Zd}{k0 k1 k2 k3 k5:Option Za}{B Bn newId nid initId inN:String}{bmN:List Za}
end
section
variable {X:Cx}{pins:List (Zd×Obj)}{σ:L2.St}{H:Hp}{s:Zc}{k:Nat}{f C:Zd}{fd:Zax}{ps:List Str}{sp:Sp}{dvs:List V}{ds:List Za}{E:XK}{Q:VK}{us:List Za}{vs:List V}{W:Za->Zc->Prop}
end
section
variable {ce:Str->Option Zd}{X:Cx}{k:Nat}{fa C:Zd}{fd:Zax}{ps:List Str}{f:List IV->IH->Res IV}{dvs:List IV}{ds:List Za}{x c:Str}{p pos:Pos}{e:Expr}{es:List Expr}{ma:A1}
end
section
variable {X:Cx}{pins:List (Zd×Obj)}{σ:L2.St}{H:Hp}{s:Zc}{f C e:Zd}{tv:Za}{d:Option Zd}{us:List Za}
end
section
variable {ce:Str->Option Zd}{X:Cx}{D:Zd}{x:Str}{p pos apos:Pos}{e:Expr}{es:List Expr}{ma:A1}{pl:Sem Bool}
end
section
variable {prog:Z5}{w:ZP}{A:ZI}{K:W.Frag}{C x:Zd}{s:Zc}{R:ZdK->Zc->Prop}{ox:Obj}{name:Str}{v:Za}
end
section
variable {prog:Z5}{w:ZP}{A:ZI}{K:W.Frag}{C x:Zd}{s:Zc}{ox:Obj}{name:Str}{v:Za}
end
section
variable {ce:Str->Option Zd}{X:Cx}{o value:Expr}{mo mv:E1}{pos pos':Pos}{fl:Str}
end
end L3
namespace L3
open PySem PySem.Spec PySem.Calls PyProof.Rows L2
section
variable {prog:Z5}{w:ZP}{A:ZI}{E:Za->Zc->Prop}{s:Zc}{K:W.Frag}{x D:Zd}{ox od:Obj}{f:Str}{v:Za}
end
section
variable {ce:Str->Option Zd}{X:Cx}{o:Expr}{mo:E1}{pos:Pos}{fl:Str}
end
section
variable {ce:Str->Option Zd}{X:Cx}
end
end L3
namespace L3
open PySem PySem.Spec PyProof.Rows L2
section
variable {ce:Str->Option Zd}{X:Cx}
end
section
variable {α β γ δ:Type}{ce:Str->Option Zd}{X:Cx}{R:REL α β}{R':REL γ δ}{a:Zd}{n:Nat}
variable {b c:Expr}{pos:Pos}{rest:List Expr}{ta tb:T1}{mb:E1}
end
def Xz (gt:IV->IV->Option Bool)(mk:IV->IH->Res IV)(i:Nat)(h:IH):Res IV:=match h[i]? with
 | some (.lst ys)=>(match ys[0]? with
  | some y=>(mk y h).nx.bind λ k h'=>Ve gt mk i ys.length (ys.length-1) y k h'
  | none=>.stuck)
 | _=>.stuck
theorem Jf3:(toString "min"++toString ".loop":String)="min.loop":=by decide
section
variable {ce:Str->Option Zd}{X:Cx}
section
variable {A:ZI}{R:ZdK->Zc->Prop}{Q:Za->Zc->Prop}{E:Za->Zc->Prop}{pins:List (Zd×Obj)}{σi:ISt}{σ:L2.St}{G:Hp->Prop}{fq:Zd}{mk:IV->IH->Res IV}{gt:IV->IV->Option Bool}{i n:Nat}{l I C:Zd}{kw:List (Str×Za)}
theorem Ju6 (hh:A.handled=none)(cm:CmpK ce X A.in1 .Lt gt)(ko:Jt0 ce X A.in1 σi σ pins G (.ref fq) mk)(hG:∀H H',Ext H H'->G H->G H')(hR:∀v s',Q v s'->R (.ok (.ret v)) s')(hIC:I≠C) :
  ∀(r j:Nat)(z:Zc)(H:Hp)(ι:List Zd)(h:IH)(b kb:IV)(vb uk:Za)(c:Nat),n-j=r->0<j->j<=n->Now ce X pins ι σi h σ H z->G H->ι[i]?=some l->FpOk X pins H I->FpOk X pins H C->z.heap.IsListIter I l j ->
   z.heap.get? C=some (Zai "list" #[vb,uk] c)->RU X.K ι H b vb->RU X.K ι H kb uk->Kont ce X RU pins ι σi σ H (Ve gt mk i n r b kb h) Q E ->
   Zc5 (Z6 X.prog X.w) A (.builtin "min.loop" ⟨[.ref I,.ref fq,.ref C],kw⟩) R z:=by
 intro r
 induction r with
 | zero =>
  intro j z H ι h b kb vb uk c hr h0 hj N g hi fI fC st gC rb rk K
  obtain rfl:j=n:=by omega
  unfold Ve at K
  cases eh:h[i]? with
  | none=>rw[eh] at K;exact Zf K
  | some ob =>
   rw[eh] at K
   cases ob with
   | lst ys =>
    dsimp only at K
    split at K
    ·rename_i hlen
     obtain⟨ws,e1,r3⟩:=N.at eh hi
     obtain⟨its,rv2,pl,_⟩:=N.inv.list (SqL.of e1)
     have ne:l≠I:=λ q=>by have:=fI.1;rw[<- q,e1] at this;cases this
     have sz:its.toArray.size=j:=by
      rw[Zq,<-rv2.length,r3.length,hlen]
     have W:=ZcM (prog:=X.prog) (w:=X.w) (A:=A.in1) hh I l ne its.toArray
     refine Zal ZaZ ?_
     rw[ZW ZL _]
     show Zs _ A.in1 (Zca (.ref C)>>=_) _ _ z
     refine Ze (Zbm gC rfl ?_)
     show Zs _ A.in1 (tryCatch (ZbU (.ref I)) _>>=_) _ _ z
     refine Ze (Zan (W.done z _ _ ⟨by rw[sz];exact st,pl.isList⟩ λ h2 tk keep=>?_))
     have gC2:=keep C _ (λ q=>hIC (Zy.mp q).symm) gC
     have N1:=N.turned (h':=h2) (t':=tk) fI λ b o hb e=>keep b o (λ q=>hb (Zy.mp q)) e
     show Zs _ A.in1 (ZdB C (λ _=>#[])>>=_) _ _ _
     refine Ze ?_
     refine Zbd gC2 rfl (Ze (Zbe (Zu ?_)))
     have N2:=N1.turned (h':=h2.update C (Zaf λ _=>#[])) (t':=tk) fC λ b o hb e=>(Zr _ _ (ZK hb)).trans e
     exact hR _ _ (K _ _ _ _ N2 .refl rb)
    ·exact Zf K
   | _=>exact Zf K
 | succ r ih =>
  intro j z H ι h b kb vb uk c hr h0 hj N g hi fI fC st gC rb rk K
  unfold Ve at K
  cases eh:h[i]? with
  | none=>rw[eh] at K;exact Zf K
  | some ob =>
   rw[eh] at K
   cases ob with
   | lst ys =>
    dsimp only at K
    split at K
    ·rename_i hlen
     obtain⟨ws,e1,r3⟩:=N.at eh hi
     obtain⟨its,rv2,pl,_⟩:=N.inv.list (SqL.of e1)
     have ne:l≠I:=λ q=>by have:=fI.1;rw[<- q,e1] at this;cases this
     have sz:its.toArray.size=n:=by
      rw[Zq,<-rv2.length,r3.length,hlen]
     have ej:n-(r+1)=j:=by omega
     rw[ej] at K
     have W:=ZcM (prog:=X.prog) (w:=X.w) (A:=A.in1) hh I l ne its.toArray
     refine Zal ZaZ ?_
     rw[ZW ZL _]
     show Zs _ A.in1 (Zca (.ref C)>>=_) _ _ z
     refine Ze (Zbm gC rfl ?_)
     show Zs _ A.in1 (tryCatch (ZbU (.ref I)) _>>=_) _ _ z
     refine Ze (Zan (W.item j z _ _ (by rw[sz];omega) ⟨st,pl.isList⟩ λ y h2 tk hP st2 keep=>?_))
     have ey:its[j]?=some y:=by simpa using hP
     obtain⟨x,ex,rx⟩:=Jog rv2 ey
     obtain⟨yv,eyv,qy⟩:=r3.get' ex
     rw[eyv] at K
     dsimp only at K
     have gC2:=keep C _ (λ q=>hIC (Zy.mp q).symm) gC
     have N1:=N.turned (h':=h2) (t':=tk) fI λ b o hb e=>keep b o (λ q=>hb (Zy.mp q)) e
     obtain⟨oI,hoI,hoc,hod⟩:=id st2.1
     have N2:=(N1.pinO gC2 fC λ v z=>by cases z).pinO hoI (FpOk.more (p:=(C,Zai "list" #[vb,uk] c)) fI (ZK hIC)) λ v z=>by rw[hod] at z;cases z
     rw[ZQ] at N2
     show Zs _ A.in1 (tryCatch (ZbQ [y] (call (.ref fq) [y])) _>>=_) _ _ _
     refine Ze (Zan (ZZ (nof (ko _ _ _ _ _ yv y _ N2 g ⟨x,rx,qy⟩ (Jsx K λ k h3 u s3 H3 ι3 N3 n3 ru K3=>?_)))))
     have pC:=N3.inv.pin (C,Zai "list" #[vb,uk] c) (Zj _ (Zj _ (by simp)))
     have pI:=N3.inv.pin (I,oI) (Zj _ (Zj _ (by simp)))
     have N4:=N3.pins
     have hi3:=n3.at hi
     have g3:=hG _ _ n3.ext g
     have fI3:=FpOk.at (H':=H3) fI pI.2.1
     have fC3:=FpOk.at (H':=H3) fC pC.2.1
     have it3:s3.heap.IsListIter I l (j+1):=⟨oI,pI.1,hoc,hod⟩
     have ry3:RU X.K ι3 H3 yv y:=RU.mono n3 ⟨x,rx,qy⟩
     cases eg:gt k kb with
     | none=>rw[eg] at K3;exact Zf K3
     | some bb =>
      show Zs _ A.in1 (tryCatch (ZbQ [y,u] (ZcR .Lt u uk>>=_)) _>>=_) _ _ _
      refine Ze (Zan (ZZ (Ze (cm _ _ _ _ _ _ _ k kb u uk bb _ _ N4 ru (rk.mono n3) eg λ h5 t5 k5=>?_))))
      refine Ze (ZZ (ZaV ?_))
      refine Ze (Zbe (Zu ?_))
      have N5:=N4.keptH (h':=h5) (t':=t5) k5
      have gC5:=k5 _ _ pC.1
      obtain⟨oI5,hoI5,hoc5,hod5⟩:=id it3
      have it5:h5.IsListIter I l (j+1):=⟨oI5,k5 _ _ hoI5,hoc5,hod5⟩
      rw[eg] at K3
      cases bb with
      | true =>
       simp only[if_true]
       refine Ze ?_
       refine Zbd gC5 rfl (Ze (Zbe ?_))
       rw[Jf3]
       have N6:=N5.turned (h':=h5.update C (Zaf λ _=>#[y,u])) (t':=t5) fC3 λ b o hb e=>(Zr _ _ (ZK hb)).trans e
       obtain⟨c2,hc2⟩:∃c2,(h5.update C (Zaf λ _=>#[y,u])).get? C=some (Zai "list" #[y,u] c2):=⟨_,Zct gC5 λ _=>#[y,u]⟩
       refine Zu ⟨Za1 ZL _,ih (j+1) _ H3 ι3 h3 yv k y u c2 (by omega) (by omega) (by omega) N6 g3 hi3 fI3 fC3 ?_ hc2 ry3 ru K3⟩
       exact⟨oI5,(Zr _ _ (ZK hIC)).trans (k5 _ _ hoI5),hoc5,hod5⟩
      | false =>
       simp only[ZU,if_false]
       refine Ze (Zbe ?_)
       rw[Jf3]
       exact Zu ⟨Za1 ZL _,ih (j+1) _ H3 ι3 h3 b kb vb uk c (by omega) (by omega) (by omega) N5 g3 hi3 fI3 fC3 it5 gC5 (rb.mono n3) (rk.mono n3) K3⟩
    ·exact Zf K
   | _=>exact Zf K
theorem Ju5 {z:Zc}{H:Hp}{ι:List Zd}{h:IH}(hh:A.handled=none)(cm:CmpK ce X A.in1 .Lt gt)(ko:Jt0 ce X A.in1 σi σ pins G (.ref fq) mk)(hG:∀H H',Ext H H'->G H->G H')(N:Now ce X pins ι σi h σ H z)(g:G H)(hi:ι[i]?=some l)
  (K:Kont ce X RU pins ι σi σ H (Xz gt mk i h) Q E):Zs (Z6 X.prog X.w) A (call (.builtin "min") [.ref l] [(Zaw "key",.ref fq)]) Q E z:=by
 unfold Xz at K
 cases eh:h[i]? with
 | none=>rw[eh] at K;exact Zf K
 | some ob =>
  rw[eh] at K
  cases ob with
  | lst ys =>
   dsimp only at K
   obtain⟨ws,e1,r3⟩:=N.at eh hi
   obtain⟨its,rv2,pl,_⟩:=N.inv.list (SqL.of e1)
   have hl:=pl.isList
   obtain⟨ol,hol,_⟩:=id hl
   have lt:l<z.heap.objs.size:=Zv hol
   have sz:its.toArray.size=ys.length:=by rw[Zq,<-rv2.length,r3.length]
   refine kmk_tree PySem.F.kind_min PySem.F.plain_min PySem.F.entry_min (kmk_min_key _ _) ?_
   show Zs _ A.in1 (Za4 "min" ["key","default"] 0 ⟨[],[(Zaw "key",.ref fq)]⟩>>=_) _ _ z
   refine Ze (wpAny_of_eq (show Za4 "min" ["key","default"] 0 ⟨[],[(Zaw "key",.ref fq)]⟩=pure [some (.ref fq),none] from rfl) ?_)
   refine Ze (Zu ?_)
   refine Ze (ZaX hl ?_)
   refine Ze (Zck ?_ (ZT _))
   rw[Jf3]
   have ne:l≠z.heap.objs.size:=Z1 lt
   have W:=ZcM (prog:=X.prog) (w:=X.w) (A:=A.in1) hh z.heap.objs.size l ne its.toArray
   have hS:(z.heap.push { cls:=.type "list_iterator",data:=.fields #[.ref l,.int 0 0] }).objs.size=z.heap.objs.size+1:=ZdQ ..
   obtain⟨C,hC⟩:∃C,C=(z.heap.push { cls:=.type "list_iterator",data:=.fields #[.ref l,.int 0 0] }).objs.size:=⟨_,rfl⟩
   have hIC:z.heap.objs.size≠C:=by rw[hC,hS];exact Z1 (Zaz _)
   have old:∀b o,z.heap.get? b=some o->((z.heap.push { cls:=.type "list_iterator",data:=.fields #[.ref l,.int 0 0] }).push (Zai "list" #[] 0)).get? b=some o:=λ b o e=>Zg _ (Zg _ e)
   have gI:((z.heap.push { cls:=.type "list_iterator",data:=.fields #[.ref l,.int 0 0] }).push (Zai "list" #[] 0)).get? z.heap.objs.size=some { cls:=.type "list_iterator",data:=.fields #[.ref l,.int 0 0] }:=Zg _ (Zw _ rfl)
   have gC:((z.heap.push { cls:=.type "list_iterator",data:=.fields #[.ref l,.int 0 0] }).push (Zai "list" #[] 0)).get? C=some (Zai "list" #[] 0):=by rw[hC];exact Zw _ rfl
   rw[<- hC]
   have fI:FpOk X pins H z.heap.objs.size:=N.inv.fpOk (Zl _) (N.inv.hok.fresh (Zl _))
   have fC:FpOk X pins H C:=N.inv.fpOk (by rw[hC,hS];exact Zbb _) (N.inv.hok.fresh (by rw[hC,hS];exact Zbb _))
   have N0:=N.keptH (t':=z.toks) old
   refine Zu ⟨Za1 ZL _,Zal ZaZ ?_⟩
   rw[ZW ZL _]
   show Zs _ A.in1 (Zca (.ref _)>>=_) _ _ _
   refine Ze (Zbm gC rfl ?_)
   show Zs _ A.in1 (tryCatch (ZbU (.ref z.heap.objs.size)) _>>=_) _ _ _
   cases e0:ys[0]? with
   | none=>rw[e0] at K;exact Zf K
   | some yv =>
    have h0:0<ys.length:=(Zk.mp e0).1
    rw[e0] at K
    dsimp only at K
    refine Ze (Zan (W.item 0 _ _ _ (by rw[sz];exact h0) ⟨⟨_,gI,rfl,rfl⟩,(hl.push _).push _⟩ λ y h2 tk hP st2 keep=>?_))
    have ey:its[0]?=some y:=by simpa using hP
    obtain⟨x,ex,rx⟩:=Jog rv2 ey
    obtain⟨yv',eyv,qy⟩:=r3.get' ex
    rw[e0] at eyv
    cases eyv
    have gC2:=keep C _ (λ q=>hIC (Zy.mp q).symm) gC
    have N1:=N0.turned (h':=h2) (t':=tk) fI λ b o hb e=>keep b o (λ q=>hb (Zy.mp q)) e
    obtain⟨oI,hoI,hoc,hod⟩:=id st2.1
    have N2:=(N1.pinO gC2 fC λ v z=>by cases z).pinO hoI (FpOk.more (p:=(C,Zai "list" #[] 0)) fI (ZK hIC)) λ v z=>by rw[hod] at z;cases z
    rw[ZQ] at N2
    show Zs _ A.in1 (tryCatch (ZbQ [y] (call (.ref fq) [y])) _>>=_) _ _ _
    refine Ze (Zan (ZZ (nof (ko _ _ _ _ _ yv y _ N2 g ⟨x,rx,qy⟩ (Jsx K λ k h3 u s3 H3 ι3 N3 n3 ru K3=>?_)))))
    have pC:=N3.inv.pin (C,Zai "list" #[] 0) (Zj _ (Zj _ (by simp)))
    have pI:=N3.inv.pin (z.heap.objs.size,oI) (Zj _ (Zj _ (by simp)))
    have N4:=N3.pins
    have fI3:=FpOk.at (H':=H3) fI pI.2.1
    have fC3:=FpOk.at (H':=H3) fC pC.2.1
    have ry3:RU X.K ι3 H3 yv y:=RU.mono n3 ⟨x,rx,qy⟩
    show Zs _ A.in1 (ZdB C (λ _=>#[y,u])>>=_) _ _ _
    refine Ze ?_
    refine Zbd pC.1 rfl ?_
    rw[Jf3]
    have N6:=N4.turned (h':=s3.heap.update C (Zaf λ _=>#[y,u])) (t':=s3.toks) fC3 λ b o hb e=>(Zr _ _ (ZK hb)).trans e
    obtain⟨c2,hc2⟩:∃c2,(s3.heap.update C (Zaf λ _=>#[y,u])).get? C=some (Zai "list" #[y,u] c2):=⟨_,Zct pC.1 λ _=>#[y,u]⟩
    refine Zu ⟨Za1 ZL _,Ju6 hh cm ko hG (λ v s' q=>q) hIC (ys.length-1) 1 _ H3 ι3 h3 yv k y u c2 rfl (by omega) (by omega) N6 (hG _ _ n3.ext g) (n3.at hi) fI3 fC3 ?_ hc2 ry3 ru K3⟩
    exact⟨oI,(Zr _ _ (ZK hIC)).trans pI.1,hoc,hod⟩
  | _=>exact Zf K
end
def Xu (gt:IV->IV->Option Bool)(q:Str)(j:Nat)(js:List Nat)(aa:A1)(m:E1):E1:=λ σ h=>(aa σ h).bind λ xs h1=>match h1[j]? with
 | some (.tab q')=>if q'=q then(match xs with
  | [.ref i]=>Xz gt (λ v h'=>m (some v::js.map λ j=>(σ[j]?).join) h') i h1
  | _=>.stuck) else .stuck
 | _=>.stuck
theorem J1f {k:Nat}{q x:Str}{caps:List Str}{js:List Nat}{j:Nat}{a body:Expr}{aa:A1}{m:E1}{lt:IV->IV->Option Bool}{params:ZbO}{scope:ZaU}{p lp pos kp:Pos}(hg:Gl X "min")(hm:X.mg "min"=none)(ha:PAi ce X [a] aa)(cm:∀A:ZI,A.units+64<cLine->CmpK ce X A .Lt lt)(hs:Z8 [a] X.env=[(false,ZaK a X.env)])
  (hr:Room (k+2) X.A)(hcd:W.codeIn X.K X.env.code q=true)(hq:X.env.qual=q++".<locals>.")(B:Q2 X.mg X.base)(hx:Vf params=some x)(S:LamSc X.N X.env.scope.names x caps js scope)
  (hb:∀f cd s' H',PEi ce (cxL X X.A.in1 (x::caps) q scope f cd s' H') body m) :
  PEi ce X (.Call (.Name "min" p) [a] [⟨some "key",.Lambda params body scope lp,kp⟩] pos) (Xu lt q j js aa m):=λ pins s σ H ι σi h Q E N K=>by
 have hcl:Zdp scope X.env=pure (clOf X.env.cells scope.names []):=Jbl λ y hm hk=>N.inv.ok.has y.1 (.inl (S.free y hm hk))
 refine Zad (QC N.inv hg hm rfl ?_)
 refine callWith_kw ?_ (by rw[hs];rfl) (by rw[hs];rfl) rfl rfl
 refine(ha pos).run N K λ xs h1 us s1 H1 ι1 N1 n1 r1 K1=>?_
 cases ej:h1[j]? with
 | none=>rw[ej] at K1;exact Zf K1
 | some ob =>
  rw[ej] at K1
  cases ob with
  | tab q' =>
   dsimp only at K1
   split at K1
   ·rename_i eq
    subst eq
    refine Zbu (Ze (Jov N1 ej hcd hq (Jou hx) hcl B λ f c pm ctv s2 H2 N2 n2 LC=>Ze (Zb2 (Zu ?_))))
    refine Zcl ?_
    have K3:=Kont.more (pl:=[(f,lamO q' params body scope (clOf X.env.cells scope.names []) pm ctv c)]) (Kont.mono K1 n2)
    obtain⟨vs,rv,qs⟩:=r1.mono n2
    match xs,K3 with
    | [.ref i],K3 =>
     obtain⟨w,rfl,ad,rfl,hav⟩:=qs.one_of
     obtain⟨u,rfl,ru⟩:=QU rv
     cases ru
     refine Ju5 (G:=λ H=>QK H q' (.ref c)) (mk:=λ v h'=>m (some v::js.map λ j=>(σi[j]?).join) h') hr.hd (cm _ hr.in1.units) ?_ (λ H H' e g=>g.mono e.frzs) N2 LC hav ?_
     ·intro pl s4 H4 ι4 h4 v u Q4 N4 g4 ru4 K4
      have pf:=N4.inv.pin (f,lamO q' params body scope (clOf X.env.cells scope.names []) pm ctv c) (Zj _ (Zam _ (Zj _ (Zy.mpr rfl))))
      exact Jsk (A:=X.A.in1) N.inv.ok.frames hr.in1 N4 pf.1 g4 hx S (hb f (.ref c)) ru4 K4
     ·exact K3
    | [],K3=>exact Zf K3
    | [.non],K3=>exact Zf K3
    | [.bl _],K3=>exact Zf K3
    | [.int _],K3=>exact Zf K3
    | [.str _],K3=>exact Zf K3
    | [.tup _],K3=>exact Zf K3
    | [.rol _],K3=>exact Zf K3
    | x::_::_,K3=>cases x<;>exact Zf K3
   ·exact Zf K1
  | _=>exact Zf K1
end
def ltL:List Int->List Int->Bool
 | a::as,b::bs=>if a=b then ltL as bs else decide (a<b)
 | _,_=>false
abbrev ivl (l:List (Int×Tok)):List Za:=l.map λ p=>.int p.1 p.2
section
open PySem.AutoSeq1 (wpAny_loadPart')
open PySem.MeetsSeq PySem.MeetsSeq2 PySem.MeetsSeq3 PySem.SeqRoads2
theorem Jq1 (l b:Zd)(as bs:List (Int×Tok))(hl:as.length=bs.length)(n n2:Nat)(dd dd2:Option Zd)(sl sl2:Array (Option Za)) :
  Meets (Ze4.«tuple.__lt__» ⟨[.ref l,.ref b],[]⟩)
   (λ A R s=>s.heap.get? l=some { cls:=.type "tuple",dict:=dd,data:=.seq (ivl as).toArray n,slots:=sl }/\s.heap.get? b=some { cls:=.type "tuple",dict:=dd2,data:=.seq (ivl bs).toArray n2,slots:=sl2 } /\
    R (.ok (.ret (.bool (ltL (as.map (·.1)) (bs.map (·.1)))))) s) :=
 .of_wp λ prog w A R s h=>by
  obtain⟨hp,g,d,tk,os⟩:=s;obtain⟨ho,hb,h⟩:=h
  have f2:=AutoSeq1.sub_tuple_tuple
  wp_walk using Zcs ho,Zcs hb,wpAny_forIn_list _ (λ rest b s'=>b.1=none/\s'=⟨hp,g,d,tk,os⟩/\∃xs ys:List (Int×Tok),xs.length=ys.length/\rest=(ivl xs).zip (ivl ys) /\
   R (.ok (.ret (.bool (ltL (xs.map (·.1)) (ys.map (·.1)))))) ⟨hp,g,d,tk,os⟩) _
  case turn =>
   rintro⟨y,x⟩ rest b s' ⟨hb',rfl,xs,ys,ll,hz,hR⟩
   match xs,ys,ll,hz,hR with
   | p::xs,q::ys,ll,hz,hR =>
    injection hz with hyx hrest
    have hy:ZbM p.1 p.2=y:=(congrArg Prod.fst hyx).symm
    have hx:ZbM q.1 q.2=x:=(congrArg Prod.snd hyx).symm
    subst hy hx
    refine Ze (wpAny_eqBool_int ?_)
    by_cases e:p.1=q.1
    ·rw[beq_iff_eq.mpr e]
     wp_walk
     exact⟨rfl,rfl,xs,ys,by simpa using ll,hrest,by simpa [ltL,e] using hR⟩
    ·rw[beq_eq_false_iff_ne.mpr e]
     have cmp:=CmpOf.ints_lt (prog:=prog) (w:=w) (A:=A.in1) (P:=λ i v=>∃t,v=.int (if i=0 then p.1 else q.1) t) (λ i=>if i=0 then p.1 else q.1) (λ _ _ q=>q)
     have hc:∀(Q:Za->Zc->Prop)(E:Za->Zc->Prop)(s:Zc),Q (.bool (decide (p.1<q.1))) s->Zs (Z6 prog w) A.in1 (ZcR .Lt (.int p.1 p.2) (.int q.1 q.2)) Q E s:=λ Q E s h=>by
      have:=cmp 0 1 (.int p.1 p.2) (.int q.1 q.2) s Q E ⟨p.2,by simp⟩ ⟨q.2,by simp⟩
      simp only[if_true,show ¬(1:Nat)=0 by decide,if_false] at this
      exact this h
     show Zs _ A.in1 (rule _>>=λ _=>ZcR .Lt (.int p.1 p.2) (.int q.1 q.2)>>=λ v=>ret v>>=λ f=>pure (ForInStep.done (some f,()))) _ _ _
     refine Ze (Zew (Ze (hc _ _ _ (Ze (Zu (Zu (Zu ⟨_,rfl,?_⟩)))))))
     simpa [ltL,e] using hR
   | [],ys,ll,hz,hR=>cases hz
   | _::_,[],ll,hz,hR=>cases hz
  case fin =>
   rintro⟨b1,b2⟩ s' ⟨hb',rfl,xs,ys,ll,hz,hR⟩
   simp only at hb'
   subst hb'
   match xs,ys,ll,hz,hR with
   | [],[],_,_,hR =>
    wp_walk
    exact⟨_,rfl,by simpa [Builtin.Tuple.tupleCompareSizes,hl,ltL] using hR⟩
   | _::_,_::_,_,hz,_=>cases hz
  case h =>
   exact⟨rfl,rfl,as,bs,hl,by simp,h⟩
end
theorem Jhe:∀{us:List Za}{ns:List Int},Zb4 us ns->∃l:List (Int×Tok),us=ivl l/\l.map (·.1)=ns
 | [],[],_=>⟨[],rfl,rfl⟩
 | [],_::_,h=>by cases h
 | _::_,[],h=>by cases h
 | u::us,n::ns,h=>by
  cases h
  rename_i t r
  obtain⟨l,e1,e2⟩:=Jhe r
  exact⟨(n,t)::l,by rw[e1];rfl,by rw[<- e2];rfl⟩
def ltT:IV->IV->Option Bool
 | .tup xs,.tup ys=>(match JI xs,JI ys with
  | some as,some bs=>if as.length=bs.length then some (ltL as bs) else none
  | _,_=>none)
 | _,_=>none
section
variable {ce:Str->Option Zd}{X:Cx}
theorem Jyf {A:ZI}(hu:A.units<cLine):CmpK ce X A .Lt ltT:=λ pins ι σi h σ H s k kb u ub b Q E N r rb e q=>by
 cases k with
 | tup xs =>
  cases kb with
  | tup ys =>
   obtain⟨x,rx,a,vs,rfl,sa,ra⟩:=r
   obtain⟨y,ry,c,ws,rfl,sc,rc⟩:=rb
   have ru:u=.ref a:=rx
   have rub:ub=.ref c:=ry
   subst ru rub
   unfold ltT at e
   dsimp only at e
   cases e1:JI xs with
   | none=>rw[e1] at e;cases e
   | some as =>
    cases e2:JI ys with
    | none=>rw[e1,e2] at e;cases e
    | some bs =>
     rw[e1,e2] at e
     dsimp only at e
     split at e
     ·rename_i hl
      cases e
      obtain⟨its,v1,⟨⟨cls,dd,data,sl⟩,ho,hc,n,hd⟩,_⟩:=N.inv.tuple sa
      obtain⟨jts,v2,⟨⟨cls2,dd2,data2,sl2⟩,ho2,hc2,n2,hd2⟩,_⟩:=N.inv.tuple sc
      simp only at hc hd hc2 hd2
      subst hc hd hc2 hd2
      obtain⟨l,rfl,rfl⟩:=Jhe (Vy e1 ra v1)
      obtain⟨m,rfl,rfl⟩:=Jhe (Vy e2 rc v2)
      exact richCompare_meets_room (op:=.Lt) ⟨_,ho,rfl⟩ ⟨_,ho2,rfl⟩ PySem.F.slot_tuple_lt PySem.F.entry_tuple_lt (PySem.F.args_tuple_lt_2 _ _) (Jq1 a c l m (by simpa using hl) n n2 dd dd2 sl sl2)
       ⟨ho,ho2,show ZcH (ltL (l.map (·.1)) (m.map (·.1)))≠Value.notImplemented/\Q (.bool (ltL (l.map (·.1)) (m.map (·.1)))) s from⟨(λ x=>nomatch x),q s.heap s.toks λ _ _ e=>e⟩⟩ hu
     ·cases e
  | _=>cases e
 | _=>cases e
end
section
variable {pr:Z5}{wd:ZP}{B:ZI}{R:ZdK->Zc->Prop}{it:Zd}{fps wrs:List Zd}{n:Nat}{St:Nat->Zag->Prop}
end
section
variable {pr:Z5}{wd:ZP}{B:ZI}{E:Za->Zc->Prop}{z:Zc}{l:Zd}{us:List Za}{k:Nat}{f:Nat->List Int}{Q:Za->Zc->Prop}
end
section
variable {ce:Str->Option Zd}{X:Cx}
end
end L3
namespace L3
open PySem PySem.Spec PyProof.Rows L2 PySem.W
def Jx {α:Type}(lt:Nat->Nat->Bool):KasT α->α
 | .ret a=>a
 | .ask i j k=>Jx lt (k (lt i j))
def Asks {α:Type}(n:Nat)(P:α->Prop):KasT α->Prop
 | .ret a=>P a
 | .ask i j k=>i<n/\j<n/\∀b,Asks n P (k b)
theorem Asks.mono {α:Type}{n:Nat}{P P':α->Prop}(f:∀a,P a->P' a):∀{t:KasT α},Asks n P t->Asks n P' t
 | .ret _,h=>f _ h
 | .ask _ _ _,⟨h1,h2,h3⟩=>⟨h1,h2,λ b=>Asks.mono f (h3 b)⟩
theorem Asks.bind {α β:Type}{n:Nat}{P:α->Prop}{P':β->Prop}{f:α->KasT β}(hf:∀a,P a->Asks n P' (f a)):∀{t:KasT α},Asks n P t->Asks n P' (t.bind f)
 | .ret _,h=>hf _ h
 | .ask _ _ _,⟨h1,h2,h3⟩=>⟨h1,h2,λ b=>Asks.bind hf (h3 b)⟩
theorem Asks.run {α:Type}{n:Nat}{P:α->Prop}{lt:Nat->Nat->Bool}:∀{t:KasT α},Asks n P t->P (Jx lt t)
 | .ret _,h=>h
 | .ask i j k,⟨_,_,h⟩=>Asks.run (t:=k (lt i j)) (h (lt i j))
theorem Asks.wp {α:Type}{n:Nat}{P:α->Prop}{lt:Nat->Nat->Bool}{cmp:Nat->Nat->(Bool->Zc->Prop)->Zc->Prop}{Q:α->Zc->Prop}{s:Zc}(hc:∀i j,i<n->j<n->∀C:Bool->Zc->Prop,C (lt i j) s->cmp i j C s) :
  ∀{t:KasT α},Asks n P t->Q (Jx lt t) s->t.kasWp cmp Q s
 | .ret _,_,q=>q
 | .ask i j k,⟨h1,h2,h3⟩,q=>hc i j h1 h2 _ (Asks.wp (t:=k (lt i j)) hc (h3 (lt i j)) q)
def Bd (n:Nat)(p:Array Nat):Prop:=0<n/\p.toList.Perm (ZF n)
theorem Bd.at {n:Nat}{p:Array Nat}(h:Bd n p)(i:Nat):p.getD i 0<n:=by
 by_cases hi:i<p.size
 ·rw[ZaS,Zcd hi]
  have:p[i]∈p.toList:=by simp
  exact Zar.mp (h.2.mem_iff.mp this)
 ·rw[ZaS,Array.getElem?_eq_none (by omega)]
  exact h.1
theorem Ji4 {n:Nat}{p:Array Nat}(h:Bd n p):∀f m,Asks n (λ _=>True) (ZbH p f m)
 | 0,_=>trivial
 | f+1,m=>⟨h.at _,h.at _,λ b=>by
   dsimp only
   split
   ·trivial
   ·exact Ji4 h f _⟩
theorem Je3 {n:Nat}{p:Array Nat}(h:Bd n p)(k:Nat):∀f l r,Asks n (λ _=>True) (Zdk p k f l r)
 | 0,_,_=>trivial
 | f+1,l,r=>by
  unfold Zdk
  split
  ·trivial
  ·exact⟨h.at _,h.at _,λ b=>by
    dsimp only
    split
    ·exact Je3 h k f _ _
    ·exact Je3 h k f _ _⟩
theorem Bd.perm {n:Nat}{p q:Array Nat}(h:Bd n p)(r:q.Perm p):Bd n q:=⟨h.1,(Array.perm_iff_toList_perm.mp r).trans h.2⟩
theorem Bd.rev {n:Nat}{p:Array Nat}(h:Bd n p)(i j:Nat):Bd n (Zb5 p i j):=h.perm (mirror_perm _ _ _ _)
theorem Jds {n:Nat}:∀f (p:Array Nat) m q,Bd n p->Asks n (λ r=>Bd n r.1) (ZcT f p m q)
 | 0,_,_,_,h=>h
 | f+1,p,m,q,h=>⟨h.at _,h.at _,λ b=>by
   dsimp only
   split
   ·split
    ·exact Jds f _ _ _ (h.rev _ _)
    ·exact Jds f _ _ _ h
   ·exact⟨h.at _,h.at _,λ d=>by
     dsimp only
     split
     ·exact h
     ·exact Jds f _ _ _ h⟩⟩
theorem Jit {n:Nat}{p:Array Nat}(h:Bd n p)(m r:Nat):Asks n (λ r=>Bd n r.2) (Zen m r p):=by
 unfold Zen
 refine Asks.bind (P:=λ _=>True) (λ x _=>?_) (Ji4 (h.rev _ _) _ _)
 exact h.rev _ _
theorem Jdt {n:Nat}{p:Array Nat}(h:Bd n p)(m r:Nat):Asks n (λ r=>Bd n r.2) (ZcD m r p) :=
 Asks.bind (λ x hx=>by
  split
  ·exact Jit (hx.rev _ _) _ _
  ·exact Jit hx _ _) (Jds _ _ _ _ h)
theorem Jp5 {n:Nat}{p:Array Nat}(h:Bd n p)(r:Nat):Asks n (λ r=>Bd n r.2) (ZdC r p) :=
 Asks.bind (λ m _=>by
  split
  ·exact h
  ·split
   ·exact⟨h.at _,h.at _,λ b=>by
     dsimp only
     split
     ·exact h
     ·exact Jdt (h.rev _ _) _ _⟩
   ·exact Jdt h _ _) (Ji4 h _ _)
theorem Joi {n:Nat}:∀f (p:Array Nat) k,Bd n p->Asks n (Bd n) (kas_bin f p k)
 | 0,_,_,h=>h
 | f+1,p,k,h=>Asks.bind (λ l _=>Joi f _ _ (h.perm (bubble_perm _ _ _))) (Je3 h k _ _ _)
theorem Jgg {n:Nat}(hn:0<n):Asks n (Bd n) (ZbL n) :=
 Asks.bind (λ r hr=>by
  split
  ·exact Joi _ _ _ hr
  ·exact hr) (Jp5 ⟨hn,List.Perm.refl _⟩ n)
section
variable {prog:Z5}{w:ZP}{A:ZI}{E:Za->Zc->Prop}{s:Zc}{b:Bool}{Q:Bool->Zc->Prop}
end
theorem Jvz {lt:Nat->Nat->Bool}(vs:List Za)(h:vs.length<2):(Jx lt (ZbL vs.length)).toList.map (λ i=>vs.getD i ZR)=vs:=by
 match vs,h with
 | [],_=>simp[ZbL,ZdC,ZbH,KasT.bind,ZcD,ZcT,Zen,Jx,Zb5,mirror,Array.swapIfInBounds]
 | [v],_ =>
  have:=(Jgg (n:=1) (by decide)).run (lt:=lt)
  have e:(Jx lt (ZbL 1)).toList=[0]:=List.perm_singleton.mp this.2
  show(Jx lt (ZbL 1)).toList.map _=_
  rw[e]
  rfl
 | _::_::_,h=>simp at h;omega
section
variable {prog:Z5}{w:ZP}{A:ZI}{E:Za->Zc->Prop}{s:Zc}
end
theorem Jm9 {vs:List V}{us:List Za}(r:Vals vs us):∀p:List Nat,(∀i∈p,i<vs.length)->Vals (p.map λ i=>vs.getD i .non) (p.map λ i=>us.getD i ZR)
 | [],_=>.nil
 | i::p,h=>by
  have hi:=h i (Z3 ..)
  obtain⟨u,eu,ru⟩:=r.get (Zb hi)
  refine .cons ?_ (Jm9 r p λ j hj=>h j (Zm _ hj))
  show L2.RelV (vs.getD i .non) (us.getD i ZR)
  rw[Zi,Zi,Zb hi,eu]
  exact ru
theorem Jo7 {K:W.Frag}{ι:List Zd}{H:Hp}{xs:List IV}{vs:List V}(r:RVs K ι H xs vs):∀p:List Nat,(∀i∈p,i<xs.length)->RVs K ι H (p.map λ i=>xs.getD i .non) (p.map λ i=>vs.getD i .non)
 | [],_=>rfl
 | i::p,h=>by
  have hi:=h i (Z3 ..)
  obtain⟨v,ev,rv⟩:=r.get (Zb hi)
  refine⟨_,_,rfl,?_,Jo7 r p λ j hj=>h j (Zm _ hj)⟩
  show RV K ι H (xs.getD i .non) (vs.getD i .non)
  rw[Zi,Zi,Zb hi,ev]
  exact rv
section
variable {ce:Str->Option Zd}{X:Cx}
end
theorem Xy {α β:Type}{lt:Nat->Nat->Bool}{f:α->KasT β}:∀(t:KasT α),Jx lt (t.bind f)=Jx lt (f (Jx lt t))
 | .ret _=>rfl
 | .ask i j k=>Xy (k (lt i j))
section
variable {kf:Nat->Int}{p:Array Nat}{n i j:Nat}
abbrev ltF (kf:Nat->Int)(i j:Nat):Bool:=decide (kf i<kf j)
def kAt (kf:Nat->Int)(p:Array Nat)(i:Nat):Int:=kf (p.getD i 0)
def Ris (kf:Nat->Int)(p:Array Nat)(n:Nat):Prop:=∀i j,i<=j->j<n->kAt kf p i<=kAt kf p j
def Fal (kf:Nat->Int)(p:Array Nat)(n:Nat):Prop:=∀i j,i<=j->j<n->kAt kf p j<=kAt kf p i
theorem Yi {q:Array Nat}(h:p[i]?=q[j]?):kAt kf p i=kAt kf q j:=by
 unfold kAt
 rw[ZaS,ZaS,h]
theorem Jnx (hj:j<=p.size)(m:Nat):kAt kf (Zb5 p i j) m=if i<=m/\m<j then kAt kf p (i+j-1-m) else kAt kf p m:=by
 have e:=getElem?_mirror_all (i:=i) hj m
 split at e
 ·rename_i c;rw[if_pos c];exact Yi e
 ·rename_i c;rw[if_neg c];exact Yi e
theorem Jsf {k d:Nat}(hs:k<p.size)(hd:d<=k)(m:Nat):kAt kf (bubble p k d) m=if m=k-d then kAt kf p k else if k-d<m/\m<=k then kAt kf p (m-1) else kAt kf p m:=by
 have e:=getElem?_bubble hs d hd m
 split at e
 ·rename_i c;rw[if_pos c];exact Yi e
 ·rename_i c
  rw[if_neg c]
  split at e
  ·rename_i c;rw[if_pos c];exact Yi e
  ·rename_i c;rw[if_neg c];exact Yi e
theorem Je8 (hj:j<=p.size)(h:∀m,i<=m->m<j->kAt kf p m=kAt kf p (j-1))(m:Nat):kAt kf (Zb5 p i j) m=kAt kf p m:=by
 rw[Jnx hj]
 split
 ·rw[h _ (by omega) (by omega),h m (by omega) (by omega)]
 ·rfl
theorem Ris.succ (h:Ris kf p n)(h1:1<=n)(q:kAt kf p (n-1)<=kAt kf p n):Ris kf p (n+1):=λ i j hij hj=>by
 by_cases e:j<n
 ·exact h i j hij e
 ·obtain rfl:j=n:=by omega
  by_cases e2:i=j
  ·subst e2;exact ZaO _
  ·exact ZbI (h i (j-1) (by omega) (by omega)) q
theorem Fal.succ (h:Fal kf p n)(h1:1<=n)(q:kAt kf p n<=kAt kf p (n-1)):Fal kf p (n+1):=λ i j hij hj=>by
 by_cases e:j<n
 ·exact h i j hij e
 ·obtain rfl:j=n:=by omega
  by_cases e2:i=j
  ·subst e2;exact ZaO _
  ·exact ZbI q (h i (j-1) (by omega) (by omega))
theorem Jn5:∀(f n:Nat),1<=n->Ris kf p n->n<=Jx (ltF kf) (ZbH p f n)/\Jx (ltF kf) (ZbH p f n)<=n+f/\Ris kf p (Jx (ltF kf) (ZbH p f n))/\(Jx (ltF kf) (ZbH p f n)=n+f∨kAt kf p (Jx (ltF kf) (ZbH p f n))<kAt kf p (Jx (ltF kf) (ZbH p f n)-1))
 | 0,n,_,h=>⟨Zl _,Zl _,h,.inl rfl⟩
 | f+1,n,h1,h=>by
  show n<=Jx (ltF kf) (if decide (kAt kf p n<kAt kf p (n-1))=true then .ret n else ZbH p f (n+1))/\_
  have e:Jx (ltF kf) (ZbH p (f+1) n)=Jx (ltF kf) (if decide (kAt kf p n<kAt kf p (n-1))=true then .ret n else ZbH p f (n+1)):=rfl
  rw[e]
  split
  ·rename_i c
   exact⟨Zl _,by show n<=_;omega,h,.inr (of_decide_eq_true c)⟩
  ·rename_i c
   have c:¬kAt kf p n<kAt kf p (n-1):=by simpa using c
   obtain⟨a,b,d,g⟩:=Jn5 f (n+1) (by omega) (h.succ h1 (by omega))
   exact⟨by omega,by omega,d,g.imp (λ z=>by omega) id⟩
structure Dn (kf:Nat->Int)(p:Array Nat)(n q:Nat):Prop where
 f:Fal kf p n
 q1:q+1<=n
 e:∀m,n-(q+1)<=m->m<n->kAt kf p m=kAt kf p (n-1)
theorem Jf6 {z:Nat}:∀(f:Nat)(p:Array Nat)(n q:Nat),p.size=z->n+f<=z->Dn kf p n q->∀r,Jx (ltF kf) (ZcT f p n q)=r->r.1.size=z/\n<=r.2.1/\r.2.1<=n+f/\Dn kf r.1 r.2.1 r.2.2
 | 0,p,n,q,hz,hf,d,r,e=>by subst e;exact⟨hz,Zl _,Zl _,d⟩
 | f+1,p,n,q,hz,hf,d,r,e=>by
  have dq:=d.q1
  have e':Jx (ltF kf) (if decide (kAt kf p n<kAt kf p (n-1))=true then(if q>0 then ZcT f (Zb5 p (n-(q+1)) n) (n+1) 0 else ZcT f p (n+1) 0)
   else .ask (p.getD (n-1) 0) (p.getD n 0) λ d=>if d=true then .ret (p,n,q) else ZcT f p (n+1) (q+1))=r:=e
  split at e'
  ·rename_i c
   have c:kAt kf p n<kAt kf p (n-1):=by simpa using c
   split at e'
   ·have same:=λ m=>Je8 (kf:=kf) (i:=n-(q+1)) (j:=n) (p:=p) (by omega) d.e m
    have d2:Dn kf (Zb5 p (n-(q+1)) n) (n+1) 0:=by
     refine⟨λ i j hij hj=>?_,by omega,λ m h1 h2=>by rw[show m=n+1-1 by omega]⟩
     rw[same,same]
     exact d.f.succ (by omega) (by omega) i j hij hj
    obtain⟨a1,a2,a3,a4⟩:=Jf6 f _ (n+1) 0 ((ZcU _ _ _ _).trans hz) (by omega) d2 r e'
    exact⟨a1,by omega,by omega,a4⟩
   ·have d2:Dn kf p (n+1) 0:=⟨d.f.succ (by omega) (by omega),by omega,λ m h1 h2=>by rw[show m=n+1-1 by omega]⟩
    obtain⟨a1,a2,a3,a4⟩:=Jf6 f _ (n+1) 0 hz (by omega) d2 r e'
    exact⟨a1,by omega,by omega,a4⟩
  ·rename_i c
   have c:¬kAt kf p n<kAt kf p (n-1):=by simpa using c
   have e'':Jx (ltF kf) (if decide (kAt kf p (n-1)<kAt kf p n)=true then .ret (p,n,q) else ZcT f p (n+1) (q+1))=r:=e'
   split at e''
   ·subst e''
    exact⟨hz,Zl _,by show n<=_;omega,d⟩
   ·rename_i c2
    have c2:¬kAt kf p (n-1)<kAt kf p n:=by simpa using c2
    have d2:Dn kf p (n+1) (q+1):=by
     refine⟨d.f.succ (by omega) (by omega),by omega,λ m h1 h2=>?_⟩
     by_cases em:m=n
     ·subst em;rfl
     ·rw[d.e m (by omega) (by omega)]
      show _=kAt kf p n
      omega
    obtain⟨a1,a2,a3,a4⟩:=Jf6 f _ (n+1) (q+1) hz (by omega) d2 r e''
    exact⟨a1,by omega,by omega,a4⟩
theorem Jmp {m r:Nat}(h1:1<=m)(hm:m<=r)(hr:r<=p.size)(h:Fal kf p m):∀x,Jx (ltF kf) (Zen m r p)=x->x.2.size=p.size/\1<=x.1/\x.1<=r/\Ris kf x.2 x.1:=by
 intro x e
 have e:Jx (ltF kf) ((ZbH (Zb5 p 0 m) (r-m) m).bind λ k=>.ret (k,Zb5 p 0 m))=x:=e
 rw[Xy] at e
 have rs:Ris kf (Zb5 p 0 m) m:=λ i j hij hj=>by
  rw[Jnx (by omega),Jnx (by omega),if_pos (by omega),if_pos (by omega)]
  exact h _ _ (by omega) (by omega)
 obtain⟨a,b,c,_⟩:=Jn5 (r-m) m h1 rs
 subst e
 exact⟨ZcU _ _ _ _,by show 1<=Jx (ltF kf) (ZbH (Zb5 p 0 m) (r-m) m);omega,by show Jx (ltF kf) (ZbH (Zb5 p 0 m) (r-m) m)<=r;omega,c⟩
theorem Jfp {m r:Nat}(hm:m+1<=r)(hr:r<=p.size)(h:Fal kf p (m+1)):∀x,Jx (ltF kf) (ZcD m r p)=x->x.2.size=p.size/\1<=x.1/\x.1<=r/\Ris kf x.2 x.1:=by
 intro x e
 unfold ZcD at e
 rw[Xy] at e
 obtain⟨a1,a2,a3,a4⟩:=Jf6 (z:=p.size) (r-(m+1)) p (m+1) 0 rfl (by omega) ⟨h,by omega,λ k h1 h2=>by rw[show k=m+1-1 by omega]⟩ _ rfl
 generalize Jx (ltF kf) (ZcT (r-(m+1)) p (m+1) 0)=y at a1 a2 a3 a4 e
 have q1:=a4.q1
 split at e
 ·have same:=λ k=>Je8 (kf:=kf) (i:=y.2.1-(y.2.2+1)) (j:=y.2.1) (p:=y.1) (by omega) a4.e k
  have:=Jmp (m:=y.2.1) (r:=r) (p:=Zb5 y.1 (y.2.1-(y.2.2+1)) y.2.1) (by omega) (by omega) (by show r<=(mirror _ _ _ _).size;rw[ZcU];omega) (λ i j hij hj=>by rw[same,same];exact a4.f i j hij hj) x e
  rw[show(Zb5 y.1 (y.2.1-(y.2.2+1)) y.2.1).size=y.1.size from ZcU _ _ _ _,a1] at this
  exact this
 ·have:=Jmp (m:=y.2.1) (r:=r) (p:=y.1) (by omega) (by omega) (by omega) a4.f x e
  rw[a1] at this
  exact this
theorem Js7 {r:Nat}(h1:1<=r)(hr:r<=p.size):∀x,Jx (ltF kf) (ZdC r p)=x->x.2.size=p.size/\1<=x.1/\x.1<=r/\Ris kf x.2 x.1:=by
 intro x e
 unfold ZdC at e
 rw[Xy] at e
 obtain⟨a,b,c,d⟩:=Jn5 (kf:=kf) (p:=p) (r-1) 1 (Zl _) (λ i j hij hj=>by
  obtain rfl:j=0:=by omega
  obtain rfl:i=0:=by omega
  exact ZaO _)
 generalize Jx (ltF kf) (ZbH p (r-1) 1)=n at a b c d e
 split at e
 ·subst e;exact⟨rfl,a,by show n<=r;omega,c⟩
 ·rename_i hn
  have hn:n≠r:=by simpa using hn
  have dn:kAt kf p n<kAt kf p (n-1):=d.resolve_left (by omega)
  split at e
  ·have e':Jx (ltF kf) (if decide (kAt kf p 0<kAt kf p (n-1))=true then .ret (n,p) else ZcD n r (Zb5 p 0 n))=x:=e
   split at e'
   ·subst e';exact⟨rfl,a,by show n<=r;omega,c⟩
   ·rename_i cc
    have cc:¬kAt kf p 0<kAt kf p (n-1):=by simpa using cc
    have al:∀m,0<=m->m<n->kAt kf p m=kAt kf p (n-1):=λ m _ hm=>by
     have:=c 0 m (by omega) hm
     have:=c m (n-1) (by omega) (by omega)
     omega
    have same:=λ k=>Je8 (kf:=kf) (i:=0) (j:=n) (p:=p) (by omega) al k
    have:=Jfp (m:=n) (r:=r) (p:=Zb5 p 0 n) (by omega) (by show r<=(mirror _ _ _ _).size;rw[ZcU];omega) (λ i j hij hj=>by
     rw[same,same]
     by_cases ej:j<n
     ·rw[al i (by omega) (by omega),al j (by omega) ej];exact ZaO _
     ·obtain rfl:j=n:=by omega
      by_cases ei:i=j
      ·subst ei;exact ZaO _
      ·rw[al i (by omega) (by omega)];omega) x e'
    rw[show(Zb5 p 0 n).size=p.size from ZcU _ _ _ _] at this
    exact this
  ·obtain rfl:n=1:=by omega
   refine Jfp (m:=1) (r:=r) (p:=p) (by omega) hr (λ i j hij hj=>?_) x e
   have dn:kAt kf p 1<kAt kf p 0:=dn
   match i,j with
   | 0,0=>exact ZaO _
   | 0,1=>omega
   | 1,1=>exact ZaO _
   | _,j+2=>omega
   | i+2,_=>omega
   | 1,0=>omega
theorem Jhp {k:Nat}(h:Ris kf p k):∀(f l r:Nat),r<=k->l<=r->r-l<=f->(∀i,i<l->kAt kf p i<=kAt kf p k)->(∀i,r<=i->i<k->kAt kf p k<kAt kf p i)->∀x,Jx (ltF kf) (Zdk p k f l r)=x->x<=k/\(∀i,i<x->kAt kf p i<=kAt kf p k)/\∀i,x<=i->i<k->kAt kf p k<kAt kf p i
 | 0,l,r,hr,hl,hf,h1,h2,x,e=>by
  obtain rfl:l=r:=by omega
  subst e
  exact⟨hr,h1,h2⟩
 | f+1,l,r,hr,hl,hf,h1,h2,x,e=>by
  unfold Zdk at e
  split at e
  ·obtain rfl:l=r:=by omega
   subst e
   exact⟨hr,h1,h2⟩
  ·have e':Jx (ltF kf) (if decide (kAt kf p k<kAt kf p ((l+r)/2))=true then Zdk p k f l ((l+r)/2) else Zdk p k f ((l+r)/2+1) r)=x:=e
   split at e'
   ·rename_i c
    have c:kAt kf p k<kAt kf p ((l+r)/2):=by simpa using c
    exact Jhp h f _ _ (by omega) (by omega) (by omega) h1 (λ i a b=>Int.lt_of_lt_of_le c (h _ _ a b)) x e'
   ·rename_i c
    have c:¬kAt kf p k<kAt kf p ((l+r)/2):=by simpa using c
    exact Jhp h f _ _ hr (by omega) (by omega) (λ i a=>ZbI (h i _ (show i<=(l+r)/2 by omega) (by omega)) (by omega)) h2 x e'
theorem Js6:∀(f:Nat)(p:Array Nat)(k:Nat),k+f<=p.size->Ris kf p k->∀x,Jx (ltF kf) (kas_bin f p k)=x->Ris kf x (k+f)
 | 0,p,k,_,h,x,e=>by subst e;exact h
 | f+1,p,k,hk,h,x,e=>by
  unfold kas_bin at e
  rw[Xy] at e
  obtain⟨a,b,c⟩:=Jhp h k 0 k (Zl _) (ZT _) (Zl _) (λ i q=>by omega) (λ i q r=>by omega) _ rfl
  generalize Jx (ltF kf) (Zdk p k k 0 k)=l at a b c e
  have:=Js6 f (bubble p k (k-l)) (k+1) (by rw[bubble_size];omega) (λ i j hij hj=>by
   have ed:k-(k-l)=l:=by omega
   rw[Jsf (by omega) (by omega),Jsf (by omega) (by omega),ed]
   split
   ·rename_i ei
    split
    ·exact ZaO _
    ·split
     ·exact Int.le_of_lt (c _ (by omega) (by omega))
     ·omega
   ·split
    ·rename_i n1 y
     split
     ·omega
     ·split
      ·exact h _ _ (by omega) (by omega)
      ·omega
    ·split
     ·exact b i (by omega)
     ·split
      ·exact h _ _ (by omega) (by omega)
      ·exact h _ _ hij (by omega)) x e
  rwa [show k+(f+1)=k+1+f by omega]
theorem Jvj {n:Nat}(hn:0<n):Ris kf (Jx (ltF kf) (ZbL n)) n:=by
 unfold ZbL
 rw[Xy]
 have hz:(ZaI (ZF n)).size=n:=by simp
 obtain⟨a,b,c,d⟩:=Js7 (kf:=kf) (p:=ZaI (ZF n)) (r:=n) (by omega) (by rw[hz];exact Zl _) _ rfl
 generalize Jx (ltF kf) (ZdC n (ZaI (ZF n)))=y at a b c d
 rw[hz] at a
 split
 ·have em:max y.1 1=y.1:=by omega
  rw[em]
  have:=Js6 (kf:=kf) (n-y.1) y.2 y.1 (by omega) d _ rfl
  rwa [show y.1+(n-y.1)=n by omega] at this
 ·obtain e:y.1=n:=by omega
  rw[<- e]
  exact d
end
def ordK (ks:List Int)(n:Nat):List Nat:=(Jx (ltF λ i=>ks.getD i 0) (ZbL n)).toList
theorem Jhn (ks:List Int){n:Nat}(hn:0<n):(ordK ks n).Perm (ZF n):=((Jgg hn).run (lt:=ltF λ i=>ks.getD i 0)).2
theorem Jf4 (ks:List Int):ordK ks 0=[]:=by simp[ordK,ZbL,ZdC,ZbH,KasT.bind,ZcD,ZcT,Zen,Jx,Zb5,mirror,Array.swapIfInBounds]
theorem Yp (ks:List Int){n:Nat}:∀i∈ordK ks n,i<n:=by
 intro i hi
 rcases Zdq n with e|e
 ·subst e
  rw[Jf4] at hi
  cases hi
 ·exact Zar.mp ((Jhn ks e).mem_iff.mp hi)
theorem Jo3 (ks:List Int)(n:Nat):(ordK ks n).length=n:=by
 rcases Zdq n with e|e
 ·subst e
  rw[Jf4]
  rfl
 ·rw[(Jhn ks e).length_eq,Zb0]
theorem Ju9 (ks:List Int)(n:Nat):(ordK ks n).Pairwise λ i j=>ks.getD i 0<=ks.getD j 0:=by
 rcases Zdq n with e|e
 ·subst e
  rw[Jf4]
  exact .nil
 ·have r:=Jvj (kf:=λ i=>ks.getD i 0) e
  have l:=Jo3 ks n
  rw[Zce]
  intro i j hi hj hij
  have:=r i j (by omega) (by omega)
  have g:∀(m:Nat)(hm:m<(ordK ks n).length),(Jx (ltF λ i=>ks.getD i 0) (ZbL n)).getD m 0=(ordK ks n)[m]:=λ m hm=>by
   have hm':m<(Jx (ltF λ i=>ks.getD i 0) (ZbL n)).size:=by rw[<- Zba];exact hm
   rw[ZaS,Zcd hm']
   rfl
  unfold kAt at this
  rw[g i hi,g j hj] at this
  exact this
theorem Jr8 {X:Cx}{pins:List (Zd×Obj)}{σ:L2.St}{H:Hp}{s:Zc}{h':Zag}{t':Nat}{it:Zd}{o:HO}(I:Inv X pins σ H s)(k:∀b u,b≠it->s.heap.get? b=some u->h'.get? b=some u)(F:FpOk X pins H it)(new:JG X.prog X.w (upd H it o) h' it o) :
  Inv X pins σ (upd H it o) { s with heap:=h',toks:=t' }:=by
 obtain⟨hn,hL,_,h1,h2,h3⟩:=F
 have nit:∀b u,H b=some u->b≠it:=λ b u e z=>by rw[z,hn] at e;cases e
 refine I.step (g':=s.gens) (d':=s.drawn) (ch:=[it]) (λ b hb=>?_) (λ b o _ _ hc e _=>k b o (λ z=>hc (by simp[z])) e) (λ b o _ _ hc e _=>⟨o.slots,k b o (λ z=>hc (by simp[z])) e⟩) (λ b o hc _ n=>by rw[Jp (λ z=>hc (by simp[z]))];exact n)
  (λ b o hc e=>⟨o,k b o (λ z=>hc (by simp[z])) e⟩) (λ b _ e=>by rw[Jp (nit b _ e)];exact e) (λ b _ _ e=>by rw[Jp (nit b _ e)];exact e) (λ b ps e=>⟨#[],by rw[Jp (nit b _ e),e];simp⟩) (λ m hm=>?_) (λ b u e=>?_) I.bare
 ·have e:b=it:=by simpa using hb
  subst e
  exact⟨h1,hL,h2,h3⟩
 ·obtain⟨o,es,ep,ho,r⟩:=hm
  exact⟨o,es,ep,k _ o (ZK hL) ho,r⟩
 ·by_cases hb:b=it
  ·subst hb
   rw[J7] at e
   cases e
   exact new
  ·rw[Jp hb] at e
   refine(I.hok b u e).stay (λ c v hc q=>k c v ?_ q) (λ c q=>by rw[Jp (nit c _ q)];exact q) λ c _ q=>by rw[Jp (nit c _ q)];exact q
   rcases hc with z|z
   ·rw[z];exact hb
   ·exact nit c _ z
def QA (mk:IV->IH->Res IV):List IV->List Int->IH->Res (List Int)
 | [],ks,h=>.ok ks h
 | y::r,ks,h=>(mk y h).nx.bind λ k h'=>match k with
  | .int n=>QA mk r (ks++[n]) h'
  | _=>.stuck
def rvB {α:Type}(b:Bool)(l:List α):List α:=if b then l.reverse else l
theorem QP {α:Type}{b:Bool}{l:List α}:(rvB b l).length=l.length:=by cases b;rfl;exact Zb6
def Yt (b:Bool)(ys:List IV)(ks:List Int)(h:IH):Res IV:=.ok (.ref h.length) (h++[.lst (rvB b ((ordK ks ys.length).map λ i=>ys.getD i .non))])
def XF (b:Bool)(ys:List IV)(ks:List Int)(h:IH):Res IV:=Yt b (rvB b ys) (rvB b ks) h
theorem RVs.rvB {K:W.Frag}{ι:List Zd}{H:Hp}{b:Bool}{xs:List IV}{vs:List V}(h:RVs K ι H xs vs):RVs K ι H (L3.rvB b xs) (L3.rvB b vs):=by cases b;exact h;exact h.rev
theorem Jpj {b:Bool}{ws:List V}{its:List Za}(h:Vals ws its):Vals (rvB b ws) (rvB b its):=by
 cases b
 ·exact h
 ·exact h.reverse
section
variable {ce:Str->Option Zd}{X:Cx}
section
variable {A:ZI}{Q:Za->Zc->Prop}{E:Za->Zc->Prop}{P:PySem.Fin->Zc->Prop}{pins:List (Zd×Obj)}{σi:ISt}{σ:L2.St}{G:Hp->Prop}{fq D kS:Zd}{mk:IV->IH->Res IV}{ys:List IV}{ws:List V}{its:List Za}{ks:List Int}{e e1:Nat}{H:Hp}{ι:List Zd}{h:IH}{s:Zc}
theorem Jpd {b:Bool}{kA:Array Za}{st:SortSt}(N:Now ce X pins ι σi h σ H s)(fD:FpOk X pins H D)(fK:FpOk X pins H kS)(hDK:D≠kS)(gD:s.heap.get? D=some (Zai "list" #[] e1))(gK:s.heap.get? kS=some (Zai "list" kA e))(hz:kA.size<64)
  (rv:Vals ws its)(r3:RVs X.K ι H ys ws)(h64:ys.length<64)(hout:(arrOf st).map (·.2)=ZaI ((ordK ks ys.length).map λ i=>its.getD i ZR))(hf:failedOf st=none)(hP:∀s',Q (.ref D) s'->P (.done (.ret .none)) s')(K:Kont ce X RU pins ι σi σ H (Yt b ys ks h) Q E) :
  Zs (Z6 X.prog X.w) A (ksk_tail D b e1 (.ref kS) st) P E s:=by
 have lo:=Jo3 ks ys.length
 have lt:=Yp ks (n:=ys.length)
 have l1:=r3.length
 have l2:=rv.length
 have s1:∀b u,b≠kS->s.heap.get? b=some u->(s.heap.update kS (Zaf λ _=>(#[]:Array Za))).get? b=some u:=λ b u nb q=>(Zr _ _ (ZK nb)).trans q
 have gD1:=s1 D _ hDK gD
 have N1:=N.turned (h':=s.heap.update kS (Zaf λ _=>(#[]:Array Za))) (t':=s.toks) fK s1
 have hsz:(ZaI (rvB b ((ordK ks ys.length).map λ i=>its.getD i ZR))).size=ys.length:=by rw[Zq,QP,Zh,lo]
 have hrv:(if b=true then(ZaI ((ordK ks ys.length).map λ i=>its.getD i ZR)).reverse else ZaI ((ordK ks ys.length).map λ i=>its.getD i ZR))=ZaI (rvB b ((ordK ks ys.length).map λ i=>its.getD i ZR)):=by cases b<;>simp[rvB]
 unfold ksk_tail
 try dsimp only
 rw[hout,hrv]
 refine Ze (Zd1 gK rfl ?_ (by rw[Zbl];omega) (ZT _))
 refine Ze (Zbe ?_)
 refine Ze (seqEpoch_at gD1 rfl ?_)
 refine Ze (Zd1 gD1 rfl ?_ (ZT _) (by rw[hsz,Zbl];omega))
 rw[hf]
 simp only[bne_self_eq_false,ZU,if_false]
 refine Zu (hP _ ?_)
 obtain⟨c2,hc2⟩:∃c2,((s.heap.update kS (Zaf λ _=>(#[]:Array Za))).update D (Zaf λ _=>ZaI (rvB b ((ordK ks ys.length).map λ i=>its.getD i ZR)))).get? D=some (Zai "list" (ZaI (rvB b ((ordK ks ys.length).map λ i=>its.getD i ZR))) c2):=⟨_,Zct gD1 λ _=>ZaI (rvB b ((ordK ks ys.length).map λ i=>its.getD i ZR))⟩
 have hl:(rvB b ((ordK ks ys.length).map λ i=>ws.getD i V.non)).length<=sizeLine:=by rw[QP,Zh,lo,Zbl];omega
 have I':=Jr8 N1.inv (o:=.lst (rvB b ((ordK ks ys.length).map λ i=>ws.getD i V.non))) (h':=(s.heap.update kS (Zaf λ _=>(#[]:Array Za))).update D (Zaf λ _=>ZaI (rvB b ((ordK ks ys.length).map λ i=>its.getD i ZR)))) (t':=s.toks) (λ b u nb q=>(Zr _ _ (ZK nb)).trans q) fD
  ⟨hl,rvB b ((ordK ks ys.length).map λ i=>its.getD i ZR),c2,Jpj (Jm9 rv _ (λ i hi=>by have:=lt i hi;omega)),hc2⟩
 exact finA N1 K D fD.1 ⟨_,J7,RVs.new fD.1 (Jo7 r3 _ lt).rvB⟩ _ _ I' rfl
theorem Jvk {b:Bool}{us:List Za}{ns:List Int}(h:Zb4 us ns):Zb4 (rvB b us) (rvB b ns):=by
 cases b
 ·exact h
 ·exact h.reverse
theorem J0o {b:Bool}{kA:Array Za}{its:List Za}(h:kA.size=its.length):(if b=true then(kA.zip its.toArray).reverse else kA.zip its.toArray)=(rvB b kA.toList).toArray.zip (rvB b its).toArray:=by
 cases b with
 | false=>simp[rvB]
 | true =>
  apply Array.toList_inj.mp
  simp only[rvB,if_true,Array.toList_reverse,Array.toList_zip]
  exact List.reverse_zipWith (by simpa using h)
theorem Jz4 {b:Bool}{kA:Array Za}(N:Now ce X pins ι σi h σ H s)(fD:FpOk X pins H D)(fK:FpOk X pins H kS)(hDK:D≠kS)(gD:s.heap.get? D=some (Zai "list" #[] e1))(gK:s.heap.get? kS=some (Zai "list" kA e))(hk:Zb4 kA.toList ks)(lk:ks.length=ys.length)
  (rv:Vals ws its)(r3:RVs X.K ι H ys ws)(h64:ys.length<64)(hP:∀s',Q (.ref D) s'->P (.done (.ret .none)) s')(K:Kont ce X RU pins ι σi σ H (XF b ys ks h) Q E) :
  Zs (Z6 X.prog X.w) A (ksk_end D b its.toArray e1 (.ref kS) kA) P E s:=by
 have l1:=r3.length
 have l2:=rv.length
 have l3:=hk.length
 have hz:kA.size=its.length:=by rw[<- Zba];omega
 have step:∀t:Sem PySem.Fin,Zs (Z6 X.prog X.w) A t P E s->Zs (Z6 X.prog X.w) A (if b=true then(do let _<-rule "list.sort.reverse";t) else t) P E s:=by
  intro t ht
  split
  ·exact Ze (Zew ht)
  ·exact ht
 unfold ksk_end
 try dsimp only
 refine step _ ?_
 rw[J0o hz]
 have rv':=Jpj (b:=b) rv
 have r3':=r3.rvB (b:=b)
 have hk':=Jvk (b:=b) hk
 have h64':(rvB b ys).length<64:=by rw[QP];exact h64
 have K:Kont ce X RU pins ι σi σ H (Yt b (rvB b ys) (rvB b ks) h) Q E:=K
 have ly:(rvB b ys).length=(rvB b its).length:=by rw[QP,QP];omega
 have lk':(rvB b ks).length=(rvB b its).length:=by rw[QP,QP];omega
 have l4:(rvB b kA.toList).length=(rvB b its).length:=by rw[QP,QP,Zba,hz]
 have z2:its.toArray.size=(rvB b its).length:=by rw[QP,Zq]
 by_cases h2:its.toArray.size<2
 ·rw[if_pos h2,if_pos h2]
  refine Ze (Zu ?_)
  rw[StateT.run_pure]
  refine Ze (Zu ?_)
  try dsimp only
  refine Jpd N fD fK hDK gD gK (by omega) rv' r3' h64' ?_ rfl hP K
  generalize rvB b its=its at *
  generalize rvB b kA.toList=kl at *
  have e1:(arrOf (SortSt.mk' general' (kl.toArray.zip its.toArray) #[] 7 none)).map (·.2)=its.toArray:=by
   apply Array.toList_inj.mp
   show((kl.toArray.zip its.toArray).map (·.2)).toList=_
   rw[Array.toList_map,ksk_zip]
   exact List.map_snd_zip (by rw[List.toList_toArray];omega)
  rw[e1,ly]
  exact congrArg ZaI (Jvz (lt:=ltF λ i=>(rvB b ks).getD i 0) its (by omega)).symm
 ·rw[if_neg h2,if_neg h2]
  rw[Zq] at h2
  rw[ksk_kind hk (by omega)]
  refine Ze (Zu ?_)
  have zk:kA.size<64:=by omega
  have n0:¬(rvB b its).length<2:=by rw[QP];exact h2
  generalize rvB b its=its at *
  generalize rvB b kA.toList=kl at *
  generalize rvB b ks=ks at *
  generalize rvB b ys=ys at *
  generalize rvB b ws=ws at *
  have sp:=Jgg (n:=its.length) (by omega)
  refine Ze (Zae (kat_run (ks:=kl) (vs:=its) (Q:=λ st' s'=>s'=s/\failedOf st'=none/\arrOf st'=(Jx (ltF λ i=>ks.getD i 0) (ZbL its.length)).map (kas_item (kl.toArray.zip its.toArray))) (G:=λ p s'=>s'=s/\p=Jx (ltF λ i=>ks.getD i 0) (ZbL its.length)) l4 (by omega) (by omega)
   (λ p st' s' a1 a2 a3 a4=>⟨a4.1,a3,a4.2▸a2⟩) (Asks.wp (n:=its.length) (lt:=ltF λ i=>ks.getD i 0) (λ i j hi hj C hC=>?_) sp ⟨rfl,rfl⟩)) ?_ λ _ _ e=>e)
  ·unfold kas_ask
   obtain⟨t1,e1⟩:=hk'.get i _ (Zb (show i<ks.length by omega))
   obtain⟨t2,e2⟩:=hk'.get j _ (Zb (show j<ks.length by omega))
   rw[Zi,Zi,e1,e2]
   refine kat_lt_int ?_
   have hC:C (decide (ks.getD i 0<ks.getD j 0)) s:=hC
   rw[Zi,Zi,Zb (show i<ks.length by omega),Zb (show j<ks.length by omega)] at hC
   exact hC
  ·rintro⟨⟨⟩,st'⟩ s' ⟨rfl,hfl,har⟩
   try dsimp only
   refine Jpd N fD fK hDK gD gK zk rv' r3' h64' ?_ hfl hP K
   rw[kat_snds (ks:=kl) (vs:=its) l4 har,ly]
   rfl
theorem Jv1 {b:Bool}(ko:Jt0 ce X A σi σ pins G (.ref fq) mk)(hG:∀H H',Ext H H'->G H->G H')(N:Now ce X pins ι σi h σ H s)(g:G H)(fD:FpOk X pins H D)(fK:FpOk X pins H kS)(hDK:D≠kS)(gD:s.heap.get? D=some (Zai "list" #[] e1))(gK:s.heap.get? kS=some (Zai "list" #[] 0))
  (rv:Vals ws its)(r3:RVs X.K ι H ys ws)(h64:ys.length<64)(hP:∀s',Q (.ref D) s'->P (.done (.ret .none)) s')(K:Kont ce X RU pins ι σi σ H ((QA mk ys [] h).bind (XF b ys)) Q E) :
  Zs (Z6 X.prog X.w) A (ksk_rest D (.ref fq) b its.toArray e1 (.ref kS)) P E s:=by
 have l1:=r3.length
 have l2:=rv.length
 unfold ksk_rest
 refine Ze (Zew ?_)
 rw[List.forIn_toArray]
 refine Ze (ksk_fold (λ j s'=>∃H' ι' h' ks kA e,Now ce X pins ι' σi h' σ H' s'/\G H'/\Nxt ι H ι' H'/\s'.heap.get? D=some (Zai "list" #[] e1)/\s'.heap.get? kS=some (Zai "list" kA e)/\Zb4 kA.toList ks/\ks.length=j/\H' D=none/\H' kS=none/\Kont ce X RU pins ι' σi σ H' ((QA mk (ys.drop j) ks h').bind (XF b ys)) Q E) its 0 s
  ⟨H,ι,h,[],#[],0,N,g,.refl,gD,gK,.nil,rfl,fD.1,fK.1,K⟩ ?step ?done)
 case step =>
  rintro j x s' hx ⟨H',ι',h',ks,kA,e,N',g',n',gD',gK',hk,hlj,hD',hK',K'⟩
  simp only[Nat.zero_add] at hlj K' ⊢
  have fD':=FpOk.at fD hD'
  have fK':=FpOk.at fK hK'
  obtain⟨xv,ex,rx⟩:=Jog rv hx
  obtain⟨yv,eyv,qy⟩:=(r3.mono n').get' ex
  have hj:j<ys.length:=(Zk.mp eyv).1
  have ed:ys.drop j=yv::ys.drop (j+1):=by
   rw[Za8 hj,(Zk.mp eyv).2]
  rw[ed] at K'
  have K':Kont ce X RU pins ι' σi σ H' (((mk yv h').nx.bind λ k h''=>match k with|.int n=>QA mk (ys.drop (j+1)) (ks++[n]) h''|_=>.stuck).bind (XF b ys)) Q E:=K'
  rw[Res.bind_bind] at K'
  have hz:kA.size=j:=by rw[<- Zba,hk.length,hlj]
  have N2:=(N'.pinO gK' fK' λ v z=>by cases z).pinO gD' (FpOk.more (p:=(kS,Zai "list" kA e)) fD' (ZK hDK)) λ v z=>by cases z
  rw[ZQ] at N2
  refine Ze (wpAny_attempt (nof (ko _ _ _ _ _ yv x _ N2 g' ⟨xv,rx,qy⟩ (Jsx K' λ k h3 u s3 H3 ι3 N3 n3 ru K3=>?_))))
  have pK:=N3.inv.pin (kS,Zai "list" kA e) (Zj _ (Zj _ (by simp)))
  have pD:=N3.inv.pin (D,Zai "list" #[] e1) (Zj _ (Zj _ (by simp)))
  have N4:=N3.pins
  cases k with
  | int n =>
   obtain⟨v,rv',ev⟩:=ru
   have ev:v=.int n:=ev
   subst ev
   obtain⟨t,rfl⟩:=rv'
   try dsimp only
   refine Ze (Zd1 pK.1 rfl ?_ (by rw[Zbl];omega) (ZO (Zc7 (Array.size_push ..)) (by rw[Zbl];omega)))
   obtain⟨c2,hc2⟩:∃c2,(s3.heap.update kS (Zaf (·.push (.int n t)))).get? kS=some (Zai "list" (kA.push (.int n t)) c2):=⟨_,Zct pK.1 (·.push (.int n t))⟩
   have s1:∀b u,b≠kS->s3.heap.get? b=some u->(s3.heap.update kS (Zaf (·.push (.int n t)))).get? b=some u:=λ b u nb q=>(Zr _ _ (ZK nb)).trans q
   have N5:=N4.turned (h':=s3.heap.update kS (Zaf (·.push (.int n t)))) (t':=s3.toks) (FpOk.at fK pK.2.1) s1
   refine Zu ⟨rfl,H3,ι3,h3,ks++[n],kA.push (.int n t),c2,N5,hG _ _ n3.ext g',n'.trans n3,s1 D _ hDK pD.1,hc2,by rw[Array.toList_push];exact ksk_snoc hk,by simp[hlj],pD.2.1,pK.2.1,K3⟩
  | _=>exact Zf K3
 case done =>
  rintro s' ⟨H',ι',h',ks,kA,e,N',g',n',gD',gK',hk,hlj,hD',hK',K'⟩
  rw[Nat.zero_add] at hlj K'
  rw[List.drop_of_length_le (by omega)] at K'
  try dsimp only
  refine Ze (listItems_at gK' rfl ?_)
  exact Jz4 N' (FpOk.at fD hD') (FpOk.at fK hK') hDK gD' gK' hk (by omega) rv (r3.mono n') h64 hP K'
theorem Jz5 {b:Bool}{kw:List (Str×Za)}{B:ZI}{h2:Zag}{tk:Nat}(hkw:∀a,Ze4.«list.sort» ⟨[.ref a],kw⟩=ksk_tree a (.ref fq) b)(hak:∀a,Zev "list.sort" ⟨[a],kw⟩)(ko:Jt0 ce X B.in1 σi σ pins G (.ref fq) mk)(hG:∀H H',Ext H H'->G H->G H')(N:Now ce X pins ι σi h σ H s)(g:G H)
  (keep:∀b o,s.heap.get? b=some o->h2.get? b=some o)(le0:s.heap.objs.size<=h2.objs.size)(rv2:Vals ws its)(r3:RVs X.K ι H ys ws)(h64:ys.length<64)(hP:∀D s',Q (.ref D) s'->P (.done (.ret (.ref D))) s')
  (K:Kont ce X RU pins ι σi σ H ((QA mk ys [] h).bind (XF b ys)) Q E):Zs (Z6 X.prog X.w) B (do let l<-newList its;let _<-ZbQ [l] (call (.builtin "list.sort") [l] kw);ret l) P E { s with heap:=h2,toks:=tk }:=by
 have l1:=r3.length
 have l2:=rv2.length
 refine Ze (Zck ?_ (by rw[Zbl];omega))
 have hoL:(h2.push (Zai "list" its.toArray 0)).get? h2.objs.size=some (Zai "list" its.toArray 0):=Zw _ rfl
 have keep3:∀b o,s.heap.get? b=some o->(h2.push (Zai "list" its.toArray 0)).get? b=some o:=λ b o q=>Zg _ (keep b o q)
 have sz3:(h2.push (Zai "list" its.toArray 0)).objs.size=h2.objs.size+1:=ZdQ ..
 show Zs _ _ _ _ _ { s with heap:=h2.push (Zai "list" its.toArray 0),toks:=tk }
 generalize h2.push (Zai "list" its.toArray 0)=h3 at hoL keep3 sz3
 refine Ze (ZZ (wpAny_call_entry_kw slot_list_sort ⟨_,hoL,rfl⟩ entry_list_sort ?body (hak _)))
 case body =>
  show Zs (Z6 X.prog X.w) B.in1 (Ze4.«list.sort» ⟨[.ref h2.objs.size],kw⟩) _ _ _
  rw[hkw]
  unfold ksk_tree
  refine Ze (listItems_at hoL rfl ?_)
  refine Ze (Zd1 hoL rfl ?_ (by rw[Zq,Zbl];omega) (ZT _))
  obtain⟨ep,ho1⟩:∃ep,(h3.update h2.objs.size (Zaf λ _=>(#[]:Array Za))).get? h2.objs.size=some (Zai "list" #[] ep):=⟨_,Zct hoL λ _=>#[]⟩
  refine Ze (seqEpoch_at ho1 rfl ?_)
  refine Ze (wpAny_newTuple ?_ (by show its.length<=_;rw[Zbl];omega))
  refine Ze (Zck ?_ (ZT _))
  refine ZZ ?_
  have sz5:((h3.update h2.objs.size (Zaf λ _=>(#[]:Array Za))).push (Zai "tuple" its.toArray 0)).objs.size=h2.objs.size+2:=by rw[ZdQ,Heap.size_update,sz3]
  obtain⟨kS,hkS⟩:∃kS,kS=((h3.update h2.objs.size (Zaf λ _=>(#[]:Array Za))).push (Zai "tuple" its.toArray 0)).objs.size:=⟨_,rfl⟩
  have gK:(((h3.update h2.objs.size (Zaf λ _=>(#[]:Array Za))).push (Zai "tuple" its.toArray 0)).push (Zai "list" #[] 0)).get? kS=some (Zai "list" #[] 0):=by rw[hkS];exact Zw _ rfl
  have gD:(((h3.update h2.objs.size (Zaf λ _=>(#[]:Array Za))).push (Zai "tuple" its.toArray 0)).push (Zai "list" #[] 0)).get? h2.objs.size=some (Zai "list" #[] ep):=Zg _ (Zg _ ho1)
  have old:∀b o,s.heap.get? b=some o->(((h3.update h2.objs.size (Zaf λ _=>(#[]:Array Za))).push (Zai "tuple" its.toArray 0)).push (Zai "list" #[] 0)).get? b=some o:=λ b o q=>Zg _ (Zg _ ((Zr _ _ (ZaG (ZE (Zv q) le0))).trans (keep3 b o q)))
  rw[<- hkS]
  rw[sz5] at hkS
  have fD:FpOk X pins H h2.objs.size:=N.inv.fpOk le0 (N.inv.hok.fresh le0)
  have le:s.heap.objs.size<=kS:=by rw[hkS];exact ZO le0 (Nat.le_add_right _ _)
  have fK:FpOk X pins H kS:=N.inv.fpOk le (N.inv.hok.fresh le)
  exact Jv1 ko hG (N.keptH (t':=tk) old) g fD fK (by rw[hkS];exact Z1 (Nat.lt_add_of_pos_right (by decide))) gD gK rv2 r3 h64 (λ s' q=>⟨_,rfl,Zu (hP _ _ q)⟩) K
end
end
def VG (x:IV)(h:IH):Option (Nat×List IV):=match x with
 | .ref i=>(match h[i]? with
  | some (.lst xs)=>some (i,xs)
  | _=>none)
 | _=>none
theorem Jiz {x:IV}{h:IH}{i:Nat}{xs:List IV}(e:VG x h=some (i,xs)):x=.ref i/\h[i]?=some (.lst xs):=by
 unfold VG at e
 split at e
 ·split at e
  ·rename_i q
   cases e
   exact⟨rfl,q⟩
  ·cases e
 ·cases e
def X8 (x:IV)(as:List IV)(h:IH):Res IV:=match VG x h,as with
 | some (i,xs),[]=>(match xs[xs.length-1]? with
  | some y=>.ok y (h.set i (.lst xs.dropLast))
  | none=>.stuck)
 | _,_=>.stuck
def XA (x:IV)(as:List IV)(h:IH):Res IV:=match VG x h,as with
 | some (i,xs),[.int k]=>(match JI xs with
  | some ns=>(match ns.findIdx? (· ==k) with
   | some j=>.ok .non (h.set i (.lst (xs.eraseIdx j)))
   | none=>.stuck)
  | none=>.stuck)
 | _,_=>.stuck
section
variable {ce:Str->Option Zd}{X:Cx}
theorem J1z:MtI ce X "list" "list.pop" X8:=by
 intro pins s σ H ι σi h x xs v us Q E N rx rs K
 unfold X8 at K
 split at K
 ·rename_i i zs e
  obtain⟨rfl,hi⟩:=Jiz e
  split at K
  ·rename_i y hy
   obtain⟨xv,rx,a,rfl,ha⟩:=rx
   obtain⟨vs,rv,qs⟩:=rs
   cases (show vs=[] from qs)
   obtain⟨ws,e1,r1⟩:=N.at hi ha
   obtain⟨z,hz,qz⟩:=r1.get hy
   exact Jxk (J14 (X:=X.wish E)) N.inv rx rv ⟨a,ws,z,rfl,rfl,e1,by rw[r1.length];exact hz,finW (ys:=zs.dropLast) N K ha e1 (by rw[ZdZ,ZdZ,r1.length];exact r1.take _) qz⟩
  ·exact Zf K
 ·exact Zf K
theorem Ju1:MtI ce X "list" "list.remove" XA:=by
 intro pins s σ H ι σi h x xs v us Q E N rx rs K
 unfold XA at K
 split at K
 ·rename_i i zs k e
  obtain⟨rfl,hi⟩:=Jiz e
  split at K
  ·rename_i ns hb
   split at K
   ·rename_i j hj
    obtain⟨xv,rx,a,rfl,ha⟩:=rx
    obtain⟨vs,rv,qs⟩:=rs
    obtain⟨w,rfl,qw⟩:=qs.one_of
    cases (show w=.int k from qw)
    obtain⟨u,rfl,t,rfl⟩:=QU rv
    cases rx
    obtain⟨ws,e1,r1⟩:=N.at hi ha
    obtain⟨z,its,n,r,hl,eo⟩:=N.inv.lstM e1
    have are:=Vy hb r1 r
    have ln:=Yh are
    obtain⟨hlt,hp,hno⟩:=Zc3.mp hj
    have at_:∀m (hm:m<its.toArray.size),∃t,its.toArray[m]=.int (ns.getD m 0) t:=λ m hm=>Zeg are m _ (by simp at hm;simp[hm])
    refine Zdm F.slot_list_remove ⟨_,eo,rfl⟩ F.entry_list_remove (F.args_list_remove_2 _ _)
     (MeetsSeq.list_remove a its.toArray n (.int k t) (isK k) (λ y hy=>?_) j (by simp;omega) ?_ (λ m hm hmj=>?_) (by rw[Zq];omega)) ⟨eo,?_⟩
    ·obtain⟨m,hm,rfl⟩:=Array.mem_iff_getElem.mp hy
     obtain⟨t',e⟩:=at_ m hm
     rw[e]
     exact MeetsSeq.EqGives.int _ _ _ _
    ·obtain⟨t',e⟩:=at_ j (by simp;omega)
     rw[e]
     simpa [isK,Zi,hlt] using hp
    ·obtain⟨t',e⟩:=at_ m hm
     rw[e]
     have:=hno m hmj
     have hm2:m<ns.length:=by omega
     simpa [isK,Zi,hm2] using this
    ·exact finW (ys:=zs.eraseIdx j) (ws:=ws.eraseIdx j) N K ha e1 (r1.erase _) rfl _ _ (N.inv.lset (its':=its.eraseIdx j) e1 eo (by rw[ZcE]) (r.eraseIdx j) (by have:=Jmh ws j;omega)) rfl
   ·exact Zf K
  ·exact Zf K
 ·exact Zf K
end
section
variable {pr:Z5}{wd:ZP}{A:ZI}{E:Za->Zc->Prop}{s:Zc}
theorem Jj2 {Q:List Za->Zc->Prop}{r:Zd}{a b c:Int}{t u v:Tok}{n:Nat}(hh:A.handled=none)(hr:IsRange s.heap r a b c t u v)(hsmall:Builtin.Range.small a b c=true)
  (hn:Zd5 a b c=n)(hlen:n<=2^24)(hQ:∀h' tk acc,(∀b o,s.heap.get? b=some o->h'.get? b=some o)->s.heap.objs.size<=h'.objs.size->ItemsOf (λ i v=>∃t,v=.int (a+i*c) t) acc n->Q acc.toList { s with heap:=h',toks:=tk }) :
  Zs (Z6 pr wd) A (collect (.ref r)) Q E s:=by
 unfold collect
 refine Ze (wpAny_runValue (Zal PySem.F.entry_proto_collect ?_))
 rw[ZW PySem.F.plain_proto_collect _]
 show Zs _ A.in1 (newList []>>=λ l=>again (.builtin "list.__iadd__" ⟨[l,.ref r],[]⟩)) _ _ s
 refine Ze (Zck ?_ (ZT _))
 refine Zu ⟨Za1 ZdD _,Zal PySem.F.entry_list_iadd ?_⟩
 rw[ZW ZdD _]
 show Zs _ A.in1 (Builtin.List.listExtendWith (.ref s.heap.objs.size) (.ref r) (.ref s.heap.objs.size)) _ _ _
 refine wpAny_extend_range (R:=λ r s'=>match r with|.ok (.ret v)=>Zs (Z6 pr wd) A (match v with|.ref a=>(do match (<- load a).data with|.seq xs _=>pure xs.toList|_=>unsupported "internal:collect")|_=>unsupported "internal:collect") Q E s'|.ok _=>False|.error e=>E e s') (s:={ s with heap:=s.heap.push { cls:=.type "list",data:=.seq #[] } }) hh (Zg _ hr) hsmall hn hlen s.heap.objs.size _ 0 (Zw _ rfl) λ h' tk acc c' keep g its=>?_
 show Zs _ A (load s.heap.objs.size>>=_) _ _ _
 refine Ze (wpAny_load g ?_)
 exact Zu (hQ h' tk acc (λ b o e=>keep b o (Z1 (Zv e)) (Zg _ e)) (ZbF (Zv g)) its)
end
section
variable {ce:Str->Option Zd}{X:Cx}
def Yc (q:Str)(j:Nat)(js:List Nat)(aa:A1)(m:E1):E1:=λ σ h=>(aa σ h).bind λ xs h1=>match xs,h1[j]? with
 | [.int n],some (.tab q')=>if q'=q/\0<=n/\n<64 then(QA (λ v h'=>m (some v::js.map λ j=>(σ[j]?).join) h') (rngI 0 n) [] h1).bind (XF true (rngI 0 n)) else .stuck
 | _,_=>.stuck
theorem Jum {k:Nat}{q x:Str}{caps:List Str}{js:List Nat}{j:Nat}{a body:Expr}{aa:A1}{m:E1}{params:ZbO}{scope:ZaU}{p p2 lp pos pos2 kp kp2 cp:Pos}{ck:Nat}(hh:X.A.handled=none)(hg:Gl X "sorted")(hm:X.mg "sorted"=none)(g2:Gl X "range")(m2:X.mg "range"=none)(ha:PAi ce X [a] aa)(hs:Z8 [a] X.env=[(false,ZaK a X.env)])
  (hr:Room (k+3) X.A)(hcd:W.codeIn X.K X.env.code q=true)(hq:X.env.qual=q++".<locals>.")(B:Q2 X.mg X.base)(hx:Vf params=some x)(S:LamSc X.N X.env.scope.names x caps js scope)
  (hb:∀f cd s' H',PEi ce (cxL X X.A.in1.in1 (x::caps) q scope f cd s' H') body m) :
  PEi ce X (.Call (.Name "sorted" p) [.Call (.Name "range" p2) [a] [] pos2] [⟨some "key",.Lambda params body scope lp,kp⟩,⟨some "reverse",.Constant (.bool true) ck cp,kp2⟩] pos) (Yc q j js aa m):=λ pins s σ H ι σi h Q E N K=>by
 have hcl:Zdp scope X.env=pure (clOf X.env.cells scope.names []):=Jbl λ y hm hk=>N.inv.ok.has y.1 (.inl (S.free y hm hk))
 refine Zad (QC N.inv hg hm rfl ?_)
 refine callWith_kw ?_ rfl rfl rfl rfl
 refine Zdu ?_
 refine Zad (QC N.inv g2 m2 boot_range ?_)
 refine ZaR ?_ hs rfl
 refine(ha pos2).run N K λ xs h1 us s1 H1 ι1 N1 n1 r1 K1=>?_
 obtain⟨vs,rv,qs⟩:=r1
 split at K1
 ·rename_i n q' ej
  split at K1
  ·rename_i hc
   obtain⟨rfl,n0,n64⟩:=hc
   obtain⟨w,rfl,qw⟩:=qs.one_of
   cases (show w=.int n from qw)
   obtain⟨u,rfl,t,rfl⟩:=QU rv
   refine call_range_1 (Zdv ?_)
   have gr:(s1.heap.push { cls:=.type "range",data:=.fields #[.int 0 s1.toks,.int n t,.int 1 (s1.toks+1)] }).get? s1.heap.objs.size=some { cls:=.type "range",data:=.fields #[.int 0 s1.toks,.int n t,.int 1 (s1.toks+1)] }:=Zw _ rfl
   have N1':=(N1.keptH (h':=s1.heap.push { cls:=.type "range",data:=.fields #[.int 0 s1.toks,.int n t,.int 1 (s1.toks+1)] }) (t':=s1.toks+1+1) λ b o e=>Zg _ e)
   have F1:FpOk X pins H1 s1.heap.objs.size:=N1.inv.fpOk (Zl _) (N1.inv.hok.fresh (Zl _))
   have N2:=N1'.pinO gr F1 λ v z=>by cases z
   have K2:=Kont.more (pl:=[(s1.heap.objs.size,({ cls:=.type "range",data:=.fields #[.int 0 s1.toks,.int n t,.int 1 (s1.toks+1)] }:Obj))]) K1
   refine Zbu (Ze (Jov N2 ej hcd hq (Jou hx) hcl B λ f c pm ctv s3 H3 N3 n3 LC=>Ze (Zb2 (Zu ?_))))
   refine Zbu (Ze (Zu (Ze (Zb2 (Zu (Zcl ?_))))))
   have K3:=Kont.more (pl:=[(f,lamO q' params body scope (clOf X.env.cells scope.names []) pm ctv c)]) (Kont.mono K2 n3)
   have pr:=N3.inv.pin (s1.heap.objs.size,{ cls:=.type "range",data:=.fields #[.int 0 s1.toks,.int n t,.int 1 (s1.toks+1)] }) (Zj _ (Zam _ (Zj _ (Zy.mpr rfl))))
   refine call_function_entry_kw kind_sorted plain_sorted entry_sorted (ksk_s2 _ _ _) ?_
   unfold Ze4.«sorted»
   refine Ze (m:=checkCount "sorted" 1 1 _) (Zu ?_)
   refine Ze (Jj2 (n:=n.toNat) hh pr.1 (small_one (by decide) (by decide) (by omega) (by omega)) ?_ (by omega) λ h4 tk acc keep le its=>?_)
   ·rw[rangeSize_one]
    split<;>omega
   have are:Zb4 acc.toList ((ZF n.toNat).map λ k=>((k:Nat):Int)):=by
    refine Jr7 _ _ (by simp[its.1]) λ i v hv=>?_
    obtain⟨t,rfl⟩:=its.2 i v (by simpa using hv)
    have hi:i<n.toNat:=by
     have:=(Zk.mp hv).1
     simp only[Zba,its.1] at this
     exact this
    exact⟨t,by simp[Zi,hi]⟩
   refine Jz5 (G:=λ H=>QK H q' (.ref c)) (mk:=λ v h'=>m (some v::js.map λ j=>(σi[j]?).join) h') (ys:=rngI 0 n) (λ a=>ksk_t2 f a true) (λ a=>ksk_l2 a _ _) ?_ (λ H H' e g=>g.mono e.frzs) N3 LC keep le (XN are) (by rw[XB];exact Jki _) (by rw[XB];simp;omega) (λ D s' q=>⟨_,rfl,q⟩) K3
   intro pl s4 H4 ι4 h4 v u Q4 N4 g4 ru4 K4
   have pf:=N4.inv.pin (f,lamO q' params body scope (clOf X.env.cells scope.names []) pm ctv c) (Zj _ (Zam _ (Zj _ (Zy.mpr rfl))))
   exact Jsk (A:=X.A.in1.in1) N.inv.ok.frames hr.in1.in1 N4 pf.1 g4 hx S (hb f (.ref c)) ru4 K4
  ·exact Zf K1
 ·exact Zf K1
end
end L3
namespace L4
open PySem PySem.Spec PyProof.Rows L2 L3
noncomputable def stE:E1:=λ _ _=>.stuck
noncomputable def stT:T1:=λ _ _=>.stuck
noncomputable def stO:O1:=λ _ _=>.stuck
noncomputable def stI:I1:=λ _ _=>.stuck
noncomputable def stG:G1:=λ _ _ _=>.stuck
noncomputable def stS:S1:=λ _ _=>.stuck
structure Fn where
 np:Nat
 dvs:List IV
 run:List IV->IH->Res IV
structure Pg where
 fn:Str->Option Fn
 cls:Str->Option Fn
 meth:Str->Str->Option Fn
 con:Str->Option IV
 isa:Str->Option (Str->Bool)
 fld:Str->Bool
 free:Str->Bool
 tabs:Str->Option Nat
 rz:Str->Bool
 bas:Str->Bool
 xi:Str->Option (Str->Option Bool)
 wr:Str->Option (List IV->IH->Res IV)
 ne:Str->Bool
 xo:Str->Option Fn
 xf:Str->Str->Bool
 xb:Str->Bool
structure Sc where
 N:List Str
 names:List (Str×Zbf)
 own:Bool
 q:Str
noncomputable def ixOf (x:Str):List Str->Option Nat
 | []=>none
 | y::r=>if y==x then some 0 else(ixOf x r).map (· + 1)
noncomputable def Sc.vis (S:Sc)(x:Str):Option Nat :=
 match S.names.lookup x with
 | some .local=>if x=="__debug__"||x=="__classdict__" then none else ixOf x S.N
 | some .cell=>if x=="__debug__"||x=="__classdict__" then none else ixOf x S.N
 | some .free=>if x=="__debug__"||x=="__classdict__" then none else ixOf x S.N
 | _=>none
noncomputable def Sc.gl (S:Sc)(x:Str):Bool:=S.names.lookup x==some .globalImplicit&&!(x=="__debug__")&&!(x=="__name__")
noncomputable def Sc.sto (S:Sc)(x:Str):Option Nat :=
 match S.names.lookup x with
 | some .local=>ixOf x S.N
 | some .cell=>if S.own then ixOf x S.N else none
 | _=>none
def evC:Const->E1
 | .int i=>eC (.int i)
 | .bool b=>eC (.bl b)
 | .none=>eC .non
 | .str x=>eC (.str x)
 | _=>stE
def binI:Zcm->IV->IV->IH->Res IV
 | .Add=>Jl
 | .Sub=>Qa
 | .Mult=>Qo
 | .FloorDiv=>JO
 | .Mod=>Jw
 | .Pow=>JE
 | _=>λ _ _ _=>.stuck
def cmpI:CmpOp->IV->IV->IH->Res IV
 | .Lt=>cLt
 | .LtE=>cLe
 | .Gt=>cGt
 | .GtE=>cGe
 | .Eq=>cEq
 | .NotEq=>cNe
 | .Is=>cIs
 | .IsNot=>Jom
 | _=>λ _ _ _=>.stuck
def unI:UnaryOp->IV->IH->Res IV
 | .Not=>X5 tru
 | .USub=>Yo
 | _=>λ _ _=>.stuck
def Jyj:List E1->E1
 | []=>stE
 | [a]=>a
 | a::b::r=>eAnd a (Jyj (b::r)) tru
def eOrs:List E1->E1
 | []=>stE
 | [a]=>a
 | a::b::r=>eOr a (eOrs (b::r)) tru
def Jz8:List T1->T1
 | []=>stT
 | [a]=>a
 | a::b::r=>Qq a (Jz8 (b::r))
def tOrs:List T1->T1
 | []=>stT
 | [a]=>a
 | a::b::r=>tOrI a (tOrs (b::r))
def aAll:List E1->A1
 | []=>Jd
 | a::r=>Jb a (aAll r)
def Jz:Expr->Bool
 | .Starred .. =>false
 | _=>true
def X3:Expr->Bool
 | .Set .. =>false
 | _=>true
def VZ:Expr->Bool
 | .Slice .. =>false
 | _=>true
def V2:Expr->Bool
 | .ListComp .. =>false
 | .SetComp .. =>false
 | .DictComp .. =>false
 | _=>true
def V1:Expr->Bool
 | .Call (.Name ..) [] [] _=>false
 | _=>true
def isM1:Expr->Bool
 | .UnaryOp .USub (.Constant (.int 1) _ _) _=>true
 | _=>false
def Fn.fill (f:Fn)(n:Nat):Option (List IV):=if n<=f.np/\f.np<=n+f.dvs.length then some (f.dvs.drop (f.dvs.length-(f.np-n))) else none
def VU (f:Fn)(n:Nat)(a:A1):E1:=match f.fill n with
 | some d=>Jm f.run d a
 | none=>stE
def Jos (c:Str)(f:Fn)(n:Nat)(a:A1):E1:=match f.fill (n+1) with
 | some d=>Qw c f.run d a
 | none=>stE
def bltF (x:Str):List IV->IH->Res IV :=
 if x=="len" then on1 lenI else if x=="all" then on1 allI else if x=="sum" then on1 sumI else if x=="sorted" then on1 XG else if x=="min" then on1 VY else if x=="max" then on1 X2 else λ _ _=>.stuck
def bltT (x:Str):List IV->IH->Res IV :=
 if x=="list" then on1 Vg else if x=="tuple" then on1 Xg else λ _ _=>.stuck
def Jsa (x:Str):Bool:=x=="len"||x=="all"||x=="sum"||x=="sorted"||x=="min"||x=="max"
def Jsb (x:Str):Bool:=x=="list"||x=="tuple"
def Jt2 (P:Pg)(x:Str):Option (Ty->Option Bool) :=
 match P.isa x with
 | some g=>some λ t=>match t with|.ins c=>some (g c)|.exc _=>none|_=>some false
 | none=>if P.free x then(if x=="int" then some V7 else if x=="bool" then some V6 else if x=="str" then some V9 else if x=="list" then some (if P.ne "Work" then V8 else QZ) else if x=="tuple" then some Vw else none) else none
def Jyl (o:Option (Ty->Option Bool))(e:E1):E1:=match o with
 | some ans=>eIsi ans e
 | none=>stE
def bmOf (T:String)(m:Str)(n:Nat):Option (IV->List IV->IH->Res IV) :=
 if T=="list"&&m=="append"&&n==1 then some VR else if T=="list"&&m=="pop"&&n==0 then some X8 else if T=="list"&&m=="remove"&&n==1 then some XA else if T=="str"&&m=="join"&&n==1 then some Xx else if T=="dict"&&m=="setdefault"&&n==2 then some VI else none
def JV (P:Pg)(m:Str)(n:Nat):Str->Option ((List IV->IH->Res IV)×List IV):=λ c=>match P.meth c m with
 | some f=>(match f.fill (n+1) with
  | some d=>some (f.run,d)
  | none=>none)
 | none=>none
def VE (v:IV)(h:IH):Bool:=match v with
 | .ref i=>(match h[i]? with
  | some (.ins ..)=>true
  | _=>false)
 | _=>false
def tyS (v:IV)(h:IH):String:=match v with
 | .str _=>"str"
 | .rol _=>"list"
 | .ref i=>(match h[i]? with
  | some (.lst _)=>"list"
  | some (.dct _)=>"dict"
  | _=>"")
 | _=>""
def Jn (P:Pg)(m:Str)(n:Nat)(o:E1)(a:A1):E1:=λ σ h=>match o σ h with
 | .ok v h1=>if VE v h1 then Jua m (JV P m n) o a σ h else(match bmOf (tyS v h1) m n with
  | some g=>eBm (tyS v h1) g o a σ h
  | none=>.stuck)
 | _=>.stuck
def J06 (n:Nat)(a:A1):I1:=match n with
 | 1=>iRg Qn a
 | 2=>stI
 | _=>stI
def gAll:List G1->List IV->ISt->IH->SRes
 | []=>gN
 | g::r=>gC g (gAll r)
def V0 (sc:ZaU):List Str:=sc.names.filterMap λ x=>if x.2==.local&&!(x.1==(".0":Str)) then some x.1 else none
def Qv (sc:ZaU):List Str:=sc.names.filterMap λ x=>if x.2==.free then some x.1 else none
def jsOf (S:Sc)(sc:ZaU):List Nat:=(Qv sc).map λ x=>(ixOf x S.N).getD 0
def Sc.comp (S:Sc)(sc:ZaU):Sc where
 N:=V0 sc++Qv sc
 names:=sc.names.map λ x=>if x.2==.free&&S.names.lookup x.1==some .cell then(x.1,.cell) else x
 own:=false
 q:=""
def Sc.lam (S:Sc)(x:Str)(sc:ZaU):Sc where
 N:=x::Qv sc
 names:=sc.names
 own:=false
 q:=""
def QB (S:Sc)(x:Str)(sc:ZaU):Bool :=
 sc.kind==.function&&!sc.isCoroutine&&!sc.isGenerator&&sc.names.all (λ y=>!(y.2==.cell))&&sc.names.lookup x==some .local&&sc.names.all (λ y=>!(y.2==.free)||S.names.lookup y.1==some .cell)
  && (Qv sc).all (λ y=>decide (S.N[(ixOf y S.N).getD 0]?=some y)&&sc.names.lookup y==some .free)&&decide (x::Qv sc).Nodup
def Sc.fake (S:Sc):ZaU:={ kind:=.function,names:=S.names,isGenerator:=false,isCoroutine:=false }
def Jrs:Expr->Bool
 | .Name x _=>x=="last_come"||x=="tops"||x=="last"||x=="_law_last"||x=="_law_lows_here"
 | _=>false
def ixD (a:Expr):IV->IV->IH->Res IV:=if Jrs a then QO else Je
def txtB:Expr->Bool
 | .Name x _=>x=="_law_word_here"||x=="_law_name"
 | .Subscript .. =>true
 | _=>false
def slD (a:Expr):IV->Option Int->Option Int->IH->Res IV:=if txtB a then slT else slI
def cmpD (ne:Str->Bool)(o:CmpOp)(b:Expr):IV->IV->IH->Res IV:=match o with
 | .In=>if Jrs b then cInD else λ _ _ _=>.stuck
 | o=>cmpI o
def gSbF (a:Expr)(o i:E1):G1:=if Jrs a then gSbD o i else stG
def Jw7:Expr->Option Expr
 | .Call (.Name y _) [e] [] _=>if y=="set"&&Jz e then some e else none
 | _=>none
def Jo5:Expr->Option Expr
 | .Call (.Name y _) [e] [] _=>if y=="range"&&Jz e then some e else none
 | _=>none
def Jjz (P:Pg)(S:Sc)(x:Str)(f:Expr->E1):List Expr->E1
 | [a,b]=>if x=="max" then eCB (on2 maxI) (Jb (f a) (Jb (f b) Jd)) else if x=="min" then eCB (on2 minI) (Jb (f a) (Jb (f b) Jd)) else(match b with
  | .Name y _=>if x=="isinstance"&&S.gl y then Jyl (Jt2 P y) (f a) else stE
  | _=>stE)
 | [a]=>(match (if x=="len"&&S.gl "set"&&P.free "set" then Jw7 a else none) with
  | some e=>Ya (Jb (f e) Jd)
  | none=>match (if x=="list"&&S.gl "range"&&P.free "range" then Jo5 a else none) with
  | some _=>stE
  | none=>if Jsa x then eCB (bltF x) (Jb (f a) Jd) else if Jsb x then eCB (bltT x) (Jb (f a) Jd) else stE)
 | _=>stE
def J1h:Expr->Bool
 | .Constant (.bool true) _ _=>true
 | _=>false
def Jte (P:Pg)(S:Sc)(f:Sc->Expr->E1)(x:Str)(a:Expr)(k:Str)(ps:ZbO)(body:Expr)(sc:ZaU)(k2:Str)(d:Expr):E1:=match Jo5 a,Vf ps,P.tabs S.q with
 | some e,some y,some j=>if x=="sorted"&&k=="key"&&k2=="reverse"&&J1h d&&S.gl x&&P.free x&&S.gl "range"&&P.free "range"&&S.own&&QB S y sc then Yc S.q j (jsOf S sc) (Jb (f S e) Jd) (f (S.lam y sc) body) else stE
 | _,_,_=>stE
def minK (P:Pg)(S:Sc)(f:Sc->Expr->E1)(x:Str)(a:Expr)(k:Str):Expr->E1
 | .Lambda ps body sc _=>(match Vf ps,P.tabs S.q with
  | some y,some j=>if x=="min"&&k=="key"&&S.gl x&&P.free x&&Jz a&&S.own&&QB S y sc then Xu ltT S.q j (jsOf S sc) (Jb (f S a) Jd) (f (S.lam y sc) body) else stE
  | _,_=>stE)
 | _=>stE
def Jsj (P:Pg)(S:Sc)(f:Sc->Expr->E1)(x:Str)(args:List Expr)(kws:List Zc8):E1:=match args,kws with
 | [a],[⟨some k,d,_⟩]=>if x=="max"&&k=="default"&&S.gl x&&P.free x&&Jz a then Yb (Jb (f S a) Jd) (f S d) else minK P S f x a k d
 | [a],[⟨some k,.Lambda ps body sc _,_⟩,⟨some k2,d,_⟩]=>Jte P S f x a k ps body sc k2 d
 | _,_=>stE
def Joj (P:Pg)(S:Sc)(m:Str):Expr->Option Fn
 | .Name x _=>if m=="__init__"&&S.gl x&&P.bas x then P.cls x else none
 | _=>none
def Jyk (P:Pg)(m:Str)(n:Nat)(b:Option Fn)(o:E1)(a:A1):E1:=match b with
 | some f=>if n=0 then stE else VU f n a
 | none=>Jn P m n o a
def Jrn (ifs:List Expr)(f:Expr->T1)(m:T1->E1):E1:=match ifs with
 | []=>m J4
 | [c]=>m (f c)
 | _=>stE
section
mutual
def ev (P:Pg):Nat->Sc->Expr->E1
 | 0,_,_=>stE
 | n+1,S,e=>match e with
  | .Constant c _ _=>evC c
  | .Name x _=>(match S.vis x with
   | some i=>Ja i
   | none=>if S.gl x then(match P.con x with
    | some v=>eC v
    | none=>stE) else stE)
  | .BinOp a op b _=>Jc (binI op) (ev P n S a) (ev P n S b)
  | .UnaryOp op a _=>eUn (unI op) (ev P n S a)
  | .BoolOp .And vs _=>Jyj (vs.map (ev P n S))
  | .BoolOp .Or vs _=>eOrs (vs.map (ev P n S))
  | .IfExp t a b _=>eIf (evT P n S t) (ev P n S a) (ev P n S b)
  | .Compare a [o] [b] _=>if Zcj o b then stE else Jc (cmpD P.ne o b) (ev P n S a) (ev P n S b)
  | .Compare a [o,o'] [b,c] _=>if Zd9 [o,o'] [b,c] then stE else JR (cmpI o) (cmpI o') (ev P n S a) (ev P n S b) (ev P n S c)
  | .Tuple es _ _=>if es.all Jz then J8 (aAll (es.map (ev P n S))) else stE
  | .Dict [] [] _=>Xt
  | .List es _=>if es.all Jz then Js (aAll (es.map (ev P n S))) else stE
  | .Subscript a (.Slice lo hi none _) _=>eSl (slD a) (ev P n S a) (evO P n S lo) (evO P n S hi)
  | .Subscript a i _=>if VZ i then Jc (ixD a) (ev P n S a) (ev P n S i) else stE
  | .Attribute o f _=>if V1 o&&P.fld f then Jo f (ev P n S o) else stE
  | .Call (.Name x _) args [] _=>if S.gl x&&args.all Jz then Jrz P n S x args else stE
  | .Call (.Name x _) args (kw::kws) _=>Jsj P S (λ S e=>ev P n S e) x args (kw::kws)
  | .Call (.Attribute o m ap) args [] p=>if args.all Jz&&V1 o&&(ap.endLine==p.line)&&decide (args.length<30) then Jyk P m args.length (Joj P S m o) (ev P n S o) (aAll (args.map (ev P n S))) else stE
  | .ListComp elt [⟨tg,iter,ifs,as⟩] sc _ =>
   if as=0/\X3 iter=true/\Q6 S.N (V0 sc) (Qv sc) (jsOf S sc) S.fake sc=true then
    Jrn ifs (evT P n (S.comp sc)) λ mt=>Jy (evI P n S tg iter) (V0 sc).length (jsOf S sc) (tgt P n (S.comp sc) tg) mt (ev P n (S.comp sc) elt)
   else stE
  | _=>stE
def evT (P:Pg):Nat->Sc->Expr->T1
 | 0,_,_=>stT
 | n+1,S,e=>match e with
  | .UnaryOp .Not a _=>JC (evT P n S a)
  | .BoolOp .And vs _=>Jz8 (vs.map (evT P n S))
  | .BoolOp .Or vs _=>tOrs (vs.map (evT P n S))
  | .IfExp .. =>stT
  | .Compare a [o] [b] _=>if Zcj o b then stT else Jg asB (Jc (cmpD P.ne o b) (ev P n S a) (ev P n S b))
  | .Compare a [o,o'] [b,c] _=>if Zd9 [o,o'] [b,c] then stT else Jg asB (JR (cmpI o) (cmpI o') (ev P n S a) (ev P n S b) (ev P n S c))
  | .Compare .. =>stT
  | e=>Jg tru (ev P n S e)
def evO (P:Pg):Nat->Sc->Option Expr->O1
 | 0,_,_=>stO
 | _+1,_,none=>V3
 | n+1,S,some e=>QD (ev P n S e)
def Jrz (P:Pg):Nat->Sc->Str->List Expr->E1
 | 0,_,_,_=>stE
 | n+1,S,x,args=>match P.fn x with
  | some f=>VU f args.length (aAll (args.map (ev P n S)))
  | none=>match P.cls x with
   | some f=>Jos x f args.length (aAll (args.map (ev P n S)))
   | none=>if P.free x then Jjz P S x (ev P n S) args else stE
def evI (P:Pg):Nat->Sc->Expr->Expr->I1
 | 0,_,_,_=>stI
 | n+1,S,tg,e=>match e with
  | .Call (.Name x _) args [] _ =>
   if S.gl x&&P.free x&&args.all Jz&&(x=="range") then J06 args.length (aAll (args.map (ev P n S)))
   else if S.gl x&&P.free x&&args.all Jz&&(x=="enumerate") then(match tg,args with
    | .Tuple ..,[a]=>iRg QM (Jb (ev P n S a) Jd)
    | _,_=>stI)
   else Ju (ev P n S e)
  | e=>Ju (ev P n S e)
def tgt (P:Pg):Nat->Sc->Expr->G1
 | 0,_,_=>stG
 | n+1,S,e=>match e with
  | .Name x _=>(match S.sto x with
   | some i=>gNm i
   | none=>stG)
  | .Tuple es _ _=>if es.all Jz then gTp es.length (gAll (es.map (tgt P n S))) else stG
  | .Subscript o i _=>if VZ i then gSbF o (ev P n S o) (ev P n S i) else stG
  | _=>stG
end
end
def V4 (t:T1)(b:S1):Nat->S1
 | 0,_,_=>.stuck
 | n+1,σ,h=>match t σ h with
  | .ok c h1=>if c then(match b σ h1 with
   | .next σ2 h2=>V4 t b n σ2 h2
   | .cont σ2 h2=>V4 t b n σ2 h2
   | .brk σ2 h2=>.next σ2 h2
   | .ret v h2=>.ret v h2
   | _=>.stuck) else .next σ h1
  | _=>.stuck
@[irreducible] def XL:Nat:=1000000
def Xb (t:T1)(b:S1):S1:=V4 t b XL
def ipI:Zcm->IV->IV->IH->Res IV
 | .Add,.int i,.int j,h=>.ok (.int (i+j)) h
 | _,_,_,_=>.stuck
def sAug (op:Zcm)(i:Nat)(e:E1):S1:=λ σ h=>rS σ (Ja i σ h) λ x h1=>rS σ (e σ h1) λ y h2=>rS σ (ipI op x y h2) λ z h3=>.next (σ.set i (some z)) h3
def XD (op:Zcm)(f:Str)(o e:E1):S1:=λ σ h=>rS σ (o σ h) λ ov h1=>match ov with
 | .ref i=>(match h1[i]? with
  | some (.ins _ fs)=>(match fs.lookup f with
   | some x=>rS σ (e σ h1) λ y h2=>rS σ (ipI op x y h2) λ z h3=>(match h3[i]? with
    | some (.ins c gs)=>if gs.length<1000 then .next σ (h3.set i (.ins c (putI f z gs))) else .stuck
    | _=>.stuck)
   | none=>.stuck)
  | _=>.stuck)
 | _=>.stuck
def ixL:IV->IV->IH->Res IV
 | .ref i,.int k,h=>match h[i]? with
  | some (.lst xs)=>(match atI xs k with
   | some v=>if 0<=k then .ok v h else .stuck
   | none=>.stuck)
  | _=>.stuck
 | _,_,_=>.stuck
def XE (op:Zcm)(o k e:E1):S1:=λ σ h=>rS σ (o σ h) λ ov h1=>rS σ (k σ h1) λ kv h2=>rS σ (ixL ov kv h2) λ x h3=>rS σ (e σ h3) λ y h4=>rS σ (ipI op x y h4) λ z h5=>setI ov kv z σ h5
def sAll:List S1->S1
 | []=>Jr
 | [a]=>a
 | a::b::r=>Jf a (sAll (b::r))
def Jzg:Expr->Bool
 | .Tuple .. =>false
 | _=>true
def Jur:Expr->Bool
 | .Tuple .. =>true
 | _=>false
def isLC:Expr->Bool
 | .ListComp .. =>true
 | _=>false
def Juq:Expr->Bool
 | .Subscript .. =>true
 | _=>false
abbrev Xi:=Str->Option (Str->Option Bool)
section
end
section
end
def Jzt (P:Pg)(f:Str)(o e:E1):S1:=if P.fld f then JK f o e else stS
section
def ex (P:Pg):Nat->Sc->ZcY->S1
 | 0,_,_=>stS
 | n+1,S,st=>match st with
  | .Pass _=>Jzu
  | .Break _=>Jw5
  | .Continue _=>J2q
  | .Expr e _=>if V2 e then JJ (ev P n S e) else stS
  | .Return none _=>Jzv
  | .Return (some e) _=>Jk (ev P n S e)
  | .If c a b _=>sIf (evT P n S c) (sAll (a.map (ex P n S))) (sAll (b.map (ex P n S)))
  | .While c a [] _=>Xb (evT P n S c) (sAll (a.map (ex P n S)))
  | .For tg it a [] _=>if X3 it&&S.own then sFor (evI P n S tg it) (tgt P n S tg) (sAll (a.map (ex P n S))) else stS
  | .Assign [.Name x _] e _=>if V2 e||isLC e then(match S.sto x with
   | some i=>Jh i (ev P n S e)
   | none=>stS) else stS
  | .Assign [.Attribute o f _] e _=>if V2 e||isLC e then Jzt P f (ev P n S o) (ev P n S e) else stS
  | .Assign [tg] e _=>if V2 e&&((Jur tg&&Jzg e)||Juq tg) then sAsg (ev P n S e) (tgt P n S tg) else stS
  | .AugAssign (.Name x _) op e _=>(match S.sto x with
   | some i=>sAug op i (ev P n S e)
   | none=>stS)
  | .AugAssign (.Attribute o f _) op e _=>if P.fld f then XD op f (ev P n S o) (ev P n S e) else stS
  | .AugAssign (.Subscript o k _) op e _=>if VZ k then XE op (ev P n S o) (ev P n S k) (ev P n S e) else stS
  | _=>stS
end
structure FnD (ce:Str->Option Zd)(prog:Z5)(w:ZP)(K:W.Frag)(mg:Str->Option Za)(base:Zag)(k:Nat)(f:Fn)(fa:Zd)(fd:Zax)(ps:List Str):Prop where
 len:ps.length=f.np
 ok:FnOk prog w K mg base (CXI prog w) k fa fd ps (spI ce K ps f.run)
 dv:∀j,j<=f.dvs.length->∃ds,Qf K fd ps ds/\ds.length=f.dvs.length-j/\∃vs,Vals vs ds/\∀ι H,RVs K ι H (f.dvs.drop j) vs
structure PgOk (ce:Str->Option Zd)(k:Nat)(P:Pg)(prog:Z5)(w:ZP)(K:W.Frag)(mg:Str->Option Za)(base:Zag):Prop where
 fn:∀x f,P.fn x=some f->∃fa fd ps,mg x=some (.ref fa)/\W.keepIn K (.ref fa)=true/\FnD ce prog w K mg base k f fa fd ps
 cls:∀x f,P.cls x=some f->∃C fa fd ps,mg x=some (.ref C)/\ce x=some C/\Mk K C fa/\FnD ce prog w K mg base k f fa fd ps
 meth:∀c m f,P.meth c m=some f->∃C fa fd ps,ce c=some C/\Cls K C/\Meth K C m fa/\FnD ce prog w K mg base k f fa fd ps
 con:∀x v,P.con x=some v->∃u y,mg x=some u/\RelV y u/\∀ι H,RV K ι H v y
 isa:∀D g,P.isa D=some g->∃c,mg D=some c/\IsOk ce K c λ t=>match t with|.ins c=>some (g c)|.exc _=>none|_=>some false
 fld:∀f,P.fld f=true->XV ce K f
 free:∀x,P.free x=true->mg x=none
 blt:∀q j,P.tabs q=some j->Q2 mg base
 bas:∀x,P.bas x=true->∃C,mg x=some (.ref C)/\BasK K C
 ne:∀c,P.ne c=true->∃C,ce c=some C/\neIn K C=true/\ClsI K C/\W.kitOne K (.ref C) (.type "list")=some false
structure Good (ce:Str->Option Zd)(k:Nat)(P:Pg)(S:Sc)(X:Cx):Prop where
 n:X.N=S.N
 sc:X.env.scope.names=S.names
 nd:S.N.Nodup
 fk:X.env.scope.kind=.function
 calm:X.calm=true
 room:Room (k+1) X.A
 st:S.own=true->∀x,X.fn x=true
 pg:PgOk ce k P X.prog X.w X.K X.mg X.base
 code:S.own=true->W.codeIn X.K X.env.code S.q=true/\X.env.qual=S.q++".<locals>."
 room3:S.own=true->Room (k+3) X.A
 top:S.own=true->X.stack=X.env::X.outer/\X.env.frame=some X.env.locals
section
variable {ce:Str->Option Zd}{k:Nat}{P:Pg}{S:Sc}{X:Cx}{α β:Type}{R:REL α β}
theorem Ji {t:Sem β}:PX ce X R t (λ _ _=>.stuck):=λ _ _ _ _ _ _ _ _ _ _ K=>(show False from K).elim
theorem J4t {t:Sem β}{m:ISt->IH->Res α}(hh:∀σi h,∃m',m σi h=m' σi h/\PX ce X R t m'):PX ce X R t m:=by
 intro pins s σ H ι σi h Q E N K
 obtain⟨m',e,p⟩:=hh σi h
 rw[e] at K
 exact p pins s σ H ι σi h Q E N K
theorem Yq {tg e:Expr}:PIi ce X tg e stI:=λ _ _ _ _ _ _ _ _ _ _ K=>(show False from K).elim
theorem X6 {e:Expr}:PGi ce X e stG:=λ _ _ _ _ _ _ _ _ _ _ _ _ _ K=>(show False from K).elim
theorem JS {t:Sem Flow}:PSi ce X t stS:=λ _ _ _ _ _ _ _ _ _ _ K=>(show False from K).elim
theorem Jf1 {x:Str}:∀{l:List Str}{i:Nat},ixOf x l=some i->l[i]?=some x
 | [],_,h=>by cases h
 | y::r,i,h=>by
  unfold ixOf at h
  split at h
  ·rename_i e
   cases h
   simp[beq_iff_eq.mp e]
  ·obtain⟨j,hj,rfl⟩:=ZA.mp h
   simpa using Jf1 hj
theorem Good.kind (G:Good ce k P S X)(x:Str):X.env.kindOf x=S.names.lookup x:=by
 show X.env.scope.names.lookup x=_
 rw[G.sc]
theorem Good.vis (G:Good ce k P S X){x:Str}{i:Nat}(h:S.vis x=some i):X.N[i]?=some x/\Vis X.env.scope x/\(x==("__debug__":Str))=false/\(x==("__classdict__":Str))=false:=by
 unfold Sc.vis at h
 have fin:∀{o:Zbf},(o=.local∨o=.cell∨o=.free)->S.names.lookup x=some o->(if (x==("__debug__":Str)||x==("__classdict__":Str))=true then none else ixOf x S.N)=some i ->
   X.N[i]?=some x/\Vis X.env.scope x/\(x==("__debug__":Str))=false/\(x==("__classdict__":Str))=false:=λ ho e h=>by
  split at h
  ·cases h
  ·rename_i hd
   have hd':=ZbS.mpr hd
   rw[ZcS] at hd'
   refine⟨by rw[G.n];exact Jf1 h,?_,hd'.1,hd'.2⟩
   unfold Vis
   rw[G.sc,e]
   rcases ho with rfl|rfl|rfl
   ·exact .inl rfl
   ·exact .inr (.inl rfl)
   ·exact .inr (.inr rfl)
 cases e:S.names.lookup x with
 | none=>rw[e] at h;cases h
 | some o =>
  rw[e] at h
  cases o with
  | «local» =>exact fin (.inl rfl) e h
  | cell=>exact fin (.inr (.inl rfl)) e h
  | free=>exact fin (.inr (.inr rfl)) e h
  | _=>cases h
theorem Good.gl (G:Good ce k P S X){x:Str}(h:S.gl x=true):Gl X x/\(x==("__debug__":Str))=false/\x≠"__name__":=by
 unfold Sc.gl at h
 simp only[Zn,beq_iff_eq,ZaC] at h
 refine⟨?_,h.1.2,λ e=>?_⟩
 ·show X.env.kindOf x=_
  rw[G.kind]
  exact h.1.1
 ·have:=h.2
  rw[e] at this
  exact absurd this (by decide)
theorem Good.sto (G:Good ce k P S X){x:Str}{i:Nat}(h:S.sto x=some i):X.N[i]?=some x/\Loc X.env.scope x/\(X.fn x=true∨X.env.scope.names.lookup x=some .local):=by
 unfold Sc.sto at h
 unfold L2.Loc
 rw[G.sc]
 cases e:S.names.lookup x with
 | none=>rw[e] at h;cases h
 | some o =>
  rw[e] at h
  cases o with
  | «local» =>exact⟨by rw[G.n];exact Jf1 h,.inl rfl,.inr rfl⟩
  | cell =>
   dsimp only at h
   split at h
   ·rename_i ho
    exact⟨by rw[G.n];exact Jf1 h,.inr rfl,.inl (G.st ho x)⟩
   ·cases h
  | _=>cases h
theorem Good.nodup (G:Good ce k P S X):X.N.Nodup:=by rw[G.n];exact G.nd
theorem J2 {a:Expr}{es:List Expr}{env:Env}(h:Jz a=true):Z8 (a::es) env=(false,ZaK a env)::Z8 es env:=by
 cases a<;>first|rfl|cases h
theorem Xf {pos:Pos}{env:Env}:∀{es:List Expr},es.all Jz=true->(ZaT pos (Z8 es env)).any (·.1)=false
 | [],_=>rfl
 | a::es,h=>by
  simp only[Zah,Zn] at h
  rw[J2 h.1]
  show(false||(ZaT pos (Z8 es env)).any (·.1))=false
  rw[Xf h.2]<;>rfl
theorem Jhs {pos:Pos}{env:Env}:∀{es:List Expr},es.all Jz=true->(ZaT pos (Z8 es env)).all (λ x=>!x.1)=true
 | [],_=>rfl
 | a::es,h=>by
  simp only[Zah,Zn] at h
  rw[J2 h.1]
  show(true&&(ZaT pos (Z8 es env)).all (λ x=>!x.1))=true
  rw[Jhs h.2]<;>rfl
theorem Jyt {pos:Pos}{env:Env}{es:List Expr}(ha:es.all Jz=true)(hn:es.length<30):((ZaT pos (Z8 es env)).all (λ x=>!x.1)&&(ZcP pos (ZbC [] env)).all (λ x=>x.1.isSome)
   && decide (es.length+([]:List Zc8).length+(if ([]:List Zc8).isEmpty then 0 else 1)<30))=true:=by
 show((ZaT pos (Z8 es env)).all (λ x=>!x.1)&&true&&decide (es.length+0+0<30))=true
 rw[Jhs ha]
 simpa using hn
theorem XW:∀(l:List E1),ALen l.length (aAll l)
 | []=>Jt1
 | _::r=>Jq7 (XW r)
theorem Vu {f:Expr->E1}:∀{es:List Expr},es.all Jz=true->(∀e,PEi ce X e (f e))->PAi ce X es (aAll (es.map f))
 | [],_,_=>Vv
 | a::es,h,hf=>by
  simp only[Zah,Zn] at h
  exact QX (hf a) (Vu h.2 hf) (J2 h.1)
theorem Jwt {f:Expr->E1}{pos:Pos}(hf:∀e,PEi ce X e (f e)):∀(vs:List Expr),PEi ce X (.BoolOp .And vs pos) (Jyj (vs.map f))
 | []=>Ji
 | [a]=>J1g (hf a)
 | a::b::r=>J3z Yw (hf a) (Jwt hf (b::r))
theorem J0w {f:Expr->E1}{pos:Pos}(hf:∀e,PEi ce X e (f e)):∀(vs:List Expr),PEi ce X (.BoolOp .Or vs pos) (eOrs (vs.map f))
 | []=>Ji
 | [a]=>J1g (hf a)
 | a::b::r=>i_or Yw (hf a) (J0w hf (b::r))
theorem Jxb {f:Expr->T1}{pos:Pos}(hf:∀e,PTi ce X e (f e)):∀(vs:List Expr),PWi ce X (.BoolOp .And vs pos) (Jz8 (vs.map f))
 | []=>λ _=>Ji
 | [a]=>J0a (hf a)
 | a::b::r=>J27 (hf a) (Jxb hf (b::r))
theorem J24 {f:Expr->T1}{pos:Pos}(hf:∀e,PTi ce X e (f e)):∀(vs:List Expr),PWi ce X (.BoolOp .Or vs pos) (tOrs (vs.map f))
 | []=>λ _=>Ji
 | [a]=>J28 (hf a)
 | a::b::r=>J49 (hf a) (J24 hf (b::r))
theorem Jwu {f:Expr->G1}:∀{es:List Expr},es.all Jz=true->(∀e,PGi ce X e (f e))->PGsi ce X es (gAll (es.map f))
 | [],_,_=>J04
 | a::es,h,hf=>by
  simp only[Zah,Zn] at h
  refine Jyr (hf a) (Jwu h.2 hf) ?_
  cases a<;>first|rfl|exact absurd h.1 Zp
theorem Jwo {env:Env}:∀{es:List Expr},es.all Jz=true->(ZaA es env).length=es.length
 | [],_=>rfl
 | a::es,h=>by
  simp only[Zah,Zn] at h
  have:ZaA (a::es) env=(false,ZdN a env)::ZaA es env:=by cases a<;>first|rfl|exact absurd h.1 Zp
  rw[this,Z7,Z7,Jwo h.2]
theorem Jrc {env:Env}:∀{es:List Expr},es.all Jz=true->(ZaA es env).findIdx? (·.1)=none
 | [],_=>rfl
 | a::es,h=>by
  simp only[Zah,Zn] at h
  have:ZaA (a::es) env=(false,ZdN a env)::ZaA es env:=by cases a<;>first|rfl|exact absurd h.1 Zp
  rw[this,Zdr,Jrc h.2]
  rfl
theorem J4f (op:Zcm):OpI ce X (ZaM op) (binI op):=by
 cases op with
 | Add=>exact J4e
 | Sub=>exact J4k
 | Mult=>exact J16
 | FloorDiv=>exact J15
 | Mod=>exact J4h
 | Pow=>exact J4j
 | _=>exact λ _ _ _ _ _ _ _ _ _ _ _ _ _ _ _ _ K=>(show False from K).elim
theorem Yn (hu:X.A.units+64<cLine)(op:CmpOp):OpI ce X (Zas op) (cmpI op):=by
 cases op with
 | Lt=>exact o_lt
 | LtE=>exact o_le
 | Gt=>exact o_gt
 | GtE=>exact o_ge
 | Eq=>exact o_eq hu
 | NotEq=>exact o_ne hu
 | Is=>exact o_is
 | IsNot=>exact Jzh
 | _=>exact λ _ _ _ _ _ _ _ _ _ _ _ _ _ _ _ _ K=>(show False from K).elim
theorem Jw3 {ne:Str->Bool}(hu:X.A.units+64<cLine)(hn:∀c,ne c=true->∃C,ce c=some C/\neIn X.K C=true)(op:CmpOp)(b:Expr):OpI ce X (Zas op) (cmpD ne op b):=by
 unfold cmpD
 split
 ·split
  ·exact J4g
  ·exact λ _ _ _ _ _ _ _ _ _ _ _ _ _ _ _ _ K=>(show False from K).elim
 ·exact Yn hu op
theorem J5g (a:Expr):SlI ce X (slD a):=by
 unfold slD
 split
 ·exact J5h
 ·exact x_sl
theorem J5f (a:Expr):IxI ce X (ixD a):=by
 unfold ixD
 split
 ·exact J5e
 ·exact x_ix
theorem o_un (op:UnaryOp):UnI ce X (unaryOp op) (unI op):=by
 cases op with
 | Not=>exact J0b Yw
 | USub=>exact J5a
 | _=>exact λ _ _ _ _ _ _ _ _ _ _ _ _ _ K=>(show False from K).elim
theorem Jcq {o:Expr}{m:Str}{env:Env}{w:Sem Za}(h:V1 o=true):ZbN o m env w=w:=by
 cases o with
 | Call f as ks p =>
  cases f with
  | Name x q =>
   cases as with
   | nil =>
    cases ks with
    | nil=>cases h
    | cons _ _=>rfl
   | cons _ _=>rfl
  | _=>rfl
 | _=>rfl
theorem Yf {e:Expr}{env:Env}(h:X3 e=true)(x:Za):ZbR e env x=pure x:=by
 cases e<;>first|rfl|cases h
theorem Jcy {e:Expr}{t:Option Expr}{l:Nat}{env:Env}(h:V2 e=true):Zdj e t l env=pure false:=by
 cases e<;>first|rfl|cases h
theorem Juu {i:Expr}(h:VZ i=true):Jq5 i:=λ _ _=>by
 cases i<;>first|rfl|cases h
theorem Jhl {o:Expr}{m:Str}{ap pos:Pos}{es:List Expr}{env:Env}(hb:V1 o=true)(hs:es.all Jz=true)(hl:(ap.endLine==pos.line)=true)(hn:es.length<30) :
  ZaK (.Call (.Attribute o m ap) es [] pos) env=(do
   let ov<-ZaK o env
   Ze2 ap.atName
   let (f,first)<-ZbQ [ov] (Zd6 ov m (do return(<- importBound o env).getD true))
   callWith pos f first (ZaT pos (Z8 es env)) (ZcP pos (ZbC [] env))):=by
 have hform:methodCallForm (es.length+([]:List Zc8).length) (ZaT pos (Z8 es env)) (ZcP pos (ZbC [] env))=true:=by
  show((ZaT pos (Z8 es env)).all (λ x=>!x.1)&&true&&decide (es.length+0+0<30))=true
  rw[Jhs hs]
  simpa using hn
 have hpos:methodCallPos true o env ap pos=pure pos:=by unfold methodCallPos;simp[hl]
 rw[arm_eval_Call,Jcq hb]
 unfold methodCall
 rw[hform,hpos]
 rfl
end
section
variable {ce:Str->Option Zd}{k:Nat}{P:Pg}{S:Sc}{X:Cx}
theorem Jly (G:Good ce k P S X)(N0 l c:List Str)(js:List Nat)(sc:ZaU):Q6 N0 l c js X.env.scope sc=Q6 N0 l c js S.fake sc:=by
 unfold Q6
 rw[G.fk,G.sc]
 rfl
theorem Good.comp (G:Good ce k P S X){sc:ZaU}(h:Q6 S.N (V0 sc) (Qv sc) (jsOf S sc) S.fake sc=true)(C:Zd)(s:Zc)(H:Hp)(fp:List Zd):Good ce k P (S.comp sc) (cxC X (V0 sc++Qv sc) sc C s H fp):=by
 simp only[Q6,Zn,decide_eq_true_eq] at h
 obtain⟨⟨⟨⟨⟨⟨⟨⟨⟨kF,kF0⟩,kNC⟩,kL⟩,kFr⟩,kFx⟩,kJ⟩,kLen⟩,kNd⟩,kLo⟩:=h
 refine⟨rfl,?_,kNd,kF,G.calm,G.room,λ z=>absurd z Zp,G.pg,λ z=>absurd z Zp,λ z=>absurd z Zp,λ z=>absurd z Zp⟩
 show(relabel sc X.env).names=_
 unfold relabel Sc.comp
 dsimp only
 refine Zdf λ x _=>?_
 obtain⟨n,kd⟩:=x
 dsimp only
 rw[G.fk,G.kind]
 simp
end
structure Snd (ce:Str->Option Zd)(k:Nat)(P:Pg)(n:Nat):Prop where
 e:∀S X e,Good ce k P S X->PEi ce X e (ev P n S e)
 t:∀S X e,Good ce k P S X->PTi ce X e (evT P n S e)
 o:∀S X e,Good ce k P S X->PPi ce X e (evO P n S e)
 c:∀S X x args p pos,Good ce k P S X->S.gl x=true->args.all Jz=true->PEi ce X (.Call (.Name x p) args [] pos) (Jrz P n S x args)
 i:∀S X tg e,Good ce k P S X->PIi ce X tg e (evI P n S tg e)
 g:∀S X e,Good ce k P S X->PGi ce X e (tgt P n S e)
section
variable {ce:Str->Option Zd}{k:Nat}{P:Pg}{n:Nat}{S:Sc}{X:Cx}
theorem Jvx:Snd ce k P 0:=⟨λ _ _ _ _=>Ji,λ _ _ _ _=>Ji,λ _ _ _ _=>Ji,λ _ _ _ _ _ _ _ _ _=>Ji,λ _ _ _ _ _=>Yq,λ _ _ _ _=>X6⟩
theorem Jj5 {prog:Z5}{w:ZP}{K:W.Frag}{mg:Str->Option Za}{base:Zag}{f:Fn}{fa:Zd}{fd:Zax}{ps:List Str}{m:Nat}{d:List IV}(D:FnD ce prog w K mg base k f fa fd ps)(h:f.fill m=some d) :
  ∃ds,Qf K fd ps ds/\m+ds.length=ps.length/\∃vs,Vals vs ds/\∀ι H,RVs K ι H d vs:=by
 unfold Fn.fill at h
 split at h
 ·rename_i hz
  cases h
  obtain⟨ds,hb,hl,q⟩:=D.dv (f.dvs.length-(f.np-m)) (by omega)
  exact⟨ds,hb,by rw[hl,D.len];omega,q⟩
 ·cases h
theorem Jvs (G:Good ce k P S X){x:Str}{f:Fn}(hx:P.fn x=some f)(hg:S.gl x=true){args:List Expr}(ha:args.all Jz=true){g:Expr->E1}(hf:∀e,PEi ce X e (g e)){p pos:Pos} :
  PEi ce X (.Call (.Name x p) args [] pos) (VU f args.length (aAll (args.map g))):=by
 obtain⟨fa,fd,ps,hm,hk,D⟩:=G.pg.fn x f hx
 obtain⟨gl,hdb,_⟩:=G.gl hg
 unfold VU
 cases hd:f.fill args.length with
 | none=>exact Ji
 | some d =>
  obtain⟨ds,hb,hl,q⟩:=Jj5 D hd
  have hr:Room k X.A:=G.room.mono (Zbb k)
  cases args with
  | nil=>exact Jyy D.ok hr gl hm hk hb q (by simpa using hl) hdb
  | cons a es =>
   have ha':=ha
   simp only[Zah,Zn] at ha'
   refine J08 D.ok hr gl hm hk hb q (Vu ha hf) (λ σ h xs h' e=>?_) hdb (J2 ha'.1) (Xf ha'.2)
   have:=XW _ σ h xs h' e
   rw[Zh] at this
   rw[this]
   exact hl
theorem Jvt (G:Good ce k P S X){x:Str}{f:Fn}(hx:P.cls x=some f)(hg:S.gl x=true){args:List Expr}(ha:args.all Jz=true){g:Expr->E1}(hf:∀e,PEi ce X e (g e)){p pos:Pos} :
  PEi ce X (.Call (.Name x p) args [] pos) (Jos x f args.length (aAll (args.map g))):=by
 obtain⟨C,fa,fd,ps,hm,hC,M,D⟩:=G.pg.cls x f hx
 obtain⟨gl,hdb,_⟩:=G.gl hg
 unfold Jos
 cases hd:f.fill (args.length+1) with
 | none=>exact Ji
 | some d =>
  obtain⟨ds,hb,hl,q⟩:=Jj5 D hd
  cases args with
  | nil=>exact Jy1 M D.ok hC G.room gl hm hb q (by simp at hl;omega) hdb
  | cons a es =>
   have ha':=ha
   simp only[Zah,Zn] at ha'
   refine J1c M D.ok hC G.room gl hm hb q (Vu ha hf) (λ σ h xs h' e=>?_) hdb (J2 ha'.1) (Xf ha'.2)
   have:=XW _ σ h xs h' e
   rw[Zh] at this
   omega
theorem Jru (G:Good ce k P S X)(m:Str)(n:Nat):Jq4 ce X m n (JV P m n):=by
 intro c f dvs h
 unfold JV at h
 cases hm:P.meth c m with
 | none=>rw[hm] at h;cases h
 | some fn =>
  rw[hm] at h
  dsimp only at h
  cases hd:fn.fill (n+1) with
  | none=>rw[hd] at h;cases h
  | some d =>
   rw[hd] at h
   cases h
   obtain⟨C,fa,fd,ps,hC,hcl,hM,D⟩:=G.pg.meth c m fn hm
   obtain⟨ds,hb,hl,q⟩:=Jj5 D hd
   exact⟨C,fa,fd,k,ps,ds,hC,hcl,hM,D.ok,G.room.mono (Zbb k),hb,q,by omega⟩
theorem J3k {T:String}{m:Str}{n:Nat}{g:IV->List IV->IH->Res IV}(h:bmOf T m n=some g):∃id,PlainAttrs T/\Slot T m id/\typeOf (.builtin id)=pure (.type "method_descriptor")/\MtI ce X T id g:=by
 unfold bmOf at h
 split at h
 ·rename_i hm
  simp only[Zn,beq_iff_eq] at hm
  obtain⟨⟨rfl,rfl⟩,_⟩:=hm
  cases h
  exact⟨_,Zc1,PySem.F.slot_list_append,PySem.F.type_list_append,Ju0⟩
 ·split at h
  ·rename_i hm
   simp only[Zn,beq_iff_eq] at hm
   obtain⟨⟨rfl,rfl⟩,_⟩:=hm
   cases h
   exact⟨_,Zc1,PySem.F.slot_list_pop,PySem.F.type_list_pop,J1z⟩
  ·split at h
   ·rename_i hm
    simp only[Zn,beq_iff_eq] at hm
    obtain⟨⟨rfl,rfl⟩,_⟩:=hm
    cases h
    exact⟨_,Zc1,PySem.F.slot_list_remove,PySem.F.type_list_remove,Ju1⟩
   ·split at h
    ·rename_i hm
     simp only[Zn,beq_iff_eq] at hm
     obtain⟨⟨rfl,rfl⟩,_⟩:=hm
     cases h
     exact⟨_,PySem.F.plainAttrs_str,PySem.F.slot_str_join,PySem.F.type_str_join,J1y⟩
    ·split at h
     ·rename_i hm
      simp only[Zn,beq_iff_eq] at hm
      obtain⟨⟨rfl,rfl⟩,_⟩:=hm
      cases h
      exact⟨_,PySem.F.plainAttrs_dict,Zda,PySem.F.type_dict_setdefault,Ju2⟩
     ·cases h
theorem J21 {o:Expr}{m:Str}{mo:E1}{args:List Expr}{f:Expr->E1}{ap pos:Pos}{T:String}{g:IV->List IV->IH->Res IV}{n:Nat}(hg:bmOf T m n=some g)(ho:PEi ce X o mo)(hf:∀e,PEi ce X e (f e))(ha:args.all Jz=true)(hb:V1 o=true)(hl:(ap.endLine==pos.line)=true)(hn:args.length<30) :
  PEi ce X (.Call (.Attribute o m ap) args [] pos) (eBm T g mo (aAll (args.map f))):=by
 obtain⟨id,pa,sl,ty,mt⟩:=J3k (ce:=ce) (X:=X) hg
 cases args with
 | nil=>exact J31 pa sl ty mt ho (Jcq hb) hl
 | cons a es =>
  have ha':=ha
  simp only[Zah,Zn] at ha'
  exact i_bm pa sl ty mt ho (Vu ha hf) (Jcq hb) (Jyt ha hn) hl (J2 ha'.1) (Xf ha'.2)
theorem Jz0 (G:Good ce k P S X){o:Expr}{m:Str}{mo:E1}{args:List Expr}{f:Expr->E1}{ap pos:Pos}(ho:PEi ce X o mo)(hf:∀e,PEi ce X e (f e))(ha:args.all Jz=true)(hb:V1 o=true)(hl:(ap.endLine==pos.line)=true)(hn:args.length<30) :
  PEi ce X (.Call (.Attribute o m ap) args [] pos) (Jn P m args.length mo (aAll (args.map f))):=by
 refine J4t λ σi h=>?_
 unfold Jn
 cases e:mo σi h with
 | exc n h1=>exact⟨λ _ _=>.stuck,rfl,Ji⟩
 | stuck=>exact⟨λ _ _=>.stuck,rfl,Ji⟩
 | ok v h1 =>
  dsimp only
  split
  ·refine⟨_,rfl,?_⟩
   cases args with
   | nil=>exact Jy2 ho (Jru G m 0) (Jhl hb ha hl hn)
   | cons a es =>
    have ha':=ha
    simp only[Zah,Zn] at ha'
    refine J1e ho (Jru G m (a::es).length) (Vu ha hf) (λ σ h xs h' e=>?_) (J2 ha'.1) (Xf ha'.2) (Jhl hb ha hl hn)
    have:=XW _ σ h xs h' e
    rwa [Zh] at this
  ·cases hg:bmOf (tyS v h1) m args.length with
   | none=>exact⟨λ _ _=>.stuck,rfl,Ji⟩
   | some g=>exact⟨_,rfl,J21 hg ho hf ha hb hl hn⟩
theorem Jvp (G:Good ce k P S X){o:Expr}{m:Str}{mo:E1}{args:List Expr}{f:Expr->E1}{ap pos:Pos}(ho:PEi ce X o mo)(hf:∀e,PEi ce X e (f e))(ha:args.all Jz=true)(hb:V1 o=true)(hl:(ap.endLine==pos.line)=true)(hn:args.length<30) :
  PEi ce X (.Call (.Attribute o m ap) args [] pos) (Jyk P m args.length (Joj P S m o) mo (aAll (args.map f))):=by
 cases eb:Joj P S m o with
 | none=>exact Jz0 G ho hf ha hb hl hn
 | some g =>
  cases o with
  | Name x q =>
   have eb2:(if m=="__init__"&&S.gl x&&P.bas x then P.cls x else none)=some g:=eb
   clear eb
   split at eb2
   ·rename_i hq
    simp only[Zn,beq_iff_eq] at hq
    obtain⟨⟨rfl,hg⟩,hx⟩:=hq
    obtain⟨C,fa,fd,ps,hm,hC,M,D⟩:=G.pg.cls x g eb2
    obtain⟨C',hm',B⟩:=G.pg.bas x hx
    rw[hm] at hm'
    cases hm'
    obtain⟨gl,hdb,_⟩:=G.gl hg
    show PEi ce X _ (if args.length=0 then stE else VU g args.length (aAll (args.map f)))
    split
    ·exact Ji
    rename_i hz
    unfold VU
    cases hd:g.fill args.length with
    | none=>exact Ji
    | some d =>
     obtain⟨ds,hb',hl',q⟩:=Jj5 D hd
     have hr:Room k X.A:=G.room.mono (Zbb k)
     cases args with
     | nil=>exact absurd rfl hz
     | cons a es =>
      have ha':=ha
      simp only[Zah,Zn] at ha'
      refine J07 D.ok hr gl hm B M hb' q (Vu ha hf) (λ σ h xs h' e=>?_) hdb (J2 ha'.1) (Xf ha'.2) (Jhl hb ha hl hn)
      have:=XW _ σ h xs h' e
      rw[Zh] at this
      rw[this]
      exact hl'
   ·cases eb2
  | _=>cases eb
theorem Jz1 (G:Good ce k P S X){a:Expr}{ma:E1}{y:Str}{p p2 pos:Pos}(ha:PEi ce X a ma)(hs:Jz a=true)(hg:S.gl "isinstance"=true)(hfr:P.free "isinstance"=true)(hy:S.gl y=true) :
  PEi ce X (.Call (.Name "isinstance" p) [a,.Name y p2] [] pos) (Jyl (Jt2 P y) ma):=by
 unfold Jyl
 cases e:Jt2 P y with
 | none=>exact Ji
 | some ans =>
  obtain⟨gy,ydb,yn⟩:=G.gl hy
  have fin:∀{c:Za},ClsE X (.Name y p2) c->IsOk ce X.K c ans->PEi ce X (.Call (.Name "isinstance" p) [a,.Name y p2] [] pos) (eIsi ans ma):=λ hc O =>
   J35 hc O ha (G.gl hg).1 (G.pg.free _ hfr) rfl (J2 hs) rfl rfl
  unfold Jt2 at e
  cases hi:P.isa y with
  | some g =>
   rw[hi] at e
   cases e
   obtain⟨c,hm,O⟩:=G.pg.isa y g hi
   exact fin (Jye gy hm ydb) O
  | none =>
   rw[hi] at e
   dsimp only at e
   split at e
   ·rename_i hf
    have hm:=G.pg.free y hf
    split at e
    ·rename_i q;cases (beq_iff_eq.mp q);cases e;exact fin (XZ gy hm rfl yn ydb) Jun
    ·split at e
     ·rename_i q;cases (beq_iff_eq.mp q);cases e;exact fin (XZ gy hm rfl yn ydb) Jsc
     ·split at e
      ·rename_i q;cases (beq_iff_eq.mp q);cases e;exact fin (XZ gy hm rfl yn ydb) Juo
      ·split at e
       ·rename_i q
        cases (beq_iff_eq.mp q)
        cases e
        refine fin (XZ gy hm rfl yn ydb) ?_
        split
        ·rename_i q
         refine Jqg λ C hC=>?_
         obtain⟨C',h1,_,h2⟩:=G.pg.ne _ q
         cases hC.symm.trans h1
         exact h2
        ·exact Jmg
       ·split at e
        ·rename_i q;cases (beq_iff_eq.mp q);cases e;exact fin (XZ gy hm rfl yn ydb) Jup
        ·cases e
   ·cases e
theorem Jvq (G:Good ce k P S X){a:Expr}{ma:E1}{x:Str}{p pos:Pos}(ha:PEi ce X a ma)(hs:Jz a=true)(hg:S.gl x=true)(hfr:P.free x=true)(hx:Jsa x=true) :
  PEi ce X (.Call (.Name x p) [a] [] pos) (eCB (bltF x) (Jb ma Jd)):=by
 obtain⟨gx,xdb,xn⟩:=G.gl hg
 have hm:=G.pg.free x hfr
 have hh:=G.room.hd
 have pa:PAi ce X [a] (Jb ma Jd):=QX ha Vv (J2 hs)
 unfold Jsa at hx
 simp only[Zay,beq_iff_eq] at hx
 rcases hx with((((rfl|rfl)|rfl)|rfl)|rfl)|rfl
 ·exact VD J3m gx hm rfl pa xn xdb (J2 hs) rfl
 ·exact VD (J3l hh) gx hm rfl pa xn xdb (J2 hs) rfl
 ·exact VD (J3p hh) gx hm rfl pa xn xdb (J2 hs) rfl
 ·exact VD Jt4 gx hm rfl pa xn xdb (J2 hs) rfl
 ·exact VD (J0s hh) gx hm rfl pa xn xdb (J2 hs) rfl
 ·exact VD (J0r hh) gx hm rfl pa xn xdb (J2 hs) rfl
theorem Jvr (G:Good ce k P S X){a:Expr}{ma:E1}{x:Str}{p pos:Pos}(ha:PEi ce X a ma)(hs:Jz a=true)(hg:S.gl x=true)(hfr:P.free x=true)(hx:Jsb x=true) :
  PEi ce X (.Call (.Name x p) [a] [] pos) (eCB (bltT x) (Jb ma Jd)):=by
 obtain⟨gx,xdb,xn⟩:=G.gl hg
 have hm:=G.pg.free x hfr
 have pa:PAi ce X [a] (Jb ma Jd):=QX ha Vv (J2 hs)
 unfold Jsb at hx
 simp only[Zay,beq_iff_eq] at hx
 rcases hx with rfl|rfl
 ·exact Jr5 J0q gx hm rfl pa xn xdb (J2 hs) rfl
 ·exact Jr5 Jyd gx hm rfl pa xn xdb (J2 hs) rfl
theorem Jtd (G:Good ce k P S X){f:Expr->E1}(hf:∀e,PEi ce X e (f e)){x:Str}{args:List Expr}{p pos:Pos}(hg:S.gl x=true)(ha:args.all Jz=true)(hfr:P.free x=true) :
  PEi ce X (.Call (.Name x p) args [] pos) (Jjz P S x f args):=by
 unfold Jjz
 split
 ·rename_i a b
  simp only[Zah,Zn] at ha
  obtain⟨gx,xdb,xn⟩:=G.gl hg
  have hm:=G.pg.free x hfr
  have pa:PAi ce X [a,b] (Jb (f a) (Jb (f b) Jd)):=QX (hf a) (QX (hf b) Vv (J2 ha.2.1)) (J2 ha.1)
  have h1:∀pos,(ZaT pos (Z8 [b] X.env)).any (·.1)=false:=λ pos=>Xf (by simp[ha.2.1])
  split
  ·rename_i hs
   cases (beq_iff_eq.mp hs)
   exact VD (J3n G.calm) gx hm rfl pa xn xdb (J2 ha.1) (h1 _)
  ·split
   ·rename_i hs
    cases (beq_iff_eq.mp hs)
    exact VD (J3o G.calm) gx hm rfl pa xn xdb (J2 ha.1) (h1 _)
   ·split
    ·rename_i y p2 _
     split
     ·rename_i hs
      simp only[Zn,beq_iff_eq] at hs
      obtain⟨rfl,hy⟩:=hs
      exact Jz1 G (hf a) ha.1 hg hfr hy
     ·exact Ji
    ·exact Ji
 ·rename_i a
  simp only[Zah,Zn] at ha
  split
  ·rename_i e he
   split at he
   ·rename_i hc
    simp only[Zn,beq_iff_eq] at hc
    obtain⟨⟨rfl,g2⟩,f2⟩:=hc
    unfold Jw7 at he
    split at he
    ·split at he
     ·rename_i hq
      simp only[Zn,beq_iff_eq] at hq
      obtain⟨rfl,ns⟩:=hq
      cases he
      exact Juk G.room.hd (G.gl hg).1 (G.pg.free _ hfr) (G.gl g2).1 (G.pg.free _ f2) (QX (hf e) Vv (J2 ns)) (J2 ns)
     ·cases he
    ·cases he
   ·cases he
  ·split
   ·rename_i e he
    split at he
    ·rename_i hc
     simp only[Zn,beq_iff_eq] at hc
     obtain⟨⟨rfl,g2⟩,f2⟩:=hc
     unfold Jo5 at he
     split at he
     ·split at he
      ·rename_i hq
       simp only[Zn,beq_iff_eq] at hq
       obtain⟨rfl,ns⟩:=hq
       cases he
       exact Ji
      ·cases he
     ·cases he
    ·cases he
   ·split
    ·rename_i hb
     exact Jvq G (hf a) ha.1 hg hfr hb
    ·split
     ·rename_i hb
      exact Jvr G (hf a) ha.1 hg hfr hb
     ·exact Ji
 ·exact Ji
theorem QB.of (G:Good ce k P S X){y:Str}{sc:ZaU}(h:QB S y sc=true):LamSc X.N X.env.scope.names y (Qv sc) (jsOf S sc) sc:=by
 rw[G.n,G.sc]
 simp only[QB,Zn,beq_iff_eq,ZaC,decide_eq_true_eq,Zbh,Zay,beq_eq_false_iff_ne] at h
 obtain⟨⟨⟨⟨⟨⟨⟨h1,h2⟩,h3⟩,h4⟩,h5⟩,h6⟩,h7⟩,h8⟩:=h
 refine⟨h1,h2,h3,h4,h5,λ z hz e=>(h6 z hz).resolve_left λ q=>q e,λ z e=>ZY e,λ i j z ej ez=>?_,by simp[jsOf],h8⟩
 unfold jsOf at ej
 rw[Zt,ez] at ej
 cases ej
 exact h7 z (ZbV ez)
theorem Good.lam (G:Good ce k P S X)(ho:S.own=true){y:Str}{sc:ZaU}(h:QB S y sc=true)(f:Zd)(cd:Za)(s:Zc)(H:Hp):Good ce k P (S.lam y sc) (cxL X X.A.in1 (y::Qv sc) S.q sc f cd s H):=by
 have L:=QB.of G h
 exact⟨rfl,rfl,L.nd,L.kind,rfl,(G.room3 ho).in1.deeper _,λ z=>absurd z Zp,G.pg,λ z=>absurd z Zp,λ z=>absurd z Zp,λ z=>absurd z Zp⟩
theorem Good.lam2 (G:Good ce k P S X)(ho:S.own=true){y:Str}{sc:ZaU}(h:QB S y sc=true)(f:Zd)(cd:Za)(s:Zc)(H:Hp):Good ce k P (S.lam y sc) (cxL X X.A.in1.in1 (y::Qv sc) S.q sc f cd s H):=by
 have L:=QB.of G h
 have R:=G.room3 ho
 refine⟨rfl,rfl,L.nd,L.kind,rfl,⟨R.hd,?_,?_⟩,λ z=>absurd z Zp,G.pg,λ z=>absurd z Zp,λ z=>absurd z Zp,λ z=>absurd z Zp⟩
 ·have:=R.dp
  show X.A.depth+1+3*(k+1)+5<_
  omega
 ·have:=R.un
  show X.A.units+1+1+3+16*(k+1)+200<_
  omega
theorem Jqy (G:Good ce k P S X){f:Sc->Expr->E1}(hf:∀S X e,Good ce k P S X->PEi ce X e (f S e)){x y y2:Str}{a d body:Expr}{ps:ZbO}{sc:ZaU}{p pos lp kp kp2:Pos}:PEi ce X (.Call (.Name x p) [a] [⟨some y,.Lambda ps body sc lp,kp⟩,⟨some y2,d,kp2⟩] pos) (Jte P S f x a y ps body sc y2 d):=by
 unfold Jte
 split
 ·rename_i e z j he hy hj
  split
  ·rename_i hq
   simp only[Zn,beq_iff_eq] at hq
   obtain⟨⟨⟨⟨⟨⟨⟨⟨⟨rfl,rfl⟩,rfl⟩,ht⟩,g1⟩,f1⟩,g2⟩,f2⟩,ho⟩,ok⟩:=hq
   unfold Jo5 at he
   unfold J1h at ht
   split at he
   ·split at he
    ·rename_i hc
     simp only[Zn,beq_iff_eq] at hc
     obtain⟨rfl,ns⟩:=hc
     cases he
     split at ht
     ·exact Jum (k:=k) G.room.hd (G.gl g1).1 (G.pg.free _ f1) (G.gl g2).1 (G.pg.free _ f2) (QX (hf _ _ _ G) Vv (J2 ns)) (J2 ns) (G.room3 ho) (G.code ho).1 (G.code ho).2 (G.pg.blt _ _ hj) hy (QB.of G ok) λ f cd s' H'=>hf _ _ _ (G.lam2 ho ok f cd s' H')
     ·cases ht
    ·cases he
   ·cases he
  ·exact Ji
 ·exact Ji
theorem Jvu (G:Good ce k P S X){f:Sc->Expr->E1}(hf:∀S X e,Good ce k P S X->PEi ce X e (f S e)){x y:Str}{a d:Expr}{p pos kp:Pos}:PEi ce X (.Call (.Name x p) [a] [⟨some y,d,kp⟩] pos) (minK P S f x a y d):=by
 cases d with
 | Lambda ps body sc lp =>
  show PEi ce X _ (match Vf ps,P.tabs S.q with|some z,some j=>if x=="min"&&y=="key"&&S.gl x&&P.free x&&Jz a&&S.own&&QB S z sc then Xu ltT S.q j (jsOf S sc) (Jb (f S a) Jd) (f (S.lam z sc) body) else stE|_,_=>stE)
  cases hy:Vf ps with
  | none=>exact Ji
  | some z =>
   cases hj:P.tabs S.q with
   | none=>exact Ji
   | some j =>
    dsimp only
    split
    ·rename_i hq
     simp only[Zn,beq_iff_eq] at hq
     obtain⟨⟨⟨⟨⟨⟨rfl,rfl⟩,g1⟩,f1⟩,ns⟩,ho⟩,ok⟩:=hq
     exact J1f (k:=k+1) (G.gl g1).1 (G.pg.free _ f1) (QX (hf _ _ _ G) Vv (J2 ns)) (λ A h=>Jyf (by omega)) (J2 ns) (G.room3 ho) (G.code ho).1 (G.code ho).2 (G.pg.blt _ _ hj) hy (QB.of G ok) λ f cd s' H'=>hf _ _ _ (G.lam ho ok f cd s' H')
    ·exact Ji
 | _=>exact Ji
theorem J22 (G:Good ce k P S X){f:Sc->Expr->E1}(hf:∀S X e,Good ce k P S X->PEi ce X e (f S e)){x:Str}{args:List Expr}{kws:List Zc8}{p pos:Pos}:PEi ce X (.Call (.Name x p) args kws pos) (Jsj P S f x args kws):=by
 unfold Jsj
 split
 ·split
  ·rename_i hq
   simp only[Zn,beq_iff_eq] at hq
   obtain⟨⟨⟨⟨rfl,rfl⟩,g1⟩,f1⟩,ns⟩:=hq
   exact J1d G.room.hd (G.gl g1).1 (G.pg.free _ f1) (QX (hf _ _ _ G) Vv (J2 ns)) (hf _ _ _ G) (J2 ns)
  ·exact Jvu G hf
 ·exact Jqy G hf
 ·exact Ji
theorem Jvw (ih:Snd ce k P n):Snd ce k P (n+1):=by
 refine⟨λ S X e G=>?_,λ S X e G=>?_,λ S X e G=>?_,λ S X x args p pos G hg ha=>?_,λ S X tg e G=>?_,λ S X e G=>?_⟩
 ·have ihe:=λ e=>ih.e S X e G
  have hu:=G.room.units
  cases e with
  | Constant c j p =>
   cases c with
   | int i=>exact J34
   | bool b=>exact i_bl
   | none=>exact J37
   | str x=>exact J38
   | _=>exact Ji
  | Name x p =>
   show PEi ce X (.Name x p) (match S.vis x with|some i=>Ja i|none=>if S.gl x then(match P.con x with|some v=>eC v|none=>stE) else stE)
   cases hv:S.vis x with
   | some i =>
    obtain⟨h1,h2,h3,h4⟩:=G.vis hv
    exact J4a i h1 h2 h3 h4
   | none =>
    dsimp only
    split
    ·rename_i hg
     obtain⟨gx,xdb,_⟩:=G.gl hg
     cases hc:P.con x with
     | none=>exact Ji
     | some v =>
      obtain⟨u,y,hm,r,q⟩:=G.pg.con x v hc
      exact J1b gx hm r q xdb
    ·exact Ji
  | BinOp a op b p=>exact J30 (J4f op) (ihe a) (ihe b)
  | UnaryOp op a p=>exact i_un (o_un op) (ihe a)
  | BoolOp op vs p =>
   cases op with
   | And=>exact Jwt ihe vs
   | Or=>exact J0w ihe vs
  | IfExp t a b p=>exact Jy0 (ih.t S X t G) (ihe a) (ihe b)
  | Compare a ops cs p =>
   match ops,cs with
   | [o],[b] =>
    show PEi ce X _ (if Zcj o b then stE else Jc (cmpD P.ne o b) (ev P n S a) (ev P n S b))
    split
    ·exact Ji
    ·rename_i hb
     exact J32 (Jw3 hu (λ c z=>let ⟨C,p,q,_⟩:=G.pg.ne c z;⟨C,p,q⟩) o b) (ihe a) (ihe b) (ZbS.mpr hb)
   | [o,o'],[b,c] =>
    show PEi ce X _ (if Zd9 [o,o'] [b,c] then stE else JR (cmpI o) (cmpI o') (ev P n S a) (ev P n S b) (ev P n S c))
    split
    ·exact Ji
    ·rename_i hb
     exact Jyz (Yn hu o) (Yn hu o') (ihe a) (ihe b) (ihe c) (ZbS.mpr hb)
   | [],_=>exact Ji
   | [_],[]=>exact Ji
   | [_],_::_::_=>exact Ji
   | [_,_],[]=>exact Ji
   | [_,_],[_]=>exact Ji
   | [_,_],_::_::_::_=>exact Ji
   | _::_::_::_,_=>exact Ji
  | Tuple es j p =>
   show PEi ce X _ (if es.all Jz then J8 (aAll (es.map (ev P n S))) else stE)
   split
   ·rename_i hs
    exact J39 (Vu hs ihe)
   ·exact Ji
  | List es p =>
   show PEi ce X _ (if es.all Jz then Js (aAll (es.map (ev P n S))) else stE)
   split
   ·rename_i hs
    exact J36 (Vu hs ihe)
   ·exact Ji
  | Dict ks vs p =>
   match ks,vs with
   | [some k],[v]=>exact Ji
   | [],[]=>exact J09
   | [],_::_=>exact Ji
   | [none],_=>exact Ji
   | [some _],[]=>exact Ji
   | [some _],_::_::_=>exact Ji
   | some _::_::_,_=>exact Ji
   | none::_::_,_=>exact Ji
  | Subscript a i p =>
   cases i with
   | Slice lo hi st q =>
    cases st with
    | none=>exact Jy3 (J5g a) (ihe a) (ih.o S X lo G) (ih.o S X hi G)
    | some st=>exact Ji
   | _=>exact i_ix (J5f a) (ihe a) (ihe _) (Juu rfl)
  | Attribute o f p =>
   show PEi ce X _ (if V1 o&&P.fld f then Jo f (ev P n S o) else stE)
   split
   ·rename_i hs
    simp only[Zn] at hs
    exact J33 (ihe o) (G.pg.fld f hs.2) (Jcq hs.1)
   ·exact Ji
  | Call f args kws p =>
   cases kws with
   | cons kw kws =>
    cases f with
    | Name x q=>exact J22 G λ S X e G=>ih.e S X e G
    | _=>exact Ji
   | nil =>
    cases f with
    | Name x q =>
     show PEi ce X _ (if S.gl x&&args.all Jz then Jrz P n S x args else stE)
     split
     ·rename_i hs
      simp only[Zn] at hs
      exact ih.c S X x args q p G hs.1 hs.2
     ·exact Ji
    | Attribute o m ap =>
     show PEi ce X _ (if args.all Jz&&V1 o&&(ap.endLine==p.line)&&decide (args.length<30) then Jyk P m args.length (Joj P S m o) (ev P n S o) (aAll (args.map (ev P n S))) else stE)
     split
     ·rename_i hs
      simp only[Zn,decide_eq_true_eq] at hs
      exact Jvp G (ihe o) ihe hs.1.1.1 hs.1.1.2 hs.1.2 hs.2
     ·exact Ji
    | _=>exact Ji
  | ListComp elt gens sc p =>
   match gens with
   | [⟨tg,iter,ifs,as⟩] =>
    show PEi ce X _ (if as=0/\X3 iter=true/\Q6 S.N (V0 sc) (Qv sc) (jsOf S sc) S.fake sc=true then
     Jrn ifs (evT P n (S.comp sc)) (λ mt=>Jy (evI P n S tg iter) (V0 sc).length (jsOf S sc) (tgt P n (S.comp sc) tg) mt (ev P n (S.comp sc) elt)) else stE)
    split
    ·rename_i hs
     obtain⟨rfl,hi,ok⟩:=hs
     have Gc:=G.comp ok
     have ok':=ok
     rw[<- Jly G] at ok'
     match ifs with
     | []=>exact Jwv G.calm (ih.i S X tg iter G) (λ C s H fp=>ih.g _ _ tg (Gc C s H fp)) (λ C s H fp=>Jxf) (λ C s H fp=>ih.e _ _ elt (Gc C s H fp)) ok' G.n rfl (Yf hi)
     | [c]=>exact Jwv G.calm (ih.i S X tg iter G) (λ C s H fp=>ih.g _ _ tg (Gc C s H fp)) (λ C s H fp=>Jxg (ih.t _ _ c (Gc C s H fp))) (λ C s H fp=>ih.e _ _ elt (Gc C s H fp)) ok' G.n rfl (Yf hi)
     | _::_::_=>exact Ji
    ·exact Ji
   | []=>exact Ji
   | ⟨_,_,_,_⟩::_::_=>exact Ji
  | _=>exact Ji
 ·have ihe:=λ e=>ih.e S X e G
  have hu:=G.room.units
  cases e with
  | UnaryOp op a p =>
   cases op with
   | Not=>exact J46 (ih.t S X a G)
   | _=>exact J25 Yw (ihe _)
  | BoolOp op vs p =>
   cases op with
   | And=>exact(Jxb (λ e=>ih.t S X e G) vs).t
   | Or=>exact(J24 (λ e=>ih.t S X e G) vs).t
  | IfExp t a b p=>exact Ji
  | Compare a ops cs p =>
   match ops,cs with
   | [o],[b] =>
    show PTi ce X _ (if Zcj o b then stT else Jg asB (Jc (cmpD P.ne o b) (ev P n S a) (ev P n S b)))
    split
    ·exact Ji
    ·rename_i hb
     exact J45 (Jw3 hu (λ c z=>let ⟨C,p,q,_⟩:=G.pg.ne c z;⟨C,p,q⟩) o b) (ihe a) (ihe b) (ZbS.mpr hb)
   | [o,o'],[b,c] =>
    show PTi ce X _ (if Zd9 [o,o'] [b,c] then stT else Jg asB (JR (cmpI o) (cmpI o') (ev P n S a) (ev P n S b) (ev P n S c)))
    split
    ·exact Ji
    ·rename_i hb
     exact Jz9 (Yn hu o) (Yn hu o') (ihe a) (ihe b) (ihe c) (ZbS.mpr hb)
   | [],_=>exact Ji
   | [_],[]=>exact Ji
   | [_],_::_::_=>exact Ji
   | [_,_],[]=>exact Ji
   | [_,_],[_]=>exact Ji
   | [_,_],_::_::_::_=>exact Ji
   | _::_::_::_,_=>exact Ji
  | _=>exact J25 Yw (ihe _)
 ·cases e with
  | none=>exact J2e
  | some e=>exact J2f (ih.e S X e G)
 ·have ihe:=λ e=>ih.e S X e G
  show PEi ce X _ (match P.fn x with
  | some f=>VU f args.length (aAll (args.map (ev P n S)))
  | none=>match P.cls x with
   | some f=>Jos x f args.length (aAll (args.map (ev P n S)))
   | none=>if P.free x then Jjz P S x (ev P n S) args else stE)
  cases hx:P.fn x with
  | some f=>exact Jvs G hx hg ha ihe
  | none =>
   dsimp only
   cases hc:P.cls x with
   | some f=>exact Jvt G hc hg ha ihe
   | none =>
    dsimp only
    split
    ·rename_i hfr
     exact Jtd G ihe hg ha hfr
    ·exact Ji
 ·have ihe:=λ e=>ih.e S X e G
  cases e with
  | Call f args kws p =>
   cases kws with
   | cons _ _=>cases f<;>exact Juj (ihe _)
   | nil =>
    cases f with
    | Name x q =>
     show PIi ce X tg _ (if S.gl x&&P.free x&&args.all Jz&&(x=="range") then J06 args.length (aAll (args.map (ev P n S)))
      else if S.gl x&&P.free x&&args.all Jz&&(x=="enumerate") then(match tg,args with
       | .Tuple ..,[a]=>iRg QM (Jb (ev P n S a) Jd)
       | _,_=>stI)
      else Ju (ev P n S (.Call (.Name x q) args [] p)))
     split
     ·rename_i hs
      simp only[Zn,beq_iff_eq] at hs
      obtain⟨⟨⟨hg,hf⟩,ha⟩,rfl⟩:=hs
      obtain⟨gx,_,_⟩:=G.gl hg
      have hm:=G.pg.free _ hf
      have pa:=Vu ha ihe
      match args,ha,pa with
      | [],_,_=>exact Yq
      | [a],ha,pa =>
       simp only[Zah,Zn] at ha
       exact Jul gx hm pa (J2 ha.1)
      | [a,b],ha,pa =>
       simp only[Zah,Zn] at ha
       exact Yq
      | _::_::_::_,_,_=>exact Yq
     ·split
      ·rename_i hs
       simp only[Zn,beq_iff_eq] at hs
       obtain⟨⟨⟨hg,hf⟩,ha⟩,rfl⟩:=hs
       obtain⟨gx,_,_⟩:=G.gl hg
       have hm:=G.pg.free _ hf
       split
       ·simp only[Zah,Zn] at ha
        exact J1a gx hm (QX (ihe _) Vv (J2 ha.1)) (J2 ha.1)
       ·exact Yq
      ·exact Juj (ihe _)
    | _=>exact Juj (ihe _)
  | _=>exact Juj (ihe _)
 ·cases e with
  | Name x p =>
   show PGi ce X _ (match S.sto x with|some i=>gNm i|none=>stG)
   cases hv:S.sto x with
   | none=>exact X6
   | some i =>
    obtain⟨h1,h2,h3⟩:=G.sto hv
    exact g_nm G.nodup h1 h2 h3
  | Tuple es j p =>
   show PGi ce X _ (if es.all Jz then gTp es.length (gAll (es.map (tgt P n S))) else stG)
   split
   ·rename_i hs
    exact J3w G.calm (Jwu hs λ e=>ih.g S X e G) (Jwo hs) (Jrc hs)
   ·exact X6
  | Subscript o i p =>
   show PGi ce X _ (if VZ i then gSbF o (ev P n S o) (ev P n S i) else stG)
   split
   ·rename_i hs
    unfold gSbF
    split
    ·refine J00 (ih.e S X o G) (ih.e S X i G) λ v=>?_
     cases i<;>first|rfl|cases hs
    ·exact X6
   ·exact X6
  | _=>exact X6
theorem Jkp (ce:Str->Option Zd)(k:Nat)(P:Pg):∀n,Snd ce k P n
 | 0=>Jvx
 | n+1=>Jvw (Jkp ce k P n)
end
section
variable {ce:Str->Option Zd}{X:Cx}{pos:Pos}
theorem Jzx {c:Expr}{body:List ZcY}{mt:T1}{mb:S1}(hc:PTi ce X c mt)(hb:PS2 ce X body mb):PS1 ce X (.While c body [] pos) (Xb mt mb):=by
 intro pins s σ H ι σi h Q E N K
 unfold Xb at K
 generalize XL=m0 at K
 refine wpAny_While (codeAny_whileLoop (λ n s'=>∃ιk σk hk σ' H',Now ce X pins ιk σk hk σ' H' s'/\Nxt ι H ιk H'/\JF ce X pins ιk H' (V4 mt mb n σk hk) Q E) ?_ m0 ⟨ι,σi,h,σ,H,N,.refl,K⟩)
 rintro n s1 ⟨ι1,σ1i,h1,σ1,H1,N1,n1,K1⟩
 cases n with
 | zero=>exact Zf K1
 | succ n =>
  unfold V4 at K1
  refine nof (hc pins s1 σ1 H1 ι1 σ1i h1 _ (λ _ _=>False) N1 ?_)
  cases et:mt σ1i h1 with
  | exc m h2=>rw[et] at K1;exact Zf K1
  | stuck=>rw[et] at K1;exact Zf K1
  | ok b h2 =>
   rw[et] at K1
   intro b' s2 H2 ι2 N2 n2 r2
   have r':b'=b:=r2
   subst r'
   dsimp only at K1
   cases b' with
   | false=>exact ZcZ (K1 s2 σ1 H2 ι2 N2 n2)
   | true =>
    rw[if_pos rfl]
    rw[if_pos rfl] at K1
    refine nof (hb pins s2 σ1 H2 ι2 σ1i h2 _ (λ _ _=>False) N2 ?_)
    cases eb:mb σ1i h2 with
    | next σ3 h3 =>
     rw[eb] at K1
     exact λ s3 σ3' H3 ι3 N3 n3=>⟨n,Zaz n,ι3,σ3,h3,σ3',H3,N3,(n1.trans n2).trans n3,JF.mono (r:=V4 mt mb n σ3 h3) K1 (n2.trans n3)⟩
    | cont σ3 h3 =>
     rw[eb] at K1
     exact λ s3 σ3' H3 ι3 N3 n3=>⟨n,Zaz n,ι3,σ3,h3,σ3',H3,N3,(n1.trans n2).trans n3,JF.mono (r:=V4 mt mb n σ3 h3) K1 (n2.trans n3)⟩
    | brk σ3 h3 =>
     rw[eb] at K1
     exact λ s3 σ3' H3 ι3 N3 n3=>K1 s3 σ3' H3 ι3 N3 (n2.trans n3)
    | ret v h3 =>
     rw[eb] at K1
     exact λ u s3 σ3i σ3' H3 ι3 N3 n3 r=>K1 u s3 σ3i σ3' H3 ι3 N3 (n2.trans n3) r
    | exc m σ3 h3=>rw[eb] at K1;exact Zf K1
    | stuck=>rw[eb] at K1;exact Zf K1
theorem o_ip (op:Zcm):OpI ce X (inplaceOp op) (ipI op):=by
 intro pins s σ H ι σi h x y v u Q E N rx ry K
 cases op with
 | Add =>
  obtain⟨xv,rx,qx⟩:=rx
  obtain⟨yv,ry,qy⟩:=ry
  cases x with
  | int i =>
   cases y with
   | int j =>
    cases (show xv=.int i from qx)
    cases (show yv=.int j from qy)
    obtain⟨t,rfl⟩:=rx
    obtain⟨t',rfl⟩:=ry
    exact iadd_int (K _ _ H ι ⟨N.inv.tok _,N.rel,N.st⟩ .refl ⟨.int (i+j),⟨_,rfl⟩,rfl⟩)
   | _=>exact Zf K
  | _=>cases y<;>exact Zf K
 | _=>cases x<;>cases y<;>exact Zf K
theorem J40 {i:Nat}{x:Str}{e:Expr}{me:E1}{op:Zcm}{pos':Pos}(hN:X.N.Nodup)(he:PEi ce X e me)(hi:X.N[i]?=some x)(hx:Loc X.env.scope x)(hf:X.fn x=true∨X.env.scope.names.lookup x=some .local) :
  PS1 ce X (.AugAssign (.Name x pos') op e pos) (sAug op i me):=by
 intro pins s σ H ι σi h Q E N K
 refine wpAny_AugAssign_Name ?_
 unfold sAug at K
 cases ev:Ja i σi h with
 | exc n h1=>exfalso;unfold Ja at ev;split at ev<;>cases ev
 | stuck=>rw[ev] at K;exact Zf K
 | ok v h1 =>
  rw[ev] at K
  obtain⟨e1,rfl⟩:σi[i]?=some (some v)/\h1=h:=by
   unfold Ja at ev
   split at ev
   ·rename_i q;cases ev;exact⟨q,rfl⟩
   ·cases ev
  obtain⟨w,hw,qw⟩:=N.st.at_ i v e1
  obtain⟨m,hn,hl⟩:=N.inv.loc
  have vis:Vis X.env.scope x:=by rcases hx with k|k;exact .inl k;exact .inr (.inl k)
  obtain⟨u,r,l⟩:=hl i x w hi hw vis
  have go:Zs (Z6 X.prog X.w) X.A (ZaK e X.env) (λ w s₂=>Zs (Z6 X.prog X.w) X.A (inplaceOp op u w) (λ r s₃=>Zs (Z6 X.prog X.w) X.A (storeName X.env x r) (λ _=>Q .next) E s₃) E s₂) E s:=by
   refine krun he N K λ y h2 uy s2 H2 ι2 N2 n2 r2 K2=>?_
   refine o_ip op pins s2 σ H2 ι2 σi h2 v y u uy _ E N2 ⟨w,r,RV.mono n2 _ _ qw⟩ r2 ?_
   cases ez:ipI op v y h2 with
   | exc n h3 =>
    rw[ez] at K2
    exact λ pl a s' H' ι' N' n' q=>K2 pl a s' σ H' ι' N' n' q s' (.inl rfl)
   | stuck=>rw[ez] at K2;exact K2
   | ok z h3 =>
    rw[ez] at K2
    intro uz s3 H3 ι3 N3 n3 r3
    obtain⟨zv,rz,qz⟩:=r3
    exact Jf7 N3.inv hN hi hx rz (λ s4 I4=>K2 s4 _ H3 ι3 ⟨I4,N3.rel,N3.st.set i qz⟩ n3) hf
  rcases l with⟨hk,hm⟩|⟨hk,c,hc,hcell⟩
  ·exact wpAny_loadName_local N.inv.ok.kind hk hn hm go
  ·rcases hk with hk|hk
   ·exact wpAny_loadName_cell N.inv.ok.kind hk hc hcell go
   ·rcases hx with k|k
    ·have:X.env.scope.names.lookup x=some .free:=hk
     rw[k] at this;cases this
    ·have:X.env.scope.names.lookup x=some .free:=hk
     rw[k] at this;cases this
theorem J2r {fl:Str}{o e:Expr}{mo me:E1}{op:Zcm}{tpos:Pos}(ho:PEi ce X o mo)(he:PEi ce X e me)(hf:XV ce X.K fl):PS1 ce X (.AugAssign (.Attribute o fl tpos) op e pos) (XD op fl mo me):=by
 intro pins s σ H ι σi h Q E N K
 refine wpAny_AugAssign_AttributeAny (krun ho N K λ ov h1 w s1 H1 ι1 N1 n1 r1 K1=>?_)
 cases ov with
 | ref i =>
  obtain⟨w,rw',a,e1,hi⟩:=r1
  subst e1
  cases rw'
  dsimp only at K1
  cases hh:h1[i]? with
  | none=>rw[hh] at K1;exact Zf K1
  | some ob =>
   cases ob with
   | ins c fs =>
    rw[hh] at K1
    dsimp only at K1
    cases hl:fs.lookup fl with
    | none=>rw[hl] at K1;exact Zf K1
    | some x =>
     rw[hl] at K1
     obtain⟨C,dx,vs,hC,hH,rp⟩:=N1.at hh hi
     obtain⟨cl,na⟩:=hf c C hC
     obtain⟨y,hy,q⟩:=(RPs.lookup rp).1 x hl
     refine Jiv N1.inv hH cl na hy λ u' s2 I2 ru=>?_
     refine krun he (⟨I2,N1.rel,N1.st⟩:Now ce X pins ι1 σi h1 σ H1 s2) K1 λ z h3 uz s3 H3 ι3 N3 n3 r3 K3=>?_
     refine o_ip op pins s3 σ H3 ι3 σi h3 x z u' uz _ E N3 ⟨y,ru,RV.mono n3 _ _ q⟩ r3 ?_
     cases ez:ipI op x z h3 with
     | exc n h4 =>
      rw[ez] at K3
      exact λ pl a s' H' ι' N' n' q=>K3 pl a s' σ H' ι' N' n' q s' (.inl rfl)
     | stuck=>rw[ez] at K3;exact K3
     | ok v h4 =>
      rw[ez] at K3
      intro uv s4 H4 ι4 N4 n4 r4
      dsimp only[rS] at K3
      have hi4:ι4[i]?=some a:=n4.at (n3.at hi)
      cases h4i:h4[i]? with
      | none=>rw[h4i] at K3;exact Zf K3
      | some ob =>
       cases ob with
       | ins c' gs =>
        rw[h4i] at K3
        dsimp only at K3
        split at K3
        ·rename_i hz
         obtain⟨C',dx',vs',hC',hH',rp'⟩:=N4.at h4i hi4
         obtain⟨cl',na'⟩:=hf c' C' hC'
         obtain⟨yv,ryv,qv⟩:=r4
         refine Ji1 N4.inv hH' cl' na' (by rw[rp'.length];exact hz) ryv λ s5 I5=>?_
         have n5:Nxt ι4 H4 ι4 (upd H4 a (.ins C' dx' (putF fl yv vs'))):=⟨⟨[],by simp⟩,Ext.upd_mut hH' (by rw[hH'];exact Zaj)⟩
         obtain⟨R5,_⟩:=N4.rel.write (o:=.ins C' dx' (putF fl yv vs')) (io:=.ins c' (putI fl v gs)) hi4 hH' (by rw[hH'];exact Zaj) ⟨C',dx',_,hC',J7,RPs.put (RV.mono n5 _ _ qv) (RPs.mono n5 _ _ rp')⟩
         exact K3 s5 σ _ ι4 ⟨I5,R5,N4.st.mono n5⟩ (n4.trans n5)
        ·exact Zf K3
       | _=>rw[h4i] at K3;exact Zf K3
   | _=>rw[hh] at K1;exact Zf K1
 | _=>exact Zf K1
theorem J01:OpI ce X ZdM ixL:=by
 intro pins s σ H ι σi h x y v u Q E N rx ry K
 obtain⟨xv,rx,qx⟩:=rx
 obtain⟨yv,ry,qy⟩:=ry
 cases x with
 | ref i =>
  cases y with
  | int k =>
   obtain⟨a,rfl,ha⟩:=qx
   cases (show yv=.int k from qy)
   cases rx
   obtain⟨t,rfl⟩:=ry
   dsimp only[ixL] at K
   cases hi:h[i]? with
   | none=>rw[hi] at K;exact Zf K
   | some ob =>
    rw[hi] at K
    cases ob with
    | lst xs =>
     dsimp only at K
     cases hk:atI xs k with
     | none=>rw[hk] at K;exact Zf K
     | some z =>
      rw[hk] at K
      dsimp only at K
      split at K
      ·rename_i h0
       obtain⟨vs,e1,r1⟩:=N.at hi ha
       obtain⟨w,hw,qw⟩:=Ji6 r1 hk
       obtain⟨its,r,pl,hz⟩:=N.inv.list (SqL.of e1)
       obtain⟨j,g1,g2,g3,g4,g5⟩:=Ji5 hw
       obtain⟨w',ew,rw'⟩:=r.get g2
       have hn:=VX
       have hj:k.toNat=j:=by
        rw[Zee h0 g5] at g1
        exact Zab g1
       exact wpAny_getItem_list pl.isList h0 (by omega) (by rw[hj];simpa using ew) (K _ _ H ι N .refl ⟨w,rw',qw⟩)
      ·exact Zf K
    | _=>exact Zf K
  | _=>exact Zf K
 | _=>cases y<;>exact Zf K
theorem J1s {f:Za->Za->Sem Za}{g:IV->IV->IH->Res IV}(p:OpI ce X f g){pins:List (Zd×Obj)}{s:Zc}{σ:L2.St}{H:Hp}{ι:List Zd}{σi:ISt}{h:IH}{x y:IV}{v u:Za}(N:Now ce X pins ι σi h σ H s)(rx:RU X.K ι H x v)(ry:RU X.K ι H y u)
  {k:IV->IH->SRes}{Q:Flow->Zc->Prop}{E:Za->Zc->Prop}{Q1:Za->Zc->Prop}(K:JF ce X pins ι H (rS σi (g x y h) k) Q E)
  (step:∀z h1 w s1 H1 ι1,Now ce X pins ι1 σi h1 σ H1 s1->Nxt ι H ι1 H1->RU X.K ι1 H1 z w->JF ce X pins ι1 H1 (k z h1) Q E->Q1 w s1):Zs (Z6 X.prog X.w) X.A (f v u) Q1 E s:=by
 refine p pins s σ H ι σi h x y v u Q1 E N rx ry ?_
 cases e:g x y h with
 | ok z h' =>
  rw[e] at K
  exact λ w s' H' ι' N' n' r=>step z h' w s' H' ι' N' n' r (JF.mono (r:=k z h') K n')
 | exc n h' =>
  rw[e] at K
  exact λ pl a s' H' ι' N' n' q=>K pl a s' σ H' ι' N' n' q s' (.inl rfl)
 | stuck =>
  rw[e] at K
  exact K
theorem J20 {pins:List (Zd×Obj)}{s:Zc}{σ:L2.St}{H:Hp}{ι:List Zd}{σi:ISt}{h:IH}{o i v:IV}{ou iu u:Za}{Q:Flow->Zc->Prop}{E:Za->Zc->Prop}(N:Now ce X pins ι σi h σ H s)(ro:RU X.K ι H o ou)(ri:RU X.K ι H i iu)(rv:RU X.K ι H v u)
  (K:JF ce X pins ι H (setI o i v σi h) Q E):Zs (Z6 X.prog X.w) X.A (setItem ou iu u) (λ _=>Q .next) E s:=by
 obtain⟨ox,ro,qo⟩:=ro
 obtain⟨ix,ri,qi⟩:=ri
 obtain⟨vx,rvx,qv⟩:=rv
 cases o with
 | ref i =>
  rename_i iv
  cases iv with
  | int k =>
   obtain⟨a,rfl,haa⟩:=qo
   cases (show ix=.int k from qi)
   dsimp only[setI] at K
   cases hh:h[i]? with
   | none=>rw[hh] at K;exact Zf K
   | some ob =>
    rw[hh] at K
    cases ob with
    | lst xs =>
     dsimp only at K
     cases hj:ixN xs.length k with
     | none=>rw[hj] at K;exact Zf K
     | some j =>
      rw[hj] at K
      obtain⟨ws,e1,r1'⟩:=N.at hh haa
      refine Zae (Jvn (X:=X.wish E) pins s σ H (.ref a) (.int k) vx ou iu u (λ H'=>H'=upd H a (.lst (ws.set j vx))) (N.inv.wish E) ro ri rvx ⟨a,ws,k,j,rfl,rfl,e1,by rw[r1'.length];exact hj,rfl⟩) (λ _ s3 hq=>?_) λ _ _ z=>z
      obtain⟨H',I',rfl⟩:=hq
      have n:Nxt ι H ι (upd H a (.lst (ws.set j vx))):=⟨⟨[],by simp⟩,Ext.upd_mut e1 (by rw[e1];exact Zaj)⟩
      obtain⟨R3,_⟩:=N.rel.write (o:=.lst (ws.set j vx)) (io:=.lst (xs.set j v)) haa e1 (by rw[e1];exact Zaj) ⟨_,J7,(RVs.mono n _ _ r1').set (RV.mono n _ _ qv) j⟩
      exact K s3 σ _ ι ⟨I'.unwish,R3,N.st.mono n⟩ n
    | _=>exact Zf K
  | _=>exact Zf K
 | _=>cases i<;>exact Zf K
theorem J2s {o i e:Expr}{mo mi me:E1}{op:Zcm}{tpos:Pos}(ho:PEi ce X o mo)(hi:PEi ce X i mi)(he:PEi ce X e me)(hs:VZ i=true):PS1 ce X (.AugAssign (.Subscript o i tpos) op e pos) (XE op mo mi me):=by
 intro pins s σ H ι σi h Q E N K
 refine wpAny_AugAssign_SubscriptAny (krun ho N K λ ov h1 ou s1 H1 ι1 N1 n1 r1 K1=>krun hi N1 K1 λ kv h2 ku s2 H2 ι2 N2 n2 r2 K2=>?_) (λ _ _ _=>by cases i<;>first|rfl|cases hs)
 refine J1s J01 N2 (r1.mono n2) r2 K2 λ x h3 xu s3 H3 ι3 N3 n3 r3 K3=>?_
 refine krun he N3 K3 λ y h4 yu s4 H4 ι4 N4 n4 r4 K4=>?_
 refine J1s (o_ip op) N4 (r3.mono n4) r4 K4 λ z h5 zu s5 H5 ι5 N5 n5 r5 K5=>?_
 exact J20 N5 ((((r1.mono n2).mono n3).mono n4).mono n5) (((r2.mono n3).mono n4).mono n5) r5 K5
end
section
variable {ce:Str->Option Zd}{k:Nat}{P:Pg}{n:Nat}{S:Sc}{X:Cx}
theorem XC {f:ZcY->S1}(hf:∀s,PS1 ce X s (f s)):∀(l:List ZcY),PS2 ce X l (sAll (l.map f))
 | []=>J2o
 | [a]=>J2p (hf a)
 | a::b::r=>Jzs (hf a) (XC hf (b::r))
end
section
variable {ce:Str->Option Zd}{k:Nat}{P:Pg}{S:Sc}{X:Cx}{xi:Xi}{xf:Str->Str->Bool}{fr:Str->Bool}
end
section
variable {ce:Str->Option Zd}{k:Nat}{P:Pg}{n:Nat}{S:Sc}{X:Cx}
theorem Jxw {tg:Expr}{env:Env}(h:Jz tg=true):(ZaA [tg] env).map (·.2)=[ZdN tg env]:=by
 cases tg<;>first|rfl|cases h
theorem Jvv (G:Good ce k P S X)(i:Nat){e:Expr}{x:Str}{p q:Pos}(h:isLC e=true)(h1:X.N[i]?=some x)(h2:L2.Loc X.env.scope x)(h3:X.fn x=true∨X.env.scope.names.lookup x=some .local) :
  PS1 ce X (.Assign [.Name x q] e p) (Jh i (ev P n S e)):=by
 cases e with
 | ListComp elt gens sc cp =>
  cases hb:(X.env.blockKind==.function&&X.env.kindOf x==some .local&&q.line==cp.line&&!(sc.names.any λ (n,k)=>n==x&&(k==.local||k==.cell))) with
  | false =>
   refine J2x G.nodup ((Jkp ce k P n).e S X _ G) h1 h2 ?_ h3
   show(pure (X.env.blockKind==.function&&X.env.kindOf x==some .local&&q.line==cp.line&&!(sc.names.any λ (n,k)=>n==x&&(k==.local||k==.cell))):Sem Bool)=pure false
   rw[hb]
  | true =>
   have hsw:Zdj (.ListComp elt gens sc cp) (some (.Name x q)) p.line X.env=pure true:=by
    show(pure (X.env.blockKind==.function&&X.env.kindOf x==some .local&&q.line==cp.line&&!(sc.names.any λ (n,k)=>n==x&&(k==.local||k==.cell))):Sem Bool)=pure true
    rw[hb]
   have dead:∀m:E1,(∀σ h,m σ h=.stuck)->PS1 ce X (.Assign [.Name x q] (.ListComp elt gens sc cp) p) (Jh i m):=λ m hm=>by
    intro pins s σ H ι σi h Q E N K
    unfold Jh at K
    rw[hm] at K
    exact Zf K
   cases n with
   | zero=>exact dead _ λ _ _=>rfl
   | succ n =>
    have ih:=Jkp ce k P n
    match gens,hsw with
    | [⟨tg,iter,ifs,as⟩],hsw =>
     show PS1 ce X _ (Jh i (if as=0/\X3 iter=true/\Q6 S.N (V0 sc) (Qv sc) (jsOf S sc) S.fake sc=true then
      Jrn ifs (evT P n (S.comp sc)) (λ mt=>Jy (evI P n S tg iter) (V0 sc).length (jsOf S sc) (tgt P n (S.comp sc) tg) mt (ev P n (S.comp sc) elt)) else stE))
     split
     ·rename_i hs
      obtain⟨rfl,hi,ok⟩:=hs
      have Gc:=G.comp ok
      have ok':=ok
      rw[<- Jly G] at ok'
      match ifs,hsw with
      | [],hsw=>exact Jw6 G.calm (ih.i S X tg iter G) (λ C s H fp=>ih.g _ _ tg (Gc C s H fp)) (λ C s H fp=>Jxf) (λ C s H fp=>ih.e _ _ elt (Gc C s H fp)) ok' G.n rfl (Yf hi) G.nodup h1 h2 h3 hsw
      | [c],hsw=>exact Jw6 G.calm (ih.i S X tg iter G) (λ C s H fp=>ih.g _ _ tg (Gc C s H fp)) (λ C s H fp=>Jxg (ih.t _ _ c (Gc C s H fp))) (λ C s H fp=>ih.e _ _ elt (Gc C s H fp)) ok' G.n rfl (Yf hi) G.nodup h1 h2 h3 hsw
      | _::_::_,_=>exact dead _ λ _ _=>rfl
     ·exact dead _ λ _ _=>rfl
    | [],_=>exact dead _ λ _ _=>rfl
    | ⟨_,_,_,_⟩::_::_,_=>exact dead _ λ _ _=>rfl
 | _=>cases h
theorem Jpb (ce:Str->Option Zd)(k:Nat)(P:Pg):∀(n:Nat)(S:Sc)(X:Cx)(st:ZcY),Good ce k P S X->PS1 ce X st (ex P n S st)
 | 0,_,_,_,_=>JS
 | n+1,S,X,st,G=>by
  have ih:=λ st=>Jpb ce k P n S X st G
  have E:=Jkp ce k P n
  have ihe:=λ e=>E.e S X e G
  cases st with
  | Pass p=>exact J2v
  | Break p=>exact Jzw
  | Continue p=>exact J2t
  | Expr e p =>
   show PS1 ce X _ (if V2 e then JJ (ev P n S e) else stS)
   split
   ·rename_i h
    exact J2u (ihe e) (Jcy h)
   ·exact JS
  | Return v p =>
   cases v with
   | none=>exact J2w
   | some e=>exact J43 (ihe e)
  | If c a b p=>exact s_if (E.t S X c G) (XC ih a) (XC ih b)
  | Raise exc cause p=>exact JS
  | Try body hs o f p=>exact JS
  | While c a o p =>
   cases o with
   | nil=>exact Jzx (E.t S X c G) (XC ih a)
   | cons _ _=>exact JS
  | For tg it a o p =>
   cases o with
   | nil =>
    show PS1 ce X _ (if X3 it&&S.own then sFor (evI P n S tg it) (tgt P n S tg) (sAll (a.map (ex P n S))) else stS)
    split
    ·rename_i h
     rw[Zn] at h
     obtain⟨hk,hf⟩:=G.top h.2
     exact J42 G.calm hk hf (E.i S X tg it G) (E.g S X tg G) (XC ih a) (Yf h.1)
    ·exact JS
   | cons _ _=>exact JS
  | AugAssign tg op e p =>
   cases tg with
   | Name x q =>
    show PS1 ce X _ (match S.sto x with|some i=>sAug op i (ev P n S e)|none=>stS)
    cases hv:S.sto x with
    | none=>exact JS
    | some i =>
     obtain⟨h1,h2,h3⟩:=G.sto hv
     exact J40 G.nodup (ihe e) h1 h2 h3
   | Attribute o f q =>
    show PS1 ce X _ (if P.fld f then XD op f (ev P n S o) (ev P n S e) else stS)
    split
    ·rename_i h
     exact J2r (ihe o) (ihe e) (G.pg.fld f h)
    ·exact JS
   | Subscript o i q =>
    show PS1 ce X _ (if VZ i then XE op (ev P n S o) (ev P n S i) (ev P n S e) else stS)
    split
    ·rename_i h
     exact J2s (ihe o) (ihe i) (ihe e) h
    ·exact JS
   | _=>exact JS
  | Assign tgs e p =>
   match tgs with
   | []=>exact JS
   | a::_::_=>cases a<;>exact JS
   | [tg] =>
    have gen:PS1 ce X (.Assign [tg] e p) (if V2 e&&((Jur tg&&Jzg e)||Juq tg) then sAsg (ev P n S e) (tgt P n S tg) else stS):=by
     split
     ·rename_i h
      simp only[Zn,Zay] at h
      have hst:Jz tg=true:=by
       rcases h.2 with q|q
       ·cases tg<;>first|rfl|(simp[Jur] at q)
       ·cases tg<;>first|rfl|(simp[Juq] at q)
      refine J4z (ihe e) (E.g S X tg G) (Jcy h.1) ?_ (Jxw hst)
      rcases h.2 with q|q
      ·cases tg with
       | Tuple es j pp =>
        have q2:=q.2
        cases e<;>first|rfl|(simp[Jzg] at q2)
       | _=>simp[Jur] at q
      ·cases tg with
       | Subscript=>cases e<;>rfl
       | _=>simp[Juq] at q
     ·exact JS
    cases tg with
    | Name x q =>
     show PS1 ce X _ (if V2 e||isLC e then(match S.sto x with|some i=>Jh i (ev P n S e)|none=>stS) else stS)
     split
     ·rename_i h
      cases hv:S.sto x with
      | none=>exact JS
      | some i =>
       obtain⟨h1,h2,h3⟩:=G.sto hv
       rcases Zay _ _▸h with h|h
       ·exact J2x G.nodup (ihe e) h1 h2 (Jcy h) h3
       ·exact Jvv G i h h1 h2 h3
     ·exact JS
    | Attribute o f q =>
     show PS1 ce X _ (if V2 e||isLC e then Jzt P f (ev P n S o) (ev P n S e) else stS)
     split
     ·rename_i h
      have hw:Zdj e (some (.Attribute o f q)) p.line X.env=pure false:=by
       rcases Zay _ _▸h with h|h
       ·exact Jcy h
       ·cases e<;>first|rfl|cases h
      unfold Jzt
      split
      ·rename_i hf
       exact J41 (ihe o) (ihe e) (G.pg.fld f hf) hw
      ·exact JS
     ·exact JS
    | _=>exact gen
  | _=>exact JS
end
structure D4 where
 st:ZcY
 qual:Str
 ps:List Str
 N:List Str
 dvs:List IV
def D4.sc (d:D4):Sc:=⟨d.N,(JN d.st).names,true,d.qual⟩
structure Tab where
 fns:List (Str×D4)
 clss:List (Str×D4)
 meths:List (Str×List (Str×D4))
 cons:List (Str×IV)
 isas:List (Str×List Str)
 flds:List Str
 frees:List Str
 tabs:List Str:=[]
 razs:List Str:=[]
 xis:List (Str×List (Str×Bool)):=[]
 bass:List Str:=[]
 wrs:List (Str×D4):=[]
 nes:List Str:=[]
 xms:List (Str×D4):=[]
 xfs:List (Str×List Str):=[]
 xbs:List Str:=[]
def memS (x:Str):List Str->Bool
 | []=>false
 | y::r=>y==x||memS x r
def Ql {α:Type}(x:Str):List (Str×α)->Option α
 | []=>none
 | (y,a)::r=>if y==x then some a else Ql x r
def xfOf (T:Tab)(f c:Str):Bool:=match Ql f T.xfs with|some l=>memS c l|none=>false
def mkPg (T:Tab)(r:D4->List IV->IH->Res IV):Pg where
 fn:=λ x=>(Ql x T.fns).map λ d=>⟨d.ps.length,d.dvs,r d⟩
 cls:=λ x=>(Ql x T.clss).map λ d=>⟨d.ps.length,d.dvs,r d⟩
 meth:=λ c m=>((Ql c T.meths).bind (Ql m)).map λ d=>⟨d.ps.length,d.dvs,r d⟩
 con:=λ x=>Ql x T.cons
 isa:=λ x=>(Ql x T.isas).map λ l c=>memS c l
 fld:=λ x=>memS x T.flds
 free:=λ x=>memS x T.frees
 tabs:=λ q=>ixOf q T.tabs
 rz:=λ x=>memS x T.razs
 xi:=λ D=>(Ql D T.xis).map λ l c=>Ql c l
 bas:=λ x=>memS x T.bass
 wr:=λ _=>none
 ne:=λ x=>memS x T.nes
 xo:=λ x=>(Ql x T.xms).map λ d=>⟨d.ps.length,d.dvs,r d⟩
 xf:=xfOf T
 xb:=λ x=>memS x T.xbs
def run (T:Tab):Nat->D4->List IV->IH->Res IV
 | 0,_=>λ _ _=>.stuck
 | k+1,d=>fnI d.N.length (sAll ((Qg d.st).map (ex (mkPg T (run T k)) 40 d.sc)))
theorem Q9 {α:Type}{x:Str}{a:α}:∀{l:List (Str×α)},Ql x l=some a->(x,a)∈l
 | [],h=>by cases h
 | (y,b)::r,h=>by
  unfold Ql at h
  split at h
  ·rename_i e
   cases h
   rw[beq_iff_eq.mp e]
   exact Z3
  ·exact Zm _ (Q9 h)
theorem Yk {x:Str}:∀{l:List Str},memS x l=true->x∈l
 | [],h=>by cases h
 | y::r,h=>by
  unfold memS at h
  rcases Zay _ _▸h with e|e
  ·rw[beq_iff_eq.mp e]
   exact Z3
  ·exact Zm _ (Yk e)
structure DefOk (K:W.Frag)(x:Str)(d:D4)(fa:Zd)(fd:Zax):Prop where
 fun_:∃dV,FunD K x d.qual d.st fa fd dV
 sc:FnScope d.N d.ps (JN d.st)
 dv:∀j,j<=d.dvs.length->∃ds,Qf K fd d.ps ds/\ds.length=d.dvs.length-j/\∃vs,Vals vs ds/\∀ι H,RVs K ι H (d.dvs.drop j) vs
structure TabOk (ce:Str->Option Zd)(T:Tab)(K:W.Frag)(mg:Str->Option Za):Prop where
 fn:∀x d,(x,d)∈T.fns->∃fa fd,mg x=some (.ref fa)/\DefOk K x d fa fd
 cls:∀x d,(x,d)∈T.clss->∃C fa fd,mg x=some (.ref C)/\ce x=some C/\Mk K C fa/\DefOk K "__init__" d fa fd
 meth:∀c l m d,(c,l)∈T.meths->(m,d)∈l->∃C fa fd,ce c=some C/\Cls K C/\Meth K C m fa/\DefOk K m d fa fd
 con:∀x v,(x,v)∈T.cons->∃u y,mg x=some u/\RelV y u/\∀ι H,RV K ι H v y
 isa:∀D l,(D,l)∈T.isas->∃c,mg D=some c/\IsOk ce K c λ t=>match t with|.ins c=>some (memS c l)|.exc _=>none|_=>some false
 fld:∀f,f∈T.flds->XV ce K f
 free:∀x,x∈T.frees->mg x=none
 bas:∀x,x∈T.bass->∃C,mg x=some (.ref C)/\BasK K C
 ne:∀c,c∈T.nes->∃C,ce c=some C/\neIn K C=true/\ClsI K C/\W.kitOne K (.ref C) (.type "list")=some false
section
variable {ce:Str->Option Zd}{T:Tab}{prog:Z5}{w:ZP}{K:W.Frag}{mg:Str->Option Za}{base:Zag}
theorem Jp7 {k:Nat}{fa:Zd}{fd:Zax}{ps:List Str}:FnOk prog w K mg base (CXI prog w) k fa fd ps (spI ce K ps λ _ _=>.stuck) :=
 ⟨λ _ _ _ _ h=>h.1,λ _ _ _ _ _ _ _ _ _ _ _ _ _ h=>by obtain⟨_,_,_,_,_,_,z⟩:=h;exact z.elim⟩
theorem J4s (O:TabOk ce T K mg)(B:T.tabs≠[]->Q2 mg base)(k:Nat)(hD:∀x d fa fd,DefOk K x d fa fd->FnD ce prog w K mg base (4*k) ⟨d.ps.length,d.dvs,run T k d⟩ fa fd d.ps):PgOk ce (4*k) (mkPg T (run T k)) prog w K mg base:=by
 refine⟨λ x f h=>?_,λ x f h=>?_,λ c m f h=>?_,λ x v h=>?_,λ D g h=>?_,λ f h=>?_,λ x h=>?_,λ q j h=>B λ e=>?_,λ x h=>O.bas x (Yk h),λ c h=>O.ne c (Yk h)⟩
 ·obtain⟨d,hd,rfl⟩:=ZA.mp h
  obtain⟨fa,fd,hm,ok⟩:=O.fn x d (Q9 hd)
  obtain⟨dV,F⟩:=ok.fun_
  exact⟨fa,fd,d.ps,hm,F.kp,hD x d fa fd ok⟩
 ·obtain⟨d,hd,rfl⟩:=ZA.mp h
  obtain⟨C,fa,fd,hm,hC,M,ok⟩:=O.cls x d (Q9 hd)
  exact⟨C,fa,fd,d.ps,hm,hC,M,hD _ d fa fd ok⟩
 ·obtain⟨d,hd,rfl⟩:=ZA.mp h
  obtain⟨l,hl,hd⟩:=Option.bind_eq_some_iff.mp hd
  obtain⟨C,fa,fd,hC,cl,me,ok⟩:=O.meth c l m d (Q9 hl) (Q9 hd)
  exact⟨C,fa,fd,d.ps,hC,cl,me,hD m d fa fd ok⟩
 ·exact O.con x v (Q9 h)
 ·obtain⟨l,hl,rfl⟩:=ZA.mp h
  exact O.isa D l (Q9 hl)
 ·exact O.fld f (Yk h)
 ·exact O.free x (Yk h)
 ·have h':ixOf q T.tabs=some j:=h
  rw[e] at h'
  cases h'
theorem Jwr (O:TabOk ce T K mg)(B:T.tabs≠[]->Q2 mg base):∀k x d fa fd,DefOk K x d fa fd->FnD ce prog w K mg base (4*k) ⟨d.ps.length,d.dvs,run T k d⟩ fa fd d.ps
 | 0,x,d,fa,fd,ok=>⟨rfl,Jp7,ok.dv⟩
 | k+1,x,d,fa,fd,ok=>by
  refine⟨rfl,?_,ok.dv⟩
  obtain⟨dV,F⟩:=ok.fun_
  show FnOk prog w K mg base (CXI prog w) (4*k+3+1) fa fd d.ps (spI ce K d.ps (run T (k+1) d))
  refine F.fn (m:=sAll ((Qg d.st).map (ex (mkPg T (run T k)) 40 d.sc))) ok.sc λ cdv A outer s H E hcd hr=>?_
  refine XC (λ st=>Jpb ce (4*k) (mkPg T (run T k)) 40 d.sc _ st ?_) _
  exact⟨rfl,rfl,ok.sc.nd,ok.sc.kind,rfl,hr.mono (by omega),λ _ _=>rfl,J4s O B k (Jwr O B k),λ _=>⟨hcd,rfl⟩,λ _=>hr,λ _=>⟨rfl,rfl⟩⟩
end
inductive All {α:Type}(p:α->Prop):List α->Prop
 | nil:All p []
 | cons {a:α}{l:List α}:p a->All p l->All p (a::l)
theorem All.mem {α:Type}{p:α->Prop}:∀{l:List α}{a:α},All p l->a∈l->p a
 | _,_,.nil,h=>by cases h
 | _,_,.cons h r,m=>by
  rcases Z4.mp m with rfl|m
  ·exact h
  ·exact r.mem m
def Jwn (l:List Str):Ty->Option Bool:=λ t=>match t with|.ins c=>some (memS c l)|.exc _=>none|_=>some false
section
variable {T:Tab}{K:W.Frag}{mg:Str->Option Za}
def ceOf (ces:List (Str×Zd)):Str->Option Zd:=λ c=>Ql c ces
theorem J26 (ces:List (Str×Zd))(fn:All (λ p:Str×D4=>∃fa fd,mg p.1=some (.ref fa)/\DefOk K p.1 p.2 fa fd) T.fns)
  (cls:All (λ p:Str×D4=>∃C fa fd,mg p.1=some (.ref C)/\ceOf ces p.1=some C/\Mk K C fa/\DefOk K "__init__" p.2 fa fd) T.clss)
  (meth:All (λ q:Str×List (Str×D4)=>∃C,ceOf ces q.1=some C/\All (λ p:Str×D4=>∃fa fd,Meth K C p.1 fa/\DefOk K p.1 p.2 fa fd) q.2) T.meths)
  (con:All (λ p:Str×IV=>∃u y,mg p.1=some u/\RelV y u/\∀ι H,RV K ι H p.2 y) T.cons)
  (cl:All (λ p:Str×Zd=>ClsI K p.2/\All (λ f=>Q3 K p.2 f) T.flds) ces)
  (isa:All (λ q:Str×List Str=>∃D,mg q.1=some (.ref D)/\W.kitOne K (.type "NoneType") (.ref D)=some false/\W.kitOne K (.type "bool") (.ref D)=some false/\W.kitOne K (.type "int") (.ref D)=some false/\W.kitOne K (.type "str") (.ref D)=some false /\
   W.kitOne K (.type "list") (.ref D)=some false/\W.kitOne K (.type "tuple") (.ref D)=some false/\W.kitOne K (.type "dict") (.ref D)=some false/\All (λ p:Str×Zd=>W.kitOne K (.ref p.2) (.ref D)=some (memS p.1 q.2)) ces) T.isas)
  (free:All (λ x=>mg x=none) T.frees)
  (bas:All (λ x=>∃C,mg x=some (.ref C)/\BasK K C) T.bass:=by exact .nil)
  (nes:All (λ c=>∃C,ceOf ces c=some C/\neIn K C=true/\W.kitOne K (.ref C) (.type "list")=some false) T.nes:=by exact .nil):TabOk (ceOf ces) T K mg:=by
 refine⟨λ x d h=>fn.mem h,λ x d h=>cls.mem h,λ c l m d hc hm=>?_,λ x v h=>con.mem h,λ D l h=>?_,λ f hf=>?_,λ x h=>free.mem h,λ x h=>bas.mem h,λ c h=>let ⟨C,p,q,r⟩:=nes.mem h;⟨C,p,q,(cl.mem (Q9 p)).1,r⟩⟩
 ·obtain⟨C,hC,hl⟩:=meth.mem hc
  obtain⟨fa,fd,me,ok⟩:=hl.mem hm
  exact⟨C,fa,fd,hC,(cl.mem (Q9 hC)).1.cl,me,ok⟩
 ·obtain⟨C,hC,h1,h2,h3,h4,h5,h6,h7,h8⟩:=isa.mem h
  refine⟨_,hC,⟨λ b e=>?_,λ b e=>?_,λ b e=>?_,λ b e=>?_,λ b e=>?_,λ b e=>?_,λ b e=>?_,λ k C' b e hk=>?_,(λ k C' b e=>by cases e)⟩⟩
  ·cases e;exact h1
  ·cases e;exact h2
  ·cases e;exact h3
  ·cases e;exact h4
  ·cases e;exact h5
  ·cases e;exact h6
  ·cases e;exact h7
  ·cases e
   exact⟨(cl.mem (Q9 hk)).1,h8.mem (Q9 hk)⟩
 ·intro c C e
  obtain⟨h1,h2⟩:=cl.mem (Q9 e)
  exact⟨h1.cl,h2.mem hf⟩
theorem len1 {α:Type}{P:List α->Prop}(F0:∀a,P [a]):∀us:List α,us.length=1->P us
 | [a],_=>F0 a
theorem len2 {α:Type}{P:List α->Prop}(F0:∀a b,P [a,b]):∀us:List α,us.length=2->P us
 | [a,b],_=>F0 a b
theorem len3 {α:Type}{P:List α->Prop}(F0:∀a b c,P [a,b,c]):∀us:List α,us.length=3->P us
 | [a,b,c],_=>F0 a b c
theorem len4 {α:Type}{P:List α->Prop}(F0:∀a b c d,P [a,b,c,d]):∀us:List α,us.length=4->P us
 | [a,b,c,d],_=>F0 a b c d
theorem len5 {α:Type}{P:List α->Prop}(F0:∀a b c d e,P [a,b,c,d,e]):∀us:List α,us.length=5->P us
 | [a,b,c,d,e],_=>F0 a b c d e
theorem len6 {α:Type}{P:List α->Prop}(F0:∀a b c d e f,P [a,b,c,d,e,f]):∀us:List α,us.length=6->P us
 | [a,b,c,d,e,f],_=>F0 a b c d e f
theorem len7 {α:Type}{P:List α->Prop}(F0:∀a b c d e f g,P [a,b,c,d,e,f,g]):∀us:List α,us.length=7->P us
 | [a,b,c,d,e,f,g],_=>F0 a b c d e f g
theorem J5b:∀j:Nat,j<=3->j=0∨j=1∨j=2∨j=3:=by omega
theorem Jwq {x:Str}{d:D4}{fa:Zd}{oc kV doc pm cdv ct:Za}{od an:Option Zd}{osl:Array (Option Za)}(lk:K.lookup fa=some ⟨oc,od,.func (W.fnOf x d.qual (Q7 d.st) (Qg d.st) (JN d.st) .none kV doc pm an cdv ct),osl⟩)
  (hc:W.codeIn K cdv d.qual=true)(hk:W.keepIn K (.ref fa)=true)(sc:FnScope d.N d.ps (JN d.st))(hd:d.dvs=[])
  (hb:∀us:List Za,us.length=d.ps.length->Zec (W.fnOf x d.qual (Q7 d.st) (Qg d.st) (JN d.st) .none kV doc pm an cdv ct) ⟨us,[]⟩=pure (d.ps.zip us)) :
  DefOk K x d fa (W.fnOf x d.qual (Q7 d.st) (Qg d.st) (JN d.st) .none kV doc pm an cdv ct) :=
 ⟨⟨_,⟨oc,od,kV,doc,pm,an,cdv,ct,osl,rfl,lk,hc⟩,hk⟩,sc,λ j hj=>⟨[],.all hb,by rw[hd];simp,[],.nil,by rw[hd];intro _ _;cases j<;>exact rfl⟩⟩
def scOk (N P:List Str)(sc:ZaU):Bool :=
 sc.kind==.function&&!sc.isCoroutine&&!sc.isGenerator&&decide N.Nodup&&decide (N.take P.length=P)&&P.all (λ x=>sc.names.lookup x==some .local||sc.names.lookup x==some .cell)&&sc.names.all (λ y=>!(y.2==.free))
theorem scOk.of {N P:List Str}{sc:ZaU}(h:scOk N P sc=true):FnScope N P sc:=by
 simp only[scOk,Zn,beq_iff_eq,ZaC,decide_eq_true_eq,Zbh,Zay,beq_eq_false_iff_ne] at h
 obtain⟨⟨⟨⟨⟨⟨h1,h2⟩,h3⟩,h4⟩,h5⟩,h6⟩,h7⟩:=h
 exact⟨h1,h2,h3,h4,h5,h6,h7⟩
def FnB (x q:Str)(d:D4):Prop:=FnScope d.N d.ps (JN d.st)/\d.dvs=[]/\d.qual=q/\∀(kV doc pm:Za)(an:Option Zd)(cdv ct:Za)(us:List Za),us.length=d.ps.length->Zec (W.fnOf x d.qual (Q7 d.st) (Qg d.st) (JN d.st) .none kV doc pm an cdv ct) ⟨us,[]⟩=pure (d.ps.zip us)
section
variable {x q:Str}{d:D4}{h:Zag}{a C:Zd}{oc kV dc pm cd ct:Za}{od an:Option Zd}{sl:Array (Option Za)}
theorem Jsv (B:FnB x q d)(hl:K.lookup a=some ⟨oc,od,.func (W.fnOf x q (Q7 d.st) (Qg d.st) (JN d.st) .none kV dc pm an cd ct),sl⟩)(hc:W.codeIn K cd q=true)(hk:W.keepIn K (.ref a)=true):∃fd,DefOk K x d a fd:=by
 obtain⟨s,v,rfl,b⟩:=B
 exact⟨_,Jwq hl hc hk s v (b _ _ _ _ _ _)⟩
theorem JA (X:K.In h)(G:h.Ns Zx mg)(B:FnB x q d)(ha:W.nsIn K Zx x=some (some (.ref a)):=by k_is)(hl:K.lookup a=some ⟨oc,od,.func (W.fnOf x q (Q7 d.st) (Qg d.st) (JN d.st) .none kV dc pm an cd ct),sl⟩:=by k_is)(hc:W.codeIn K cd q=true:=by k_is)(hk:W.keepIn K (.ref a)=true:=by k_is):∃fa fd,mg x=some (.ref fa)/\DefOk K x d fa fd :=
 let ⟨fd,D⟩:=Jsv B hl hc hk
 ⟨a,fd,W.mg_of X G ha,D⟩
theorem JZ (B:FnB x q d)(ha:W.findIn K (.ref C) x=some (some (.ref a)):=by k_is)(hi:W.isFn K (.ref a)=true:=by k_is)(hl:K.lookup a=some ⟨oc,od,.func (W.fnOf x q (Q7 d.st) (Qg d.st) (JN d.st) .none kV dc pm an cd ct),sl⟩:=by k_is)(hc:W.codeIn K cd q=true:=by k_is)(hk:W.keepIn K (.ref a)=true:=by k_is):∃fa fd,Meth K C x fa/\DefOk K x d fa fd :=
 let ⟨fd,D⟩:=Jsv B hl hc hk
 ⟨a,fd,⟨ha,hi,hk⟩,D⟩
theorem Ju4 (B:FnB "__init__" q d)(ha:W.findIn K (.ref C) "__init__"=some (some (.ref a)):=by k_is)(hi:W.isFn K (.ref a)=true:=by k_is)(hl:K.lookup a=some ⟨oc,od,.func (W.fnOf "__init__" q (Q7 d.st) (Qg d.st) (JN d.st) .none kV dc pm an cd ct),sl⟩:=by k_is)(hc:W.codeIn K cd q=true:=by k_is)(hk:W.keepIn K (.ref a)=true:=by k_is)(hm:W.makesIn K C=true:=by k_is)(hq:W.keepIn K (.ref C)=true:=by k_is):∃fa fd,Mk K C fa/\DefOk K "__init__" d fa fd :=
 let ⟨fd,D⟩:=Jsv B hl hc hk
 ⟨a,fd,⟨hm,ha,hi,hq⟩,D⟩
end
theorem Jy7 {ce:Str->Option Zd}{prog:Z5}{w:ZP}{base:Zag}(O:TabOk ce T K mg)(B:T.tabs≠[]->Q2 mg base)(k:Nat){d:D4}{fa:Zd}{fd:Zax}{x:Str}(hp:d.ps=[x])(ok:DefOk K "law" d fa fd) :
  FnOk prog w K mg base (CXI prog w) (4*k) fa fd [x] (XH K x (run T k d)):=by
 have:=(Jwr (prog:=prog) (w:=w) (base:=base) O B k "law" d fa fd ok).ok
 rw[hp] at this
 exact Jud this
end
def WR {α:Type}(r:Res α)(Q:α->IH->Prop):Prop:=match r with
 | .ok a h=>Q a h
 | _=>False
def WS (r:SRes)(N:ISt->IH->Prop)(R:IV->IH->Prop):Prop:=match r with
 | .next σ h=>N σ h
 | .ret v h=>R v h
 | _=>False
section
variable {α β:Type}{σ:ISt}{h:IH}{Q:α->IH->Prop}{N:ISt->IH->Prop}{R:IV->IH->Prop}
theorem WR.mono {r:Res α}{P Q:α->IH->Prop}(x:WR r P)(f:∀a h,P a h->Q a h):WR r Q:=by
 cases r with
 | ok a h=>exact f a h x
 | exc n h=>exact x
 | stuck=>exact x
theorem WR.of_eq {r:Res α}{a:α}{h:IH}(e:r=.ok a h)(q:Q a h):WR r Q:=by rw[e];exact q
theorem WR.eq {r:Res α}(x:WR r Q):∃a h,r=.ok a h/\Q a h:=by
 cases r with
 | ok a h=>exact⟨a,h,rfl,x⟩
 | exc n h=>exact x.elim
 | stuck=>exact x.elim
theorem WS.mono {r:SRes}{N N':ISt->IH->Prop}{R R':IV->IH->Prop}(x:WS r N R)(f:∀σ h,N σ h->N' σ h)(g:∀v h,R v h->R' v h):WS r N' R':=by
 cases r with
 | next σ h=>exact f σ h x
 | ret v h=>exact g v h x
 | _=>exact x
theorem Vo (a:α):WR (.ok a h) Q=Q a h:=rfl
theorem Jwk:WR (.stuck:Res α) Q=False:=rfl
theorem Jq (r:Res α)(f:α->IH->Res β)(Q:β->IH->Prop):WR (r.bind f) Q=WR r λ a h=>WR (f a h) Q:=by cases r<;>rfl
theorem Jwg (r:Res α):WR r.nx Q=WR r Q:=by cases r<;>rfl
theorem QV (c:Prop)[Decidable c](x y:Res α):WR (if c then x else y) Q=((c->WR x Q)/\(¬c->WR y Q)):=by
 by_cases hc:c<;>simp[hc]
theorem Qr (r:Res α)(k:α->IH->SRes):WS (rS σ r k) N R=WR r λ a h=>WS (k a h) N R:=by cases r<;>rfl
theorem Y8 (r:SRes)(Q:IV->IH->Prop):WR r.fin Q=WS r (λ _ h=>Q .non h) Q:=by
 cases r with
 | exc n σ h=>show WR (match h[n]? with|some (.exc _ _)=>Res.exc n h|_=>Res.stuck) Q=False;split<;>rfl
 | _=>rfl
theorem Jk5 (σ:ISt):WS (.next σ h) N R=N σ h:=rfl
theorem Jp0 (v:IV):WS (.ret v h) N R=R v h:=rfl
theorem YM (a b:S1):WS (Jf a b σ h) N R=WS (a σ h) (λ σ1 h1=>WS (b σ1 h1) N R) R:=by
 unfold Jf;cases a σ h<;>rfl
theorem YL:WS (Jr σ h) N R=N σ h:=rfl
theorem Jk6:WS (Jzu σ h) N R=N σ h:=rfl
theorem YN (i:Nat)(e:E1):WS (Jh i e σ h) N R=WR (e σ h) λ v h1=>N (σ.set i (some v)) h1:=by unfold Jh;rw[Qr];rfl
theorem YK (t:T1)(a b:S1):WS (sIf t a b σ h) N R=WR (t σ h) λ c h1=>(c=true->WS (a σ h1) N R)/\(c=false->WS (b σ h1) N R):=by
 unfold sIf;rw[Qr];congr 1;funext c h1;cases c<;>simp
theorem YO (e:E1):WS (Jk e σ h) N R=WR (e σ h) R:=by unfold Jk;rw[Qr];rfl
theorem Jk7:WS (Jzv σ h) N R=R .non h:=rfl
theorem YJ (e:E1):WS (JJ e σ h) N R=WR (e σ h) λ _ h1=>N σ h1:=by unfold JJ;rw[Qr];rfl
theorem Xl (e:E1)(g:G1):WS (sAsg e g σ h) N R=WR (e σ h) λ v h1=>WS (g v σ h1) N R:=by unfold sAsg;rw[Qr]
theorem Jpz (i:Nat)(v:IV):WS (gNm i v σ h) N R=N (σ.set i (some v)) h:=rfl
theorem J3e (n:Nat)(g:List IV->ISt->IH->SRes)(xs:List IV):WS (gTp n g (.tup xs) σ h) N R=(xs.length=n/\WS (g xs σ h) N R):=by
 unfold gTp
 by_cases hn:xs.length=n
 ·simp[hn]
 ·simp[hn,WS]
theorem J5d:WS (gN [] σ h) N R=N σ h:=rfl
theorem J5c (i:Nat)(r:List IV->ISt->IH->SRes)(v:IV)(vs:List IV):WS (gC (gNm i) r (v::vs) σ h) N R=WS (r vs (σ.set i (some v)) h) N R:=rfl
theorem VQ (f:Str)(o e:E1):WS (JK f o e σ h) N R=WR (e σ h) λ v h1=>WR (o σ h1) λ ov h2=>∃i c fs,ov=.ref i/\h2[i]?=some (.ins c fs)/\fs.length<1000/\N σ (h2.set i (.ins c (putI f v fs))):=by
 unfold JK;rw[Qr];congr 1;funext v h1;rw[Qr];congr 1;funext ov h2
 cases ov with
 | ref i =>
  cases e:h2[i]? with
  | none=>simp[WS,e]
  | some o =>
   cases o with
   | ins c fs =>
    by_cases hl:fs.length<1000
    ·simp only[e,hl,if_true,WS]
     refine propext ⟨λ q=>⟨i,c,fs,rfl,e,hl,q⟩,λ ⟨i',c',fs',e1,e2,_,q⟩=>?_⟩
     cases e1
     rw[e] at e2
     cases e2
     exact q
    ·simp only[e,hl,if_false,WS]
     refine propext ⟨λ q=>q.elim,λ ⟨i',c',fs',e1,e2,hl',_⟩=>?_⟩
     cases e1
     rw[e] at e2
     cases e2
     exact hl hl'
   | _=>simp[WS,e]
 | _=>simp[WS]
theorem XQ (it:I1)(g:G1)(b:S1):WS (sFor it g b σ h) N R=WR (it σ h) λ J h1=>WS (Qb J.chk g b J.xs σ h1) N R:=by unfold sFor;rw[Qr]
theorem Qe (v:IV)(Q:IV->IH->Prop):WR (eC v σ h) Q=Q v h:=rfl
theorem Vn (f:IV->IV->IH->Res IV)(a b:E1)(Q:IV->IH->Prop):WR (Jc f a b σ h) Q=WR (a σ h) λ x h1=>WR (b σ h1) λ y h2=>WR (f x y h2) Q:=by
 unfold Jc;rw[Jq];congr 1;funext x h1;rw[Jq]
theorem Jwl (f:IV->IH->Res IV)(a:E1)(Q:IV->IH->Prop):WR (eUn f a σ h) Q=WR (a σ h) λ x h1=>WR (f x h1) Q:=by unfold eUn;rw[Jq]
theorem Jpl (a b:E1)(tr:IV->IH->Res Bool)(Q:IV->IH->Prop):WR (eAnd a b tr σ h) Q=WR (a σ h) λ x h1=>WR (tr x h1) λ c h2=>(c=true->WR (b σ h2) Q)/\(c=false->Q x h2):=by
 unfold eAnd;rw[Jq];congr 1;funext x h1;rw[Jq];congr 1;funext c h2;cases c<;>simp[WR]
theorem Jwh (a b:E1)(tr:IV->IH->Res Bool)(Q:IV->IH->Prop):WR (eOr a b tr σ h) Q=WR (a σ h) λ x h1=>WR (tr x h1) λ c h2=>(c=true->Q x h2)/\(c=false->WR (b σ h2) Q):=by
 unfold eOr;rw[Jq];congr 1;funext x h1;rw[Jq];congr 1;funext c h2;cases c<;>simp[WR]
theorem Jwb (t:T1)(a b:E1)(Q:IV->IH->Prop):WR (eIf t a b σ h) Q=WR (t σ h) λ c h1=>(c=true->WR (a σ h1) Q)/\(c=false->WR (b σ h1) Q):=by
 unfold eIf;rw[Jq];congr 1;funext c h1;cases c<;>simp
theorem YH (a b:T1)(Q:Bool->IH->Prop):WR (Qq a b σ h) Q=WR (a σ h) λ c h1=>(c=true->WR (b σ h1) Q)/\(c=false->Q false h1):=by
 unfold Qq;rw[Jq];congr 1;funext c h1;cases c<;>simp[WR]
theorem Jpy (a b:T1)(Q:Bool->IH->Prop):WR (tOrI a b σ h) Q=WR (a σ h) λ c h1=>(c=true->Q true h1)/\(c=false->WR (b σ h1) Q):=by
 unfold tOrI;rw[Jq];congr 1;funext c h1;cases c<;>simp[WR]
theorem Jk2 (a:T1)(Q:Bool->IH->Prop):WR (JC a σ h) Q=WR (a σ h) λ c h1=>Q (!c) h1:=by unfold JC;rw[Jq];rfl
theorem Jk3 (tr:IV->IH->Res Bool)(a:E1)(Q:Bool->IH->Prop):WR (Jg tr a σ h) Q=WR (a σ h) λ x h1=>WR (tr x h1) Q:=by unfold Jg;rw[Jq]
theorem Y6 (f g:IV->IV->IH->Res IV)(a b c:E1)(Q:IV->IH->Prop):WR (JR f g a b c σ h) Q=WR (a σ h) λ x h1=>WR (b σ h1) λ y h2=>WR (f x y h2) λ k h3=>∃t,k=.bl t/\(t=true->WR (c σ h3) λ z h4=>WR (g y z h4) Q)/\(t=false->Q (.bl false) h3):=by
 unfold JR;rw[Jq];congr 1;funext x h1;rw[Jq];congr 1;funext y h2;rw[Jq];congr 1;funext k h3
 cases k with
 | bl t =>
  cases t with
  | true =>
   show WR ((c σ h3).bind λ z h4=>g y z h4) Q=_
   rw[Jq]
   simp
  | false=>simp[WR]
 | _=>simp[WR]
theorem Jky (Q:List IV->IH->Prop):WR (Jd σ h) Q=Q [] h:=rfl
theorem Jf9 (a:E1)(r:A1)(Q:List IV->IH->Prop):WR (Jb a r σ h) Q=WR (a σ h) λ x h1=>WR (r σ h1) λ xs h2=>Q (x::xs) h2:=by
 unfold Jb;rw[Jq];congr 1;funext x h1;rw[Jq];rfl
theorem YI (a:A1)(Q:IV->IH->Prop):WR (J8 a σ h) Q=WR (a σ h) λ xs h1=>xs.length<=sizeLine/\Q (.tup xs) h1:=by
 unfold J8;rw[Jq];congr 1;funext xs h1;rw[QV]
 by_cases hz:xs.length<=sizeLine<;>simp[hz,WR]
theorem YE (a:A1)(Q:IV->IH->Prop):WR (Js a σ h) Q=WR (a σ h) λ xs h1=>xs.length<=sizeLine/\Q (.ref h1.length) (h1++[.lst xs]):=by
 unfold Js;rw[Jq];congr 1;funext xs h1;rw[QV]
 by_cases hz:xs.length<=sizeLine<;>simp[hz,WR]
theorem Jkz (f:List IV->IH->Res IV)(d:List IV)(a:A1)(Q:IV->IH->Prop):WR (Jm f d a σ h) Q=WR (a σ h) λ vs h1=>WR (f (vs++d) h1) Q:=by
 unfold Jm;rw[Jq]
theorem VO (c:Str)(f:List IV->IH->Res IV)(d:List IV)(a:A1)(Q:IV->IH->Prop):WR (Qw c f d a σ h) Q=WR (a σ h) λ vs h1=>WR (f (.ref h1.length::(vs++d)) (h1++[.ins c []])) λ r h2=>r=.non/\Q (.ref h1.length) h2:=by
 unfold Qw;rw[Jq];congr 1;funext vs h1;rw[Jq];congr 1;funext r h2;cases r<;>simp[WR]
theorem Jv5 (f:List IV->IH->Res IV)(a:A1)(Q:IV->IH->Prop):WR (eCB f a σ h) Q=WR (a σ h) λ vs h1=>WR (f vs h1) Q:=by unfold eCB;rw[Jq]
theorem Xj (f:IV->IH->Res IV)(x:IV)(Q:IV->IH->Prop):WR (on1 f [x] h) Q=WR (f x h) Q:=rfl
theorem Jpo (ans:Ty->Option Bool)(e:E1)(Q:IV->IH->Prop):WR (eIsi ans e σ h) Q=WR (e σ h) λ v h1=>∃b,(tyI v h1).bind ans=some b/\Q (.bl b) h1:=by
 unfold eIsi;rw[Jq];congr 1;funext v h1
 cases (tyI v h1).bind ans<;>simp[WR]
theorem Jgb (Q:Option Int->IH->Prop):WR (V3 σ h) Q=Q none h:=rfl
theorem Jgc (e:E1)(Q:Option Int->IH->Prop):WR (QD e σ h) Q=WR (e σ h) λ v h1=>∃i,v=.int i/\Q (some i) h1:=by
 unfold QD;rw[Jq];congr 1;funext v h1;cases v<;>simp[WR]
theorem VP (f:IV->Option Int->Option Int->IH->Res IV)(e:E1)(lo hi:O1)(Q:IV->IH->Prop):WR (eSl f e lo hi σ h) Q=WR (e σ h) λ x h1=>WR (lo σ h1) λ l h2=>WR (hi σ h2) λ u h3=>WR (f x l u h3) Q:=by
 unfold eSl;rw[Jq];congr 1;funext x h1;rw[Jq];congr 1;funext l h2;rw[Jq]
def VC (f:Str)(v:IV)(h:IH):Option IV:=match v with
 | .ref i=>(match h[i]? with
  | some (.ins _ fs)=>fs.lookup f
  | _=>none)
 | _=>none
theorem Y9 (f:Str)(o:E1)(Q:IV->IH->Prop):WR (Jo f o σ h) Q=WR (o σ h) λ v h1=>∃x,VC f v h1=some x/\Q x h1:=by
 unfold Jo;rw[Jq];congr 1;funext v h1
 cases v with
 | ref i =>
  unfold VC
  cases e:h1[i]? with
  | none=>simp[WR,e]
  | some ob =>
   cases ob with
   | ins c fs=>cases e2:fs.lookup f<;>simp[WR,e,e2]
   | _=>simp[WR,e]
 | _=>simp[WR,VC]
variable {i j:Int}{x y:Str}{P:IV->IH->Prop}
theorem Y4 (i j:Int):WR (Jl (.int i) (.int j) h) P=P (.int (i+j)) h:=rfl
theorem Jpx (i j:Int):WR (Qa (.int i) (.int j) h) P=P (.int (i-j)) h:=rfl
theorem Jps (i:Int):WR (Yo (.int i) h) P=P (.int (-i)) h:=rfl
theorem YG (i j:Int):WR (Qo (.int i) (.int j) h) P=(QW i j/\P (.int (i*j)) h):=by
 show WR (X4 (.int i) (.int j) h) P=_
 unfold X4;rw[QV];by_cases hm:QW i j<;>simp[hm,WR]
theorem Y7 (i j:Int):WR (JO (.int i) (.int j) h) P=((0<j/\j.natAbs.log2<9000)/\P (.int (i/j)) h):=by
 unfold JO;rw[QV];by_cases hm:0<j/\j.natAbs.log2<9000<;>simp[hm,WR]
theorem YF (i j:Int):WR (Jw (.int i) (.int j) h) P=(0<j/\P (.int (i%j)) h):=by
 unfold Jw;rw[QV];by_cases hm:0<j<;>simp[hm,WR]
theorem V5 (i j:Int):WR (JE (.int i) (.int j) h) P=((0<=j/\j<=1000000/\i.natAbs<2^64)/\P (.int (i^j.toNat)) h):=by
 unfold JE;rw[QV];by_cases hm:0<=j/\j<=1000000/\i.natAbs<2^64<;>simp[hm,WR]
theorem Y5 (x y:Str):WR (Jl (.str x) (.str y) h) P=(x.length+y.length<=sizeLine/\P (.str (x++y)) h):=by
 unfold Jl;rw[QV];by_cases hm:x.length+y.length<=sizeLine<;>simp[hm,WR]
theorem Jwe (i j:Int):WR (cLt (.int i) (.int j) h) P=P (.bl (decide (i<j))) h:=rfl
theorem Jwc (i j:Int):WR (cLe (.int i) (.int j) h) P=P (.bl (decide (i<=j))) h:=rfl
theorem J3d (x y:Str):WR (cLe (.str x) (.str y) h) P=P (.bl (!decide (y.cps.toList<x.cps.toList))) h:=rfl
theorem Jwa (i j:Int):WR (cGt (.int i) (.int j) h) P=P (.bl (decide (j<i))) h:=rfl
theorem Jv9 (i j:Int):WR (cGe (.int i) (.int j) h) P=P (.bl (decide (j<=i))) h:=rfl
theorem Jv8 (i j:Int):WR (cEq (.int i) (.int j) h) P=P (.bl (decide (i=j))) h:=rfl
theorem Jwf (i j:Int):WR (cNe (.int i) (.int j) h) P=P (.bl (!decide (i=j))) h:=rfl
theorem Jpn (x y:Str):WR (cEq (.str x) (.str y) h) P=P (.bl (decide (x=y))) h:=rfl
theorem Jpt (x y:Str):WR (cNe (.str x) (.str y) h) P=P (.bl (!decide (x=y))) h:=rfl
theorem Jpm (b:Bool)(P:Bool->IH->Prop):WR (asB (.bl b) h) P=P b h:=rfl
theorem Jk4 (b:Bool)(P:Bool->IH->Prop):WR (tru (.bl b) h) P=P b h:=rfl
theorem Jpu (tr:IV->IH->Res Bool)(v:IV):WR (X5 tr v h) P=WR (tr v h) λ c h1=>P (.bl (!c)) h1:=by unfold X5;rw[Jq];rfl
theorem J3c (v w:IV):WR (cIs v w h) P=∃b,isI v w=some b/\P (.bl b) h:=by unfold cIs;cases isI v w<;>simp[WR]
theorem Qs {chk:IH->Prop}{g:G1}{b:S1}(I:Nat->ISt->IH->Prop){xs:List IV}(hc:∀i σ h,I i σ h->chk h)
  (turn:∀i (hi:i<xs.length) σ h,I i σ h->WS (g xs[i] σ h) (λ σ1 h1=>WS (b σ1 h1) (I (i+1)) R) λ _ _=>False)(done:∀σ h,I xs.length σ h->N σ h)(start:I 0 σ h):WS (Qb chk g b xs σ h) N R:=by
 have key:∀(n i:Nat)(σ:ISt)(h:IH),xs.length-i=n->i<=xs.length->I i σ h->WS (Qb chk g b (xs.drop i) σ h) N R:=by
  intro n
  induction n with
  | zero =>
   intro i σ h hn hi hI
   have:i=xs.length:=by omega
   subst this
   rw[ZdE]
   unfold Qb
   rw[if_pos (hc _ _ _ hI)]
   exact done _ _ hI
  | succ n ih =>
   intro i σ h hn hi hI
   have hlt:i<xs.length:=by omega
   rw[Za8 hlt]
   unfold Qb
   rw[if_pos (hc _ _ _ hI)]
   have t:=turn i hlt σ h hI
   cases eg:g xs[i] σ h with
   | next σ1 h1 =>
    rw[eg] at t
    have t':WS (b σ1 h1) (I (i+1)) R:=t
    dsimp only
    cases eb:b σ1 h1 with
    | next σ2 h2=>rw[eb] at t';exact ih (i+1) σ2 h2 (by omega) hlt t'
    | ret v h2=>rw[eb] at t';exact t'
    | brk σ2 h2=>rw[eb] at t';exact t'.elim
    | cont σ2 h2=>rw[eb] at t';exact t'.elim
    | exc m σ2 h2=>rw[eb] at t';exact t'.elim
    | stuck=>rw[eb] at t';exact t'.elim
   | ret v h1=>rw[eg] at t;exact t.elim
   | brk σ2 h2=>rw[eg] at t;exact t.elim
   | cont σ2 h2=>rw[eg] at t;exact t.elim
   | exc m σ2 h2=>rw[eg] at t;exact t.elim
   | stuck=>rw[eg] at t;exact t.elim
 have:=key xs.length 0 σ h (by omega) (ZT _) start
 simpa using this
end
section
variable {α:Type}{h h1:IH}{a:α}{r:Res α}{P:IV->IH->Prop}
theorem Jv (x:WR r λ v h'=>v=a/\h'=h1):r=.ok a h1:=by
 obtain⟨_,_,e,rfl,rfl⟩:=x.eq
 exact e
theorem Xh (xs:List IV)(n:Int):WR (Je (.tup xs) (.int n) h) P=∃x,atI xs n=some x/\P x h:=by
 unfold Je;cases e:atI xs n<;>simp[WR,e]
theorem YA (xs:List IV)(n:Int):WR (Je (.rol xs) (.int n) h) P=∃x,atI xs n=some x/\P x h:=by
 unfold Je;cases e:atI xs n<;>simp[WR,e]
theorem Jtt (i:Nat)(n:Int):WR (Je (.ref i) (.int n) h) P=∃xs,h[i]?=some (.lst xs)/\∃x,atI xs n=some x/\P x h:=by
 unfold Je
 cases e:h[i]? with
 | none=>simp[WR,e]
 | some o =>
  cases o with
  | lst xs=>cases e2:atI xs n<;>simp[WR,e,e2]
  | _=>simp[WR,e]
theorem YD (xs:List IV):WR (lenI (.tup xs) h) P=P (.int xs.length) h:=rfl
theorem YB (xs:List IV):WR (lenI (.rol xs) h) P=P (.int xs.length) h:=rfl
theorem Joh (i:Nat):WR (lenI (.ref i) h) P=∃xs,h[i]?=some (.lst xs)/\P (.int xs.length) h:=by
 unfold lenI
 cases e:h[i]? with
 | none=>simp[WR,e]
 | some o=>cases o<;>simp[WR,e]
theorem YC (x:Str):WR (lenI (.str x) h) P=(x.length<=sizeLine/\P (.int x.length) h):=by
 unfold lenI;rw[QV];by_cases hm:x.length<=sizeLine<;>simp[hm,WR]
theorem JH {xs:List α}{n:Nat}{x:α}(e:xs[n]?=some x):atI xs (n:Int)=some x:=by
 have hn:n<xs.length:=(Zk.mp e).1
 have:(n:Int)<xs.length:=by omega
 simp[atI,ixN,this,e]
theorem JX {x:α}{xs:List α}:atI (x::xs) 0=some x:=by simp[atI,ixN]
theorem Qi {x y:α}{xs:List α}:atI (x::y::xs) 1=some y:=JH (n:=1) rfl
theorem Q5 {x y z:α}{xs:List α}:atI (x::y::z::xs) 2=some z:=JH (n:=2) rfl
theorem Qd {x y z u:α}{xs:List α}:atI (x::y::z::u::xs) 3=some u:=JH (n:=3) rfl
theorem Va {x y z u v:α}{xs:List α}:atI (x::y::z::u::v::xs) 4=some v:=JH (n:=4) rfl
theorem Jnb {xs:List α}{n:Int}{x:α}(h0:0<=n)(e:xs[n.toNat]?=some x):atI xs n=some x:=by
 have:=JH e
 rwa [Int.toNat_of_nonneg h0] at this
theorem Yy (i:Int):tyI (.int i) h=some .int:=rfl
theorem Y2 (x:Str):tyI (.str x) h=some .str:=rfl
theorem Y3 (xs:List IV):tyI (.tup xs) h=some .tup:=rfl
theorem Yz (b:Bool):tyI (.bl b) h=some .bl:=rfl
theorem Y0:tyI .non h=some .non:=rfl
theorem Y1 (xs:List IV):tyI (.rol xs) h=some .lst:=rfl
theorem Jxj {i:Nat}{xs:List IV}(e:h[i]?=some (.lst xs)):tyI (.ref i) h=some .lst:=by simp[tyI,e]
theorem grow {i:Nat}{o:IO}{g:IH}(e:h[i]?=some o):(h++g)[i]?=some o:=by
 rw[Z9 (Zk.mp e).1];exact e
theorem Jj {o:IO}:(h++[o])[h.length]?=some o:=by simp
theorem JB {i:Nat}{o:IO}(e:h[i]?=some o):i<h.length:=(Zk.mp e).1
theorem Jls (f:IV->Bool):∀xs:List IV,VT (xs.map λ x=>.bl (f x))=some (xs.map f)
 | []=>rfl
 | x::xs=>by simp[VT,Jls f xs]
theorem all_map {f:IV->Bool}{i:Nat}{xs:List IV}(e:h[i]?=some (.lst (xs.map λ x=>.bl (f x)))):allI (.ref i) h=.ok (.bl (xs.all f)) h:=by
 simp[allI,e,Jls,List.all_map,Function.comp_def]
end
def Ex (h h':IH):Prop:=∃g,h'=h++g
theorem Ex.refl (h:IH):Ex h h:=⟨[],by simp⟩
theorem Ex.trans {h h1 h2:IH}(a:Ex h h1)(b:Ex h1 h2):Ex h h2:=by
 obtain⟨g,rfl⟩:=a
 obtain⟨g',rfl⟩:=b
 exact⟨g++g',by simp⟩
theorem Ex.get {h h':IH}(a:Ex h h'){i:Nat}{o:IO}(e:h[i]?=some o):h'[i]?=some o:=by
 obtain⟨g,rfl⟩:=a
 exact grow e
theorem Ex.one (h:IH)(o:IO):Ex h (h++[o]):=⟨[o],rfl⟩
theorem Ex.len {h h':IH}(a:Ex h h'):h.length<=h'.length:=by
 obtain⟨g,rfl⟩:=a
 simp
section
variable {α:Type}{h:IH}
theorem Jyh {chk:IH->Prop}{t:T1}{e:E1}{caps:ISt}{p:IV->Bool}{f:IV->IV}(i0:Nat):∀{xs acc:List IV}{o:Option IV}{h1:IH},h1[i0]?=some (.lst acc)->(∀h2,(∀j ob,j≠i0->h1[j]?=some ob->h2[j]?=some ob)->chk h2)->acc.length+xs.length<sizeLine ->
  (∀x∈xs,∀h2,(∀j ob,j≠i0->h1[j]?=some ob->h2[j]?=some ob)->WR (t (some x::caps) h2) λ b h3=>b=p x/\Ex h2 h3) ->
  (∀x∈xs,p x=true->∀h2,(∀j ob,j≠i0->h1[j]?=some ob->h2[j]?=some ob)->WR (e (some x::caps) h2) λ v h3=>v=f x/\Ex h2 h3) ->
  WR (JD chk (gNm 0) t e i0 xs (o::caps) h1) λ v h3=>v=.ref i0/\∃g,h3=h1.set i0 (.lst (acc++(xs.filter p).map f))++g
 | [],acc,o,h1,hi,hc,_,_,_=>by
  unfold JD
  rw[if_pos (hc h1 λ _ _ _ q=>q)]
  refine⟨rfl,[],?_⟩
  simp only[List.filter_nil,Zbk,Zak]
  refine(ZbT λ j=>?_)
  by_cases hj:j=i0
  ·subst hj
   rw[hi,ZG (JB hi)]
  ·rw[ZC (ZK hj)]
 | x::xs,acc,o,h1,hi,hc,hl,ht,he=>by
  unfold JD
  rw[if_pos (hc h1 λ _ _ _ q=>q)]
  dsimp only[gNm,Zbi]
  have hl':acc.length+xs.length+1<sizeLine:=by simpa [Zd2] using hl
  obtain⟨b,h2,e1,rfl,x2⟩:=(ht x Z3 h1 λ _ _ _ q=>q).eq
  rw[e1]
  have k12:∀j ob,j≠i0->h1[j]?=some ob->h2[j]?=some ob:=λ j ob _ q=>x2.get q
  cases hp:p x with
  | false =>
   dsimp only
   refine WR.mono (Jyh i0 (x2.get hi) (λ h3 q=>hc h3 λ j ob n r=>q j ob n (k12 j ob n r)) (by omega) (λ y hy h3 q=>ht y (Zm _ hy) h3 λ j ob n r=>q j ob n (k12 j ob n r))
    λ y hy hpy h3 q=>he y (Zm _ hy) hpy h3 λ j ob n r=>q j ob n (k12 j ob n r)) λ v h3 ⟨ev,g,eg⟩=>⟨ev,?_⟩
   obtain⟨g2,rfl⟩:=x2
   refine⟨g2++g,?_⟩
   rw[eg,Zav (h:=JB hi)]
   simp[hp]
  | true =>
   dsimp only
   obtain⟨v,h3,e3,rfl,x3⟩:=(he x Z3 hp h2 k12).eq
   rw[e3]
   dsimp only
   rw[x3.get (x2.get hi)]
   dsimp only
   rw[if_pos (by omega)]
   have k13:∀j ob,j≠i0->h1[j]?=some ob->(h3.set i0 (.lst (acc++[f x])))[j]?=some ob:=λ j ob n q=>by
    rw[ZC (ZK n)]
    exact x3.get (x2.get q)
   refine WR.mono (Jyh i0 (acc:=acc++[f x]) (by rw[ZG (JB (x3.get (x2.get hi)))]) (λ h4 q=>hc h4 λ j ob n r=>q j ob n (k13 j ob n r)) (by simp;omega) (λ y hy h4 q=>ht y (Zm _ hy) h4 λ j ob n r=>q j ob n (k13 j ob n r))
    λ y hy hpy h4 q=>he y (Zm _ hy) hpy h4 λ j ob n r=>q j ob n (k13 j ob n r)) λ v h4 ⟨ev,g,eg⟩=>⟨ev,?_⟩
   obtain⟨g3,q3⟩:=x2.trans x3
   refine⟨g3++g,?_⟩
   rw[eg,q3,Zav (h:=JB hi),Zav (h:=by rw[Zbn];exact JB hi),ZdS]
   simp[hp]
theorem Jk0 {it:I1}{t:T1}{e:E1}{js:List Nat}{σ:ISt}{xs:List IV}{chk:IH->Prop}{p:IV->Bool}{f:IV->IV}{h0:IH}(hit:WR (it σ h0) λ J h1=>J.xs=xs/\J.chk=chk/\h1=h)(hl:xs.length<sizeLine)
  (hc:∀h2:IH,(∀(j:Nat)(ob:IO),h[j]?=some ob->h2[j]?=some ob)->chk h2)
  (ht:∀x∈xs,∀h2:IH,(∀(j:Nat)(ob:IO),h[j]?=some ob->h2[j]?=some ob)->WR (t (some x::js.map λ j=>(σ[j]?).join) h2) λ b h3=>b=p x/\Ex h2 h3)
  (he:∀x∈xs,p x=true->∀h2:IH,(∀(j:Nat)(ob:IO),h[j]?=some ob->h2[j]?=some ob)->WR (e (some x::js.map λ j=>(σ[j]?).join) h2) λ v h3=>v=f x/\Ex h2 h3) :
  WR (Jy it 1 js (gNm 0) t e σ h0) λ v h3=>v=.ref h.length/\∃g,h3=h++.lst ((xs.filter p).map f)::g:=by
 obtain⟨J,h1,e1,q1,q2,rfl⟩:=hit.eq
 unfold Jy
 rw[e1]
 show WR (JD J.chk (gNm 0) t e h1.length J.xs (none::js.map λ j=>(σ[j]?).join) (h1++[.lst []])) _
 rw[q1,q2]
 have lift:∀{h2:IH},(∀j ob,j≠h1.length->(h1++[IO.lst []])[j]?=some ob->h2[j]?=some ob)->∀j ob,h1[j]?=some ob->h2[j]?=some ob:=λ q j ob r=>q j ob (Z1 (JB r)) (grow r)
 refine WR.mono (Jyh (p:=p) (f:=f) h1.length (acc:=[]) Jj (λ h2 q=>hc h2 (lift q)) (by simpa using hl) (λ x hx h2 q=>ht x hx h2 (lift q)) λ x hx hp h2 q=>he x hx hp h2 (lift q)) λ v h3 ⟨ev,g,eg⟩=>⟨ev,g,?_⟩
 rw[eg]
 simp
theorem filt {α:Type}(xs:List α):xs.filter (λ _=>true)=xs:=List.filter_eq_self.mpr (by simp)
theorem Qh {it:I1}{e:E1}{js:List Nat}{σ:ISt}{xs:List IV}{chk:IH->Prop}{f:IV->IV}{h0:IH}(hit:WR (it σ h0) λ J h1=>J.xs=xs/\J.chk=chk/\h1=h)(hl:xs.length<sizeLine)
  (hc:∀h2:IH,(∀(j:Nat)(ob:IO),h[j]?=some ob->h2[j]?=some ob)->chk h2)
  (he:∀x∈xs,∀h2:IH,(∀(j:Nat)(ob:IO),h[j]?=some ob->h2[j]?=some ob)->WR (e (some x::js.map λ j=>(σ[j]?).join) h2) λ v h3=>v=f x/\Ex h2 h3) :
  WR (Jy it 1 js (gNm 0) J4 e σ h0) λ v h3=>v=.ref h.length/\∃g,h3=h++.lst (xs.map f)::g:=by
 have:=Jk0 (p:=λ _=>true) (f:=f) (t:=J4) (e:=e) (js:=js) (σ:=σ) (h:=h) hit hl hc (λ _ _ h2 _=>⟨rfl,.refl _⟩) λ x hx _ h2 q=>he x hx h2 q
 rwa [filt] at this
theorem J1 {o:IO}{g:IH}:(h++o::g)[h.length]?=some o:=by simp
theorem Ex.cons (h:IH)(o:IO)(g:IH):Ex h (h++o::g):=⟨_,rfl⟩
end
section
variable {σ:ISt}{h h1:IH}{Q:IV->IH->Prop}{J:ItI->IH->Prop}
theorem JU (e:E1):WR (Ju e σ h) J=WR (e σ h) λ v h1=>WR (Xw v h1) J:=by unfold Ju;rw[Jq]
theorem VN (f:List IV->IH->Res ItI)(a:A1):WR (iRg f a σ h) J=WR (a σ h) λ vs h1=>WR (f vs h1) J:=by unfold iRg;rw[Jq]
theorem JM (i:Nat):WR (Xw (.ref i) h) J=∃xs,h[i]?=some (.lst xs)/\J ⟨xs,λ h'=>h'[i]?=some (.lst xs)⟩ h:=by
 show WR (itOf (.ref i) h) J=_
 unfold itOf
 cases e:h[i]? with
 | none=>simp[WR,e]
 | some o=>cases o<;>simp[WR,e]
theorem Jpp (xs:List IV):WR (Xw (.rol xs) h) J=J ⟨xs,λ _=>True⟩ h:=rfl
theorem Jpr (xs:List IV):WR (Xw (.tup xs) h) J=J ⟨xs,λ _=>True⟩ h:=rfl
theorem Jpq (x:Str):WR (Xw (.str x) h) J=J ⟨Vj x,λ _=>True⟩ h:=rfl
theorem Jtr (i:Nat):WR (QM [.ref i] h) J=∃xs,h[i]?=some (.lst xs)/\J ⟨Qx 0 xs,λ h'=>h'[i]?=some (.lst xs)⟩ h:=by
 show WR (QM [.ref i] h) J=_
 unfold QM
 cases e:h[i]? with
 | none=>simp[WR,e]
 | some o=>cases o<;>simp[WR,e]
theorem Xk (j:Int):WR (Qn [.int j] h) J=((-(2^62)<=j/\j<2^62)/\J ⟨rngI 0 j,λ _=>True⟩ h):=by
 unfold Qn;rw[QV];exact propext ⟨λ ⟨a,b⟩=>(Classical.em _).elim (λ q=>⟨q,a q⟩) λ q=>(b q).elim,λ ⟨a,b⟩=>⟨λ _=>b,λ q=>absurd a q⟩⟩
theorem Jk1 (i j:Int):WR (Jwx [.int i,.int j] h) J=((-(2^62)<=i/\i<2^62/\ -(2^62)<=j/\j<2^62)/\J ⟨rngI i j,λ _=>True⟩ h):=by
 unfold Jwx;rw[QV];exact propext ⟨λ ⟨a,b⟩=>(Classical.em _).elim (λ q=>⟨q,a q⟩) λ q=>(b q).elim,λ ⟨a,b⟩=>⟨λ _=>b,λ q=>absurd a q⟩⟩
theorem Qy (i j:Int):(rngI i j).length=(j-i).toNat:=by simp[rngI]
theorem VH (i j:Int)(n:Nat)(hn:n<(rngI i j).length):(rngI i j)[n]=.int (i+n):=by simp[rngI]
theorem Jrx (xs:List IV)(n:Nat)(hn:n<(Qx 0 xs).length):(Qx 0 xs)[n]=.tup [.int n,xs[n]'(by rwa [Xv] at hn)]:=by
 have:=Jg9 xs 0 n
 rw[Zb hn,Zb (by rwa [Xv] at hn)] at this
 simpa using this
theorem Jpv (i:Nat)(lo hi:Option Int):WR (slI (.ref i) lo hi h) Q=∃xs,h[i]?=some (.lst xs)/\Q (.ref h.length) (h++[.lst (cutI xs lo hi)]):=by
 unfold slI
 cases e:h[i]? with
 | none=>simp[WR,e]
 | some o=>cases o<;>simp[WR,e]
theorem Jpw (xs:List IV)(lo hi:Option Int):WR (slI (.rol xs) lo hi h) Q=Q (.ref h.length) (h++[.lst (cutI xs lo hi)]):=rfl
theorem Jo9 (n d:Nat):HT.sIx n d none=d:=HT.sIx_none n d
theorem Joq {α:Type}(xs:List α)(n:Nat):cutI xs none (some (n:Int))=xs.take n:=by
 unfold cutI
 rw[Jo9,HT.sIx_nat]
 simp
theorem Jop {α:Type}(xs:List α)(n:Nat):cutI xs (some (n:Int)) none=xs.drop n:=by
 unfold cutI
 rw[Jo9,HT.sIx_nat]
 by_cases hn:n<=xs.length
 ·rw[ZdV hn]
  exact ZaY (by simp)
 ·rw[Nat.min_eq_right (by omega),ZdE,ZcB (by omega)]
  simp
theorem Jyi {α:Type}(xs:List α)(n m:Nat):cutI xs (some (n:Int)) (some (m:Int))=(xs.take m).drop n:=by
 unfold cutI
 rw[HT.sIx_nat,HT.sIx_nat]
 refine ZbT λ i=>?_
 simp only[List.getElem?_take,List.getElem?_drop]
 by_cases h1:n+i<xs.length
 ·rw[ZdV (show n<=xs.length by omega)]
  by_cases h3:n+i<m
  ·rw[if_pos h3,if_pos (by omega)]
  ·rw[if_neg h3,if_neg (by omega)]
 ·rw[show xs[n+i]?=none from Zbg (by omega),show xs[min n xs.length+i]?=none from Zbg (by omega)]
  simp
variable {P:Pg}{m:Str}{n i:Nat}{o:E1}{a:A1}{xs:List IV}{c:Str}{fs:List (Str×IV)}
theorem J0g {g:IV->List IV->IH->Res IV}(e:o σ h=.ok (.ref i) h1)(hl:h1[i]?=some (.lst xs))(hg:bmOf "list" m n=some g):WR (Jn P m n o a σ h) Q=WR (a σ h1) λ vs h2=>WR (g (.ref i) vs h2) Q:=by
 unfold Jn
 rw[e]
 have hi:VE (.ref i) h1=false:=by simp[VE,hl]
 have ht:tyS (.ref i) h1="list":=by simp[tyS,hl]
 dsimp only
 rw[hi,ht,hg]
 dsimp only
 rw[if_neg Zp]
 unfold eBm
 rw[e,Jq,Vo]
 have:tyOk "list" (.ref i) h1=true:=by simp[tyOk,hl]
 rw[if_pos this,Jq]
theorem VM {f:List IV->IH->Res IV}{d:List IV}(e:o σ h=.ok (.ref i) h1)(hi:h1[i]?=some (.ins c fs))(hf:fs.lookup m=none)(hd:JV P m n c=some (f,d)):WR (Jn P m n o a σ h) Q=WR (a σ h1) λ vs h2=>WR (f (.ref i::(vs++d)) h2) Q:=by
 unfold Jn
 rw[e]
 have hi':VE (.ref i) h1=true:=by simp[VE,hi]
 dsimp only
 rw[hi',if_pos rfl]
 unfold Jua
 rw[e,Jq,Vo]
 dsimp only
 rw[hi]
 dsimp only
 rw[hd,hf]
 dsimp only
 rw[Jq]
theorem Jtq (y:IV):WR (VR (.ref i) [y] h) Q=∃xs,h[i]?=some (.lst xs)/\xs.length<sizeLine/\Q .non (h.set i (.lst (xs++[y]))):=by
 unfold VR
 cases e:h[i]? with
 | none=>simp[WR,e]
 | some ob =>
  cases ob with
  | lst xs=>by_cases hz:xs.length<sizeLine<;>simp[WR,e,hz]
  | _=>simp[WR,e]
theorem Vx:bmOf "list" "append" 1=some VR:=by kernel_rfl
theorem JY {f:Str}(e:h[i]?=some (.ins c fs)):VC f (.ref i) h=fs.lookup f:=by simp[VC,e]
theorem Jwd:WR (Vg (.ref i) h) Q=∃xs,h[i]?=some (.lst xs)/\Q (.ref h.length) (h++[.lst xs]):=by
 unfold Vg
 cases e:h[i]? with
 | none=>simp[WR,e]
 | some ob=>cases ob<;>simp[WR,e]
theorem Jga (xs:List IV):WR (Vg (.tup xs) h) Q=Q (.ref h.length) (h++[.lst xs]):=rfl
theorem Jty:WR (Xg (.ref i) h) Q=∃xs,h[i]?=some (.lst xs)/\Q (.tup xs) h:=by
 unfold Xg
 cases e:h[i]? with
 | none=>simp[WR,e]
 | some ob=>cases ob<;>simp[WR,e]
end
section
variable {σ:ISt}{h:IH}{Q:IV->IH->Prop}
theorem Jkx (i j:Nat):WR (Jl (.ref i) (.ref j) h) Q=∃xs,h[i]?=some (.lst xs)/\∃ys,h[j]?=some (.lst ys)/\xs.length+ys.length<=sizeLine/\Q (.ref h.length) (h++[.lst (xs++ys)]):=by
 unfold Jl
 cases e:h[i]? with
 | none=>simp[WR,e]
 | some o =>
  cases e':h[j]? with
  | none=>cases o<;>simp[WR,e,e']
  | some o' =>
   cases o<;>cases o'<;>simp only[e,e',QV,Vo,Jwk,ZaD,IO.lst.injEq,reduceCtorEq,exists_eq_left',false_and,and_false,exists_false,imp_false,Decidable.not_not]
   simp only[eq_iff_iff]
   exact⟨λ ⟨a,b⟩=>⟨b,a b⟩,λ ⟨a,b⟩=>⟨λ _=>b,a⟩⟩
end
section
variable {σ:ISt}{h h1:IH}{Q:IV->IH->Prop}{P:Pg}{m:Str}{n i:Nat}{o:E1}{a:A1}{x:Str}
theorem J0h {g:IV->List IV->IH->Res IV}(e:o σ h=.ok (.str x) h1)(hg:bmOf "str" m n=some g):WR (Jn P m n o a σ h) Q=WR (a σ h1) λ vs h2=>WR (g (.str x) vs h2) Q:=by
 unfold Jn
 rw[e]
 have hi:VE (.str x) h1=false:=rfl
 have ht:tyS (.str x) h1="str":=rfl
 dsimp only
 rw[hi,ht,hg]
 dsimp only
 rw[if_neg Zp]
 unfold eBm
 rw[e,Jq,Vo]
 have:tyOk "str" (.str x) h1=true:=rfl
 rw[if_pos this,Jq]
theorem Jyc:bmOf "str" "join" 1=some Xx:=by kernel_rfl
theorem J0j:WR (Xx (.str x) [.ref i] h) Q=∃xs,h[i]?=some (.lst xs)/\∃zs,Qp xs=some zs/\JoinOk x zs=true/\Q (.str (Txt.join x zs)) h:=by
 unfold Xx
 cases e:h[i]? with
 | none=>simp[WR,e]
 | some ob =>
  cases ob with
  | lst xs =>
   cases q:Qp xs with
   | none=>simp[WR,e,q]
   | some zs=>by_cases hz:JoinOk x zs=true<;>simp[WR,e,q,hz]
  | _=>simp[WR,e]
theorem Jkq:∀zs:List Str,Qp (zs.map IV.str)=some zs
 | []=>rfl
 | z::zs=>by
  rw[Z0,Qp,Jkq zs];rfl
end
section
variable {σ:ISt}{h:IH}{Q:IV->IH->Prop}{i:Nat}
theorem Jtx:WR (sumI (.ref i) h) Q=∃xs,h[i]?=some (.lst xs)/\∃ns,JI xs=some ns/\Q (.int ns.sum) h:=by
 unfold sumI
 cases e:h[i]? with
 | none=>simp[WR,e]
 | some ob =>
  cases ob with
  | lst xs=>cases q:JI xs<;>simp[WR,e,q]
  | _=>simp[WR,e]
theorem Vd:∀ns:List Int,JI (ns.map IV.int)=some ns
 | []=>rfl
 | n::ns=>by
  rw[Z0,JI,Vd ns];rfl
theorem J0k (aa:A1)(md:E1):WR (Yb aa md σ h) Q=WR (aa σ h) λ xs h1=>WR (md σ h1) λ d h2=>∃i,xs=[.ref i]/\∃ys,h2[i]?=some (.lst ys)/\∃ns,JI ys=some ns/\Q (maxD ns d) h2:=by
 unfold Yb
 rw[Jq]
 congr 1;funext xs h1
 rw[Jq]
 congr 1;funext d h2
 match xs with
 | [.ref i] =>
  simp only[Zdc,IV.ref.injEq,and_true,exists_eq_left']
  cases e:h2[i]? with
  | none=>simp[WR]
  | some ob =>
   cases ob with
   | lst ys=>cases q:JI ys<;>simp[WR,q]
   | _=>simp[WR]
 | []=>simp[WR]
 | [.non]=>simp[WR]
 | [.bl _]=>simp[WR]
 | [.int _]=>simp[WR]
 | [.str _]=>simp[WR]
 | [.tup _]=>simp[WR]
 | [.rol _]=>simp[WR]
 | x::_::_=>cases x<;>simp[WR]
theorem Jtv (aa:A1):WR (Ya aa σ h) Q=WR (aa σ h) λ xs h1=>∃i,xs=[.ref i]/\∃ys,h1[i]?=some (.lst ys)/\∃zs,Qp ys=some zs/\zs.length+1<Zcb/\Q (.int (cntD (QG zs) zs.length)) h1:=by
 unfold Ya
 rw[Jq]
 congr 1;funext xs h1
 match xs with
 | [.ref i] =>
  simp only[Zdc,IV.ref.injEq,and_true,exists_eq_left']
  cases e:h1[i]? with
  | none=>simp[WR]
  | some ob =>
   cases ob with
   | lst ys =>
    cases q:Qp ys with
    | none=>simp[WR,q]
    | some zs=>by_cases hz:zs.length+1<Zcb<;>simp[WR,q,hz]
   | _=>simp[WR]
 | []=>simp[WR]
 | [.non]=>simp[WR]
 | [.bl _]=>simp[WR]
 | [.int _]=>simp[WR]
 | [.str _]=>simp[WR]
 | [.tup _]=>simp[WR]
 | [.rol _]=>simp[WR]
 | x::_::_=>cases x<;>simp[WR]
theorem Jlv {zs:List Str}(nd:zs.Nodup):∀i,i<=zs.length->cntD (QG zs) i=i
 | 0,_=>rfl
 | i+1,hi=>by
  have ih:=Jlv nd i (by omega)
  have hm:metB (QG zs) i (QG zs i)=false:=by
   unfold metB
   rw[List.any_eq_false]
   intro j hj
   have hj:=Zar.mp hj
   simp only[decide_eq_true_eq]
   intro e
   simp only[QG,Zi,Zb (show j<zs.length by omega),Zb (show i<zs.length by omega),ZdF] at e
   have:=(ZcI nd).mp e
   omega
  unfold cntD
  rw[hm,ih]
  rfl
theorem Jxd (f:Nat->Int):∀(n j:Nat),j<n->f j<=JL f n
 | 0,_,h=>by omega
 | 1,j,h=>by
  obtain rfl:j=0:=by omega
  exact ZaO _
 | n+2,j,h=>by
  rw[Jfb f (by omega)]
  by_cases hj:j=n+1
  ·subst hj;split<;>omega
  ·have:=Jxd f (n+1) j (by omega)
   split<;>omega
theorem Jxe (f:Nat->Int)(b:Int):∀(n:Nat),0<n->(∀j,j<n->f j<=b)->JL f n<=b
 | 0,h,_=>by omega
 | 1,_,q=>q 0 (by omega)
 | n+2,_,q=>by
  rw[Jfb f (by omega)]
  have:=Jxe f b (n+1) (by omega) λ j hj=>q j (by omega)
  have:=q (n+1) (by omega)
  split<;>omega
end
section
variable {h:IH}{Q:IV->IH->Prop}{i:Nat}
end
def KpB (i0:Nat)(h h':IH):Prop:=∀(j:Nat)(ob:IO),j≠i0->h[j]?=some ob->h'[j]?=some ob
def Kp (h h':IH):Prop:=∀(j:Nat)(ob:IO),h[j]?=some ob->h'[j]?=some ob
theorem KpB.trans {i0:Nat}{a b c:IH}(p:KpB i0 a b)(q:KpB i0 b c):KpB i0 a c:=λ j ob n e=>q j ob n (p j ob n e)
theorem Kp.trans {a b c:IH}(p:Kp a b)(q:Kp b c):Kp a c:=λ j ob e=>q j ob (p j ob e)
theorem Kp.but {i0:Nat}{a b:IH}(p:Kp a b):KpB i0 a b:=λ j ob _ e=>p j ob e
theorem Ex.kp {a b:IH}(x:Ex a b):Kp a b:=λ _ _ e=>x.get e
theorem J0u {chk:IH->Prop}{e:E1}{caps:ISt}{D:IV->IV->IH->Prop}(i0:Nat)(mono:∀x y h2 h3,KpB i0 h2 h3->D x y h2->D x y h3):∀{xs acc:List IV}{o:Option IV}{h1:IH},h1[i0]?=some (.lst acc)->(∀h2,KpB i0 h1 h2->chk h2)->acc.length+xs.length<sizeLine ->
  (∀x∈xs,∀h2:IH,KpB i0 h1 h2->i0<h2.length->WR (e (some x::caps) h2) λ v h3=>Ex h2 h3/\D x v h3) ->
  WR (JD chk (gNm 0) J4 e i0 xs (o::caps) h1) λ v h3=>v=.ref i0/\∃ys,h3[i0]?=some (.lst (acc++ys))/\ys.length=xs.length/\KpB i0 h1 h3/\∀(i:Nat) x y,xs[i]?=some x->ys[i]?=some y->D x y h3
 | [],acc,o,h1,hi,hc,_,_=>by
  unfold JD
  rw[if_pos (hc h1 λ _ _ _ q=>q)]
  exact⟨rfl,[],by simpa using hi,rfl,λ _ _ _ q=>q,λ i x y q=>by simp at q⟩
 | x::xs,acc,o,h1,hi,hc,hl,he=>by
  unfold JD
  rw[if_pos (hc h1 λ _ _ _ q=>q)]
  dsimp only[gNm,Zbi,J4]
  have hl':acc.length+xs.length+1<sizeLine:=by simpa [Zd2] using hl
  obtain⟨v,h3,e3,x3,dv⟩:=(he x Z3 h1 (λ _ _ _ q=>q) (JB hi)).eq
  rw[e3]
  dsimp only
  rw[x3.get hi]
  dsimp only
  rw[if_pos (by omega)]
  have k34:KpB i0 h3 (h3.set i0 (.lst (acc++[v]))):=λ j ob n q=>by
   rw[ZC (ZK n)];exact q
  have k14:KpB i0 h1 (h3.set i0 (.lst (acc++[v]))):=x3.kp.but.trans k34
  refine WR.mono (J0u i0 mono (acc:=acc++[v]) (by rw[ZG (JB (x3.get hi))]) (λ h4 q=>hc h4 (k14.trans q)) (by simp;omega) λ y hy h4 q=>he y (Zm _ hy) h4 (k14.trans q)) ?_
  rintro w h5 ⟨rfl,ys,g5,ln,k5,d5⟩
  refine⟨rfl,v::ys,by simpa using g5,by simp[ln],k14.trans k5,?_⟩
  intro i x' y' q1 q2
  cases i with
  | zero =>
   simp only[Za5,ZaD] at q1 q2
   subst q1;subst q2
   exact mono _ _ _ _ (k34.trans k5) dv
  | succ i=>exact d5 i x' y' (by simpa using q1) (by simpa using q2)
theorem Jv6 {h h0:IH}{it:I1}{e:E1}{js:List Nat}{σ:ISt}{xs:List IV}{chk:IH->Prop}(D:IV->IV->IH->Prop)(hit:WR (it σ h0) λ J h1=>J.xs=xs/\J.chk=chk/\h1=h)(hl:xs.length<sizeLine)
  (mono:∀x y h2 h3,KpB h.length h2 h3->D x y h2->D x y h3)(hc:∀h2:IH,Kp h h2->chk h2)
  (he:∀x∈xs,∀h2:IH,Kp h h2->h.length<h2.length->WR (e (some x::js.map λ j=>(σ[j]?).join) h2) λ v h3=>Ex h2 h3/\D x v h3) :
  WR (Jy it 1 js (gNm 0) J4 e σ h0) λ v h3=>v=.ref h.length/\∃ys,h3[h.length]?=some (.lst ys)/\ys.length=xs.length/\Kp h h3/\∀(i:Nat) x y,xs[i]?=some x->ys[i]?=some y->D x y h3:=by
 obtain⟨J,h1,e1,q1,q2,rfl⟩:=hit.eq
 unfold Jy
 rw[e1]
 show WR (JD J.chk (gNm 0) J4 e h1.length J.xs (none::js.map λ j=>(σ[j]?).join) (h1++[.lst []])) _
 rw[q1,q2]
 have lift:∀{h2:IH},KpB h1.length (h1++[IO.lst []]) h2->Kp h1 h2:=λ q j ob r=>q j ob (Z1 (JB r)) (grow r)
 refine WR.mono (J0u h1.length mono (acc:=[]) Jj (λ h2 q=>hc h2 (lift q)) (by simpa using hl) λ x hx h2 q ln=>he x hx h2 (lift q) ln) ?_
 rintro v h3 ⟨rfl,ys,g3,ln,k3,d3⟩
 exact⟨rfl,ys,by simpa using g3,ln,lift k3,d3⟩
section
variable {h:IH}
theorem Jyg {chk:IH->Prop}{g:G1}{t:T1}{e:E1}{caps:ISt}{p:IV->Bool}{f:IV->IV}{st:IV->ISt}{n:Nat}(i0:Nat):∀{xs acc:List IV}{ls:ISt}{h1:IH},ls.length=n->h1[i0]?=some (.lst acc)->(∀h2,(∀j ob,j≠i0->h1[j]?=some ob->h2[j]?=some ob)->chk h2)->acc.length+xs.length<sizeLine ->
  (∀x∈xs,∀(ls:ISt)(h2:IH),ls.length=n->(st x).length=n/\g x (ls++caps) h2=.next (st x++caps) h2) ->
  (∀x∈xs,∀h2,(∀j ob,j≠i0->h1[j]?=some ob->h2[j]?=some ob)->WR (t (st x++caps) h2) λ b h3=>b=p x/\Ex h2 h3) ->
  (∀x∈xs,p x=true->∀h2,(∀j ob,j≠i0->h1[j]?=some ob->h2[j]?=some ob)->WR (e (st x++caps) h2) λ v h3=>v=f x/\Ex h2 h3) ->
  WR (JD chk g t e i0 xs (ls++caps) h1) λ v h3=>v=.ref i0/\∃g,h3=h1.set i0 (.lst (acc++(xs.filter p).map f))++g
 | [],acc,ls,h1,_,hi,hc,_,_,_,_=>by
  unfold JD
  rw[if_pos (hc h1 λ _ _ _ q=>q)]
  refine⟨rfl,[],?_⟩
  simp only[List.filter_nil,Zbk,Zak]
  refine(ZbT λ j=>?_)
  by_cases hj:j=i0
  ·subst hj
   rw[hi,ZG (JB hi)]
  ·rw[ZC (ZK hj)]
 | x::xs,acc,ls,h1,hls,hi,hc,hl,hg,ht,he=>by
  unfold JD
  rw[if_pos (hc h1 λ _ _ _ q=>q)]
  obtain⟨sl,eg1⟩:=hg x Z3 ls h1 hls
  rw[eg1]
  dsimp only
  have hl':acc.length+xs.length+1<sizeLine:=by simpa [Zd2] using hl
  obtain⟨b,h2,e1,rfl,x2⟩:=(ht x Z3 h1 λ _ _ _ q=>q).eq
  rw[e1]
  have k12:∀j ob,j≠i0->h1[j]?=some ob->h2[j]?=some ob:=λ j ob _ q=>x2.get q
  cases hp:p x with
  | false =>
   dsimp only
   refine WR.mono (Jyg i0 sl (x2.get hi) (λ h3 q=>hc h3 λ j ob n r=>q j ob n (k12 j ob n r)) (by omega) (λ y hy=>hg y (Zm _ hy)) (λ y hy h3 q=>ht y (Zm _ hy) h3 λ j ob n r=>q j ob n (k12 j ob n r))
    λ y hy hpy h3 q=>he y (Zm _ hy) hpy h3 λ j ob n r=>q j ob n (k12 j ob n r)) λ v h3 ⟨ev,g,eg⟩=>⟨ev,?_⟩
   obtain⟨g2,rfl⟩:=x2
   refine⟨g2++g,?_⟩
   rw[eg,Zav (h:=JB hi)]
   simp[hp]
  | true =>
   dsimp only
   obtain⟨v,h3,e3,rfl,x3⟩:=(he x Z3 hp h2 k12).eq
   rw[e3]
   dsimp only
   rw[x3.get (x2.get hi)]
   dsimp only
   rw[if_pos (by omega)]
   have k13:∀j ob,j≠i0->h1[j]?=some ob->(h3.set i0 (.lst (acc++[f x])))[j]?=some ob:=λ j ob n q=>by
    rw[ZC (ZK n)]
    exact x3.get (x2.get q)
   refine WR.mono (Jyg i0 (acc:=acc++[f x]) sl (by rw[ZG (JB (x3.get (x2.get hi)))]) (λ h4 q=>hc h4 λ j ob n r=>q j ob n (k13 j ob n r)) (by simp;omega) (λ y hy=>hg y (Zm _ hy)) (λ y hy h4 q=>ht y (Zm _ hy) h4 λ j ob n r=>q j ob n (k13 j ob n r))
    λ y hy hpy h4 q=>he y (Zm _ hy) hpy h4 λ j ob n r=>q j ob n (k13 j ob n r)) λ v h4 ⟨ev,g,eg⟩=>⟨ev,?_⟩
   obtain⟨g3,q3⟩:=x2.trans x3
   refine⟨g3++g,?_⟩
   rw[eg,q3,Zav (h:=JB hi),Zav (h:=by rw[Zbn];exact JB hi),ZdS]
   simp[hp]
theorem Jv7 {it:I1}{g:G1}{t:T1}{e:E1}{js:List Nat}{σ:ISt}{xs:List IV}{chk:IH->Prop}{p:IV->Bool}{f:IV->IV}{st:IV->ISt}{n:Nat}{h0:IH}(hit:WR (it σ h0) λ J h1=>J.xs=xs/\J.chk=chk/\h1=h)(hl:xs.length<sizeLine)
  (hc:∀h2:IH,(∀(j:Nat)(ob:IO),h[j]?=some ob->h2[j]?=some ob)->chk h2)
  (hg:∀x∈xs,∀(ls:ISt)(h2:IH),ls.length=n->(st x).length=n/\g x (ls++js.map λ j=>(σ[j]?).join) h2=.next (st x++js.map λ j=>(σ[j]?).join) h2)
  (ht:∀x∈xs,∀h2:IH,(∀(j:Nat)(ob:IO),h[j]?=some ob->h2[j]?=some ob)->WR (t (st x++js.map λ j=>(σ[j]?).join) h2) λ b h3=>b=p x/\Ex h2 h3)
  (he:∀x∈xs,p x=true->∀h2:IH,(∀(j:Nat)(ob:IO),h[j]?=some ob->h2[j]?=some ob)->WR (e (st x++js.map λ j=>(σ[j]?).join) h2) λ v h3=>v=f x/\Ex h2 h3) :
  WR (Jy it n js g t e σ h0) λ v h3=>v=.ref h.length/\∃g,h3=h++.lst ((xs.filter p).map f)::g:=by
 obtain⟨J,h1,e1,q1,q2,rfl⟩:=hit.eq
 unfold Jy
 rw[e1]
 show WR (JD J.chk g t e h1.length J.xs (ZJ n none++js.map λ j=>(σ[j]?).join) (h1++[.lst []])) _
 rw[q1,q2]
 have lift:∀{h2:IH},(∀j ob,j≠h1.length->(h1++[IO.lst []])[j]?=some ob->h2[j]?=some ob)->∀j ob,h1[j]?=some ob->h2[j]?=some ob:=λ q j ob r=>q j ob (Z1 (JB r)) (grow r)
 refine WR.mono (Jyg (p:=p) (f:=f) (st:=st) h1.length (acc:=[]) (Zbt ..) Jj (λ h2 q=>hc h2 (lift q)) (by simpa using hl) hg (λ x hx h2 q=>ht x hx h2 (lift q)) λ x hx hp h2 q=>he x hx hp h2 (lift q)) λ v h3 ⟨ev,g,eg⟩=>⟨ev,g,?_⟩
 rw[eg]
 simp
end
def Jxr (ts:List Zd)(H:Hp):Prop:=∀b,H b=none∨(∃o xs,H b=some (.frz o (.lst xs)))∨(b∈ts/\H b=some (.tbl #[]))
theorem Jsl {P:Z5}{w:ZP}{K:W.Frag}{mg mb:Str->Option Za}{k:Nat}{fa a:Zd}{fd:Zax}{x:Str}{sp:Sp}{s₁:Zc}{vs:List Za}{ns:List Int}{ts:List Zd}
  (KX:K.In s₁.heap)(hns:s₁.heap.Ns Zx mg)(hb:s₁.heap.Ns Zcv mb)(hbb:∀x:Str,x≠"__name__"->mb x=ZbZ x)(hlim:s₁.heap.NoLimit)(hg:s₁.gens=#[])
  (ha:s₁.heap.get? a=some { cls:=.type "list",data:=.seq vs.toArray })(hi:Zb4 vs ns)(hl:ns.length<=sizeLine)(hr:Room k Zel)
  (hT:∀p∈ts,s₁.heap.get? p=some (W.tabObj #[])/\isCodeTable s₁.heap p/\K.lookup p=none)
  (hbm:∃bm ob,mg "__builtins__"=some (.ref bm)/\bm≠Zcv/\s₁.heap.get? bm=some ob/\ob.cls=.type "module"/\ob.dict=some Zcv/\ob.data=.plain)
  (F:∀base:Zag,K.In base->base.Ns Zx mg->Q2 mg base->FnOk P w K mg base (CXI P w) k fa fd [x] sp)(hbind:∀(s:Zc)(u:Za),Zcq s fd ⟨[u],[]⟩ [(x,u)])
  (hsp:∀H:Hp,Jxr ts H->SqL K H a (ns.map V.int)->(∀p∈ts,H p=some (.tbl #[]))->sp [.ref a] H (λ v _=>v=.bl true) λ _ _ _=>False) :
  Zc5 (Z6 P w) Zel (.call (.ref fa) ⟨[.ref a],[]⟩) (λ r s'=>r=.ok (.ret (.bool true))/\OldK s₁.heap s'.heap/\s'.os=s₁.os/\Zdg s'.gens) s₁:=by
 have rv:=L2.XN hi
 have lenV:=hi.length
 have nta:a∉ts:=λ z=>by
  have e:=(hT a z).1
  rw[ha] at e
  have e':=Zab e
  injection e' with h1
  cases h1
 have core:∀H:Hp,Jxr ts H->SqL K H a (ns.map V.int)->HOk P w H s₁.heap->(∀b,H b≠none->b=a∨b∈ts)->(H a≠none->K.lookup a=none)->(∀p∈ts,H p=some (.tbl #[])) ->
   Zc5 (Z6 P w) Zel (.call (.ref fa) ⟨[.ref a],[]⟩) (λ r s'=>r=.ok (.ret (.bool true))/\OldK s₁.heap s'.heap/\s'.os=s₁.os/\Zdg s'.gens) s₁:=by
  intro H hO hS hok hA hK hTt
  have base_of:∀{b:Zd}{o:Obj},s₁.heap.get? b=some o->H b=none->(hidT s₁.heap H).get? b=some o:=λ e n=>Juh e n
  have noA:∀{b:Zd}{o:Obj},s₁.heap.get? b=some o->(∀vs n,o.data≠.seq vs n)->(∀vs,o.data≠.fields vs)->H b=none:=λ {b o} e d1 d2=>by
   cases q:H b with
   | none=>rfl
   | some u =>
    rcases hA b (by rw[q];simp) with e'|e'
    ·subst e'
     rw[ha] at e;cases e
     exact absurd rfl (d1 _ _)
    ·rw[(hT b e').1] at e;cases e
     exact absurd rfl (d2 _)
  have nsK:∀{b:Zd}{m:Str->Option Za},s₁.heap.Ns b m->(hidT s₁.heap H).Ns b m:=λ {b m} ⟨o,es,ep,e,d,r⟩=>⟨o,es,ep,base_of e (noA e (λ _ _ z=>by rw[d] at z;cases z) λ _ z=>by rw[d] at z;cases z),d,r⟩
  have hKb:K.In (hidT s₁.heap H):=λ b o e=>base_of (KX b o e) (by
   cases q:H b with
   | none=>rfl
   | some u =>
    rcases hA b (by rw[q];simp) with e'|e'
    ·subst e'
     rw[hK (by rw[q];simp)] at e;cases e
    ·rw[(hT b e').2.2] at e;cases e)
  have hM:Mod K mg (hidT s₁.heap H):=⟨hKb,nsK hns,⟨mb,nsK hb,hbb⟩,let ⟨mc,h1,h2⟩:=hlim;⟨mc,nsK h1,h2⟩⟩
  have hB:Q2 mg (hidT s₁.heap H):=by
   obtain⟨bm,ob,b1,b2,b3,b4,b5,b6⟩:=hbm
   refine⟨bm,ob,b1,b2,λ z=>?_,base_of b3 (noA b3 (λ _ _ z=>by rw[b6] at z;cases z) λ _ z=>by rw[b6] at z;cases z),b4,b5,b6⟩
   obtain⟨o,es,ep,e,d,_⟩:=hns
   rw[<- z,b3] at e
   cases e
   rw[b6] at d
   cases d
  have e0:Env0 P w K mg (hidT s₁.heap H) Zel [] s₁ H:=⟨rfl,hM,λ b o e=>Jzi e,Zc7 (Jr4 _ _),trivial,λ b hb=>absurd (show b∈([]:List Zd) from hb) (by simp),hok,.of_eq hg⟩
  refine ZcA ((F _ hKb (nsK hns) hB).run Zel [] s₁ H ⟨[.ref a],[]⟩ [.ref a] [.ref a] _ _ hr e0 (hbind s₁ (.ref a)) (.cons rfl .nil) (hsp H hO hS hTt)) λ r s' h=>?_
  cases r with
  | error e=>exact h.elim λ _ z=>z.2.2.2.2.elim
  | ok fl =>
   cases fl with
   | next=>exact Zbp h
   | brk=>exact Zbp h
   | cont=>exact Zbp h
   | ret u =>
    obtain⟨v,H',os,bare,un,hok',r',q⟩:=h
    have q':v=.bl true:=q
    subst q'
    obtain rfl:u=ZcH true:=r'
    have main:∀b o,s₁.heap.get? b=some o->asItWas s₁.heap s'.heap b o/\∃o',s'.heap.get? b=some o':=λ b o e=>by
     rcases hO b with z|⟨ob,xs,z⟩|⟨hb,z⟩
     ·have:=un.keep b o e z (by intro z;exact absurd (show b∈([]:List Zd) from z) (by simp)) (by simp)
      exact⟨.inl this,_,this⟩
     ·have z2:=un.frzs b ob _ z
      obtain⟨e1,_⟩:=hok b _ z
      obtain⟨e2,_⟩:=hok' b _ z2
      rw[e] at e1;cases e1
      exact⟨.inl e2,_,e2⟩
     ·obtain⟨more,z2⟩:=un.tbls b _ z
      have e2:=hok' b _ z2
      have e1:=(hT b hb).1
      rw[e] at e1
      cases e1
      exact⟨.inr (.inl ⟨(hT b hb).2.1,rfl,#[],more,rfl,e2⟩),_,e2⟩
    exact⟨rfl,⟨λ b o e=>(main b o e).1,λ b o e=>(main b o e).2⟩,os,bare⟩
 cases hk:K.lookup a with
 | some o =>
  have e:=KX a o hk
  rw[ha] at e
  cases e
  refine core (λ b=>if b∈ts then some (.tbl #[]) else none) (λ b=>?_) (.inr ⟨_,vs.toArray,_,hk,rfl,rfl,rfl,by rw[Zq,lenV];exact hl,by simpa using rv⟩) (λ b u z=>?_) (λ b z=>?_) (λ z=>absurd (if_neg nta) z) λ p hp=>if_pos hp
  ·by_cases hb:b∈ts
   ·exact .inr (.inr ⟨hb,if_pos hb⟩)
   ·exact .inl (if_neg hb)
  ·by_cases hb:b∈ts
   ·have z':=(if_pos hb).symm.trans z
    cases z'
    exact(hT b hb).1
   ·have z':=(if_neg hb).symm.trans z
    cases z'
  ·by_cases hb:b∈ts
   ·exact .inr hb
   ·exact absurd (if_neg hb) z
 | none =>
  refine core (λ b=>if b=a then some (.frz { cls:=.type "list",data:=.seq vs.toArray } (.lst (ns.map V.int))) else if b∈ts then some (.tbl #[]) else none) (λ b=>?_) (.inl (.inr ⟨{ cls:=.type "list",data:=.seq vs.toArray },if_pos rfl⟩)) (λ b u z=>?_) (λ b z=>?_) (λ _=>hk) λ p hp=>?_
  ·by_cases hb:b=a
   ·exact .inr (.inl ⟨_,_,if_pos hb⟩)
   ·by_cases hc:b∈ts
    ·exact .inr (.inr ⟨hc,(if_neg hb).trans (if_pos hc)⟩)
    ·exact .inl ((if_neg hb).trans (if_neg hc))
  ·by_cases hb:b=a
   ·have z':=(if_pos hb).symm.trans z
    cases z'
    subst hb
    exact⟨ha,by rw[Zh];exact hl,vs,_,rv,ha⟩
   ·by_cases hc:b∈ts
    ·have z':=((if_neg hb).trans (if_pos hc)).symm.trans z
     cases z'
     exact(hT b hc).1
    ·have z':=((if_neg hb).trans (if_neg hc)).symm.trans z
     cases z'
  ·by_cases hb:b=a
   ·exact .inl hb
   ·by_cases hc:b∈ts
    ·exact .inr hc
    ·exact absurd ((if_neg hb).trans (if_neg hc)) z
  ·have hb:p≠a:=λ z=>nta (z▸hp)
   exact(if_neg hb).trans (if_pos hp)
def Jt5 (o:Obj)(q:Str):Bool:=match o with
 | ⟨_,_,.fields vs,_⟩=>(match vs.toList with|_::.str n _::_=>n==q|_=>false)
 | _=>false
def QS (K:W.Frag)(q:Str)(p:Zd):Bool:=(K.lookup p).isNone&&K.all (λ e=>!(Jt5 e.2 q)||W.codeHdIn K e.1 p)&&K.any (λ e=>Jt5 e.2 q&&W.codeHdIn K e.1 p)
def QY (K:W.Frag):List Str->List Zd->Bool
 | [],[]=>true
 | q::qs,p::ps=>QS K q p&&!ps.contains p&&QY K qs ps
 | _,_=>false
theorem Jqk {K:W.Frag}{c:Zd}{o:Obj}(h:K.lookup c=some o):(c,o)∈K:=by
 induction K with
 | nil=>cases h
 | cons p K ih =>
  obtain⟨b,o'⟩:=p
  rw[ZX] at h
  split at h
  ·rename_i e
   cases h
   rw[beq_iff_eq.mp e]
   exact Z3
  ·exact Zm _ (ih h)
theorem QS.code {K:W.Frag}{q:Str}{p:Zd}(h:QS K q p=true):∀cdv,W.codeIn K cdv q=true->∃c,cdv=.ref c/\W.codeHdIn K c p=true:=by
 simp only[QS,Zn,Zbh,Zay,ZaC] at h
 intro cdv e
 unfold W.codeIn at e
 split at e
 ·rename_i c
  refine⟨c,rfl,?_⟩
  cases hk:K.lookup c with
  | none=>rw[hk] at e;cases e
  | some o =>
   rw[hk] at e
   rcases h.1.2 _ (Jqk hk) with z|z
   ·exfalso
    have e':Jt5 o q=true:=by
     obtain⟨oc,od,dt,sl⟩:=o
     cases dt<;>first|exact e|cases e
    have z':Jt5 o q=false:=z
    rw[e'] at z'
    cases z'
   ·exact z
 ·cases e
theorem QS.some {K:W.Frag}{q:Str}{p:Zd}(h:QS K q p=true):K.lookup p=none/\∃c,W.codeHdIn K c p=true:=by
 simp only[QS,Zn,ZdG,Option.isNone_iff_eq_none] at h
 obtain⟨⟨h1,_⟩,e,_,h2⟩:=h
 exact⟨h1,e.1,h2.2⟩
theorem QY.mem {K:W.Frag}:∀{qs:List Str}{ts:List Zd},QY K qs ts=true->ts.Nodup/\qs.length=ts.length/\(∀(i:Nat)(q:Str),qs[i]?=some q->∃p,ts[i]?=some p/\QS K q p=true)/\∀p∈ts,∃q,QS K q p=true
 | [],[],_=>⟨.nil,rfl,λ i q e=>by simp at e,λ p hp=>by cases hp⟩
 | q::qs,p::ps,h=>by
  simp only[QY,Zn,ZaC,List.contains_eq_mem,decide_eq_false_iff_not] at h
  obtain⟨⟨h1,h2⟩,h3⟩:=h
  obtain⟨a,b,c,d⟩:=QY.mem h3
  refine⟨Zcr.mpr ⟨h2,a⟩,by simp[b],λ i r e=>?_,λ r hr=>?_⟩
  ·cases i with
   | zero =>
    have e':some q=some r:=e
    cases e'
    exact⟨p,rfl,h1⟩
   | succ i=>exact c i r e
  ·rcases Z4.mp hr with rfl|hr
   ·exact⟨q,h1⟩
   ·exact d r hr
 | [],_::_,h=>by cases h
 | _::_,[],h=>by cases h
theorem Jqi {K:W.Frag}{x:Str}{f:List IV->IH->Res IV}{H:Hp}{a:Zd}{ns:List Int}{qs:List Str}{ts:List Zd}(hO:Jxr ts H)(hS:SqL K H a (ns.map V.int))(hT:∀p∈ts,H p=some (.tbl #[]))(hc:QY K qs ts=true)
  (hf:∃h',f [.rol (ns.map IV.int)] (qs.map IO.tab)=.ok (.bl true) h'):XH K x f [.ref a] H (λ v _=>v=.bl true) λ _ _ _=>False:=by
 intro ce
 obtain⟨h',hf⟩:=hf
 have sr:SqR K H a (ns.map V.int):=by
  rcases hS with(h|⟨o,h⟩)|h
  ·rcases hO a with z|⟨ob,xs,z⟩|⟨_,z⟩
   ·rw[z] at h;cases h
   ·rw[z] at h;cases h
   ·rw[z] at h;cases h
  ·exact .inl ⟨o,h⟩
  ·exact .inr h
 obtain⟨nd,le,at_,_⟩:=QY.mem hc
 refine⟨rfl,ts,qs.map IO.tab,[.rol (ns.map IV.int)],⟨by simp[le],nd,λ i o e=>?_⟩,⟨.ref a,[],rfl,⟨a,_,rfl,sr,RVs.ints ns⟩,rfl⟩,?_⟩
 ·rw[Zt] at e
  cases eq:qs[i]? with
  | none=>rw[eq] at e;cases e
  | some q =>
   rw[eq] at e
   cases e
   obtain⟨p,ep,hp⟩:=at_ i q eq
   exact⟨p,ep,QS.code hp,#[],hT p (ZbV ep),trivial,λ pos cv z=>by cases z⟩
 ·rw[hf]
  intro v H' ι' _ _ q
  exact q
theorem Jv3 {l:W.OpenLaw}{n k:Nat}{q:Z5}{loose:List Str}{XP:(Str->Option Za)->Zag->Prop}{YP:ZP->Zag->Prop}{d:DefRec}{K:Params->W.Frag}{f:List IV->IH->Res IV}{x:Str}{qs:List Str}{ts:List Zd}
  (hn:l.most=some n)(hn2:n<=sizeLine)(hdf:d.params.defaults=[])(hr:Room k Zel)
  (hY:∀(w:ZP)(h:Zag),YP w h->(K w.params).In h/\∀p∈ts,h.get? p=some (W.tabObj #[]))(hc:∀w:ZP,QY (K w.params) qs ts=true)
  (F:∀(w:ZP)(mg:Str->Option Za)(fa:Zd)(h:Zag),(K w.params).In h->h.Ns Zx mg->mg d.name=some (.ref fa) ->
   ∃fd:Zax,(∀(s:Zc)(u:Za),Zcq s fd ⟨[u],[]⟩ [(x,u)]) /\
    ∀base:Zag,(K w.params).In base->base.Ns Zx mg->Q2 mg base->FnOk l.prog w (K w.params) mg base (CXI l.prog w) k fa fd [x] (XH (K w.params) x f))
  (hf:∀ns:List Int,ns.length<=n->∃h',f [.rol (ns.map IV.int)] (qs.map IO.tab)=.ok (.bl true) h') :
  W.WalkO q loose XP YP l.row.toRowW d [] (λ f vs=>PySem.call f vs):=by
 refine Att.attach_call hn hdf λ w s₀ s₁ mg mb fa o pm cd doc a vs ns G Y ho hd hcd hmg hobj hints hlen hg=>?_
 obtain⟨KX,hT⟩:=hY w _ Y
 obtain⟨fd,hb,hF⟩:=F w mg fa _ KX G.T.g hmg
 refine Jsl KX G.T.g G.T.b G.T.builtins G.T.nolimit hg hobj hints (ZO hlen hn2) hr (λ p hp=>?_) G.T.bmain hF hb λ H hO hS hTt=>Jqi hO hS hTt (hc w) (hf ns hlen)
 obtain⟨q,hq⟩:=(QY.mem (hc w)).2.2.2 p hp
 obtain⟨h1,c,h2⟩:=QS.some hq
 exact⟨hT p hp,((W.codeHd_of_K KX h2).tab (hT p hp)).isCodeTable,h1⟩
section
variable {α β:Type}{σ:ISt}{h:IH}
variable {Q:α->IH->Prop}{Z:Nat->IH->Prop}{N:ISt->IH->Prop}{R:IV->IH->Prop}{Y:Nat->ISt->IH->Prop}
theorem J0n {Q:IV->IH->Prop}(x:Str)(lo hi:Option Int):WR (slT (.str x) lo hi h) Q=(x.length<=sizeLine/\Q (.str (Zem x lo hi)) h):=by
 unfold slT;by_cases z:x.length<=sizeLine<;>simp[WR,z]
end
theorem Jhk:∀{a b c:List Int},ltL a b=true->ltL b c=true->ltL a c=true
 | a::as,b::bs,c::cs,h1,h2=>by
  unfold ltL at h1 h2 ⊢
  by_cases e1:a=b
  ·rw[if_pos e1] at h1
   subst e1
   by_cases e2:a=c
   ·rw[if_pos e2] at h2 ⊢
    exact Jhk h1 h2
   ·rw[if_neg e2] at h2 ⊢
    exact h2
  ·rw[if_neg e1,decide_eq_true_eq] at h1
   by_cases e2:b=c
   ·subst e2
    rw[if_neg e1,decide_eq_true_eq]
    exact h1
   ·rw[if_neg e2,decide_eq_true_eq] at h2
    rw[if_neg (by omega),decide_eq_true_eq]
    omega
 | [],_,_,h,_=>by simp[ltL] at h
 | _::_,[],_,h,_=>by simp[ltL] at h
 | _::_,_::_,[],_,h=>by simp[ltL] at h
theorem Yj:∀a:List Int,ltL a a=false
 | []=>rfl
 | a::as=>by
  unfold ltL
  rw[if_pos rfl]
  exact Yj as
theorem Juz {as bs:List Int}(h:as.length=bs.length):ltT (.tup (as.map .int)) (.tup (bs.map .int))=some (ltL as bs):=by
 unfold ltT
 dsimp only
 rw[Vd,Vd]
 dsimp only
 rw[if_pos h]
section
variable {mk:IV->IH->Res IV}{kf:IV->List Int}{i n:Nat}{ys:List IV}
theorem Jfd {h0:IH}(hi:h0[i]?=some (.lst ys))(hm:∀y∈ys,∀h,Ex h0 h->WR (mk y h) λ v h'=>v=.tup ((kf y).map .int)/\Ex h h')(hl:∀y∈ys,(kf y).length=n) :
  ∀(r:Nat)(b:IV)(h:IH),Ex h0 h->r<ys.length->b∈ys->(∀y∈ys.take (ys.length-r),ltL (kf y) (kf b)=false)->WR (Ve ltT mk i ys.length r b (.tup ((kf b).map .int)) h) λ v h'=>v∈ys/\(∀y∈ys,ltL (kf y) (kf v)=false)/\Ex h h'
 | 0,b,h,x,_,hb,q=>by
  unfold Ve
  rw[x.get hi]
  dsimp only
  rw[if_pos rfl]
  rw[Nat.sub_zero,ZdH] at q
  exact⟨hb,q,.refl _⟩
 | r+1,b,h,x,hr,hb,q=>by
  unfold Ve
  rw[x.get hi]
  dsimp only
  rw[if_pos rfl]
  have hlt:ys.length-(r+1)<ys.length:=by omega
  rw[Zb hlt]
  dsimp only
  have hy:=Zz hlt
  have ht:ys.take (ys.length-r)=ys.take (ys.length-(r+1))++[ys[ys.length-(r+1)]]:=by
   rw[<- Zao hlt,show ys.length-(r+1)+1=ys.length-r by omega]
  generalize ys[ys.length-(r+1)]=y at hy ht
  obtain⟨v,h2,e,rfl,x2⟩:=(hm y hy h x).eq
  rw[e]
  show WR (match ltT (.tup ((kf y).map .int)) (.tup ((kf b).map .int)) with|some true=>_|some false=>_|none=>_) _
  rw[Juz (by rw[hl y hy,hl b hb])]
  cases c:ltL (kf y) (kf b) with
  | true =>
   refine WR.mono (Jfd hi hm hl r y h2 (x.trans x2) (by omega) hy λ z hz=>?_) λ v h' ⟨a,d,g⟩=>⟨a,d,x2.trans g⟩
   rw[ht] at hz
   rcases ZS.mp hz with hz|hz
   ·cases zc:ltL (kf z) (kf y) with
    | false=>rfl
    | true=>exact absurd (Jhk zc c) (by rw[q z hz];exact Zp)
   ·rw[Zy.mp hz]
    exact Yj _
  | false =>
   refine WR.mono (Jfd hi hm hl r b h2 (x.trans x2) (by omega) hb λ z hz=>?_) λ v h' ⟨a,d,g⟩=>⟨a,d,x2.trans g⟩
   rw[ht] at hz
   rcases ZS.mp hz with hz|hz
   ·exact q z hz
   ·rw[Zy.mp hz]
    exact c
theorem Jtu {h:IH}(hi:h[i]?=some (.lst ys))(ne:ys≠[])(hm:∀y∈ys,∀h',Ex h h'->WR (mk y h') λ v h2=>v=.tup ((kf y).map .int)/\Ex h' h2)(hl:∀y∈ys,(kf y).length=n) :
  WR (Xz ltT mk i h) λ v h'=>v∈ys/\(∀y∈ys,ltL (kf y) (kf v)=false)/\Ex h h':=by
 unfold Xz
 rw[hi]
 dsimp only
 cases ys with
 | nil=>exact absurd rfl ne
 | cons y r =>
  obtain⟨v,h2,e,rfl,x2⟩:=(hm y Z3 h (.refl _)).eq
  show WR ((mk y h).nx.bind λ k h'=>Ve ltT mk i (y::r).length ((y::r).length-1) y k h') _
  rw[e]
  refine WR.mono (Jfd (kf:=kf) (x2.get hi) (λ z hz h' x=>hm z hz h' (x2.trans x)) hl ((y::r).length-1) y h2 (.refl _) (by simp) Z3 λ z hz=>?_) λ v h' ⟨a,d,g⟩=>⟨a,d,x2.trans g⟩
  rw[show(y::r).length-((y::r).length-1)=1 by simp,Zcf,Zeh,Zy] at hz
  rw[hz]
  exact Yj _
theorem J0m {q:Str}{j i a:Nat}{js:List Nat}{m:E1}{σ:ISt}{h:IH}{Q:IV->IH->Prop}(hj:h[j]?=some (.tab q))(hi:σ[i]?=some (some (.ref a))) :
  WR (Xu ltT q j js (Jb (Ja i) Jd) m σ h) Q=WR (Xz ltT (λ v h'=>m (some v::js.map λ j=>(σ[j]?).join) h') a h) Q:=by
 have e:Jb (Ja i) Jd σ h=.ok [.ref a] h:=by
  unfold Jb Ja Jd
  rw[hi]
  rfl
 unfold Xu
 rw[e]
 show WR (match h[j]? with|some (.tab q')=>_|_=>_) Q=_
 rw[hj]
 dsimp only
 rw[if_pos rfl]
end
end L4
namespace LW
theorem Kaz {α:Sort _}{p:α->Prop}{a':α}:(∃a,a'=a/\p a)↔p a':=exists_eq_left'
theorem Kbz {α:Sort _}{p:α->Prop}{a':α}:(∃a,a=a'/\p a)↔p a':=exists_eq_left
theorem Kcz (a b:Bool):(L3.IV.bl a=L3.IV.bl b)=(a=b):=L3.IV.bl.injEq a b
theorem Kdz (a b:Int):(L3.IV.int a=L3.IV.int b)=(a=b):=L3.IV.int.injEq a b
theorem Kez (a b:Nat):(L3.IV.ref a=L3.IV.ref b)=(a=b):=L3.IV.ref.injEq a b
theorem Kfz (a b:PySem.Str):(L3.IV.str a=L3.IV.str b)=(a=b):=L3.IV.str.injEq a b
theorem Kgz (a b:List L3.IV):(L3.IV.tup a=L3.IV.tup b)=(a=b):=L3.IV.tup.injEq a b
theorem Khz (a b:List L3.IV):(L3.IO.lst a=L3.IO.lst b)=(a=b):=L3.IO.lst.injEq a b
theorem Kiz {α:Type _}(a b:α):(some a=some b)=(a=b):=ZaD a b
theorem Kjz:(!true)=false:=Zcn
theorem Kkz:(!false)=true:=ZbX
theorem Klz:(true=false)=False:=Zbr
theorem Kmz:(false=true)=False:=ZU
theorem Knz {α β:Type _}(a:α)(f:α->Option β):(some a).bind f=f a:=ZbA a f
theorem Koz (p:Prop):(True->p)=p:=true_implies p
theorem Kpz (p:Prop):(False->p)=True:=false_implies p
theorem Kqz (α:Sort _):(α->True)=True:=implies_true α
theorem Krz {α:Type _}{a b:α}{l:List α}{n:Nat}:(a::l).set (n+1) b=a::l.set n b:=Zcx
theorem Ksz {α:Type _}{a b:α}{l:List α}:(a::l).set 0 b=b::l:=Zbi
theorem Ktz {α:Type _}{a:α}{l m:List α}:(a::l)++m=a::(l++m):=ZV
theorem Kuz {α:Type _}(l:List α):[]++l=l:=Zac l
theorem Kvz {α:Type _}(l:List α):l++[]=l:=Zak l
end LW
namespace LW
open PySem L2 L3 L4
noncomputable def top (i:Nat):ZcY:=PySem.Challenge.pw_dutyproof_k37_no_thing_held_by_two.main.body.getD i (.Pass ⟨0,0,0,0⟩)
def Jcu:D4:=⟨top 8,"is_whole",["thing"],["thing"],[]⟩
def Jaf:D4:=⟨top 9,"is_whole_from",["thing","least"],["thing","least"],[]⟩
def Jby:D4:=⟨top 10,"rounds_up",["top","bottom"],["top","bottom"],[]⟩
def Jj3:D4:=⟨top 17,"ready",["coming"],["coming"],[]⟩
def Jbr:D4:=⟨top 18,"is_coming",["duty","thing"],["duty","thing","work"],[]⟩
def Jat:D4:=⟨top 19,"first_wrong",["duty","row"],["duty","row","last_come","place","coming","at"],[]⟩
def Jek:D4:=⟨top 20,"checked",["duty","row"],["duty","row","wrong"],[]⟩
def Jem:D4:=⟨top 27,"is_name",["thing"],["thing"],[]⟩
def Jel:D4:=⟨top 28,"is_hold",["hold","length"],["hold","length"],[]⟩
def Jbu:D4:=⟨top 29,"lie_apart",["one","other"],["one","other"],[]⟩
def Jeo:D4:=⟨top 30,"lies_in",["one","other"],["one","other"],[]⟩
def Jau:D4:=⟨top 31,"go_together",["one","other"],["one","other"],[]⟩
def Jac:D4:=⟨top 32,"all_go_together",["holds"],["holds","place","hold"],[]⟩
def Jbw:D4:=⟨top 33,"own_holds",["holds","length"],["holds","length"],[]⟩
def Jep:D4:=⟨top 34,"own_due",["due","gap"],["due","gap"],[]⟩
def Qk:D4:=⟨JQ (top 35) 0,"Work.__init__",["self","name","gap","length","due","late","holds"],["self","name","gap","length","due","late","holds"],[.non,.int 0,.non]⟩
def Jbq:D4:=⟨JQ (top 35) 1,"Work.held",["self"],["self"],[]⟩
def Jbv:D4:=⟨top 39,"next_stop",["work","done","length"],["work","done","length"],[]⟩
def Ja5:D4:=⟨JQ (top 40) 0,"Bench.__init__",["self","order","row"],["self","order","row"],[]⟩
def Jaa:D4:=⟨JQ (top 40) 1,"Bench.next_ready",["self"],["self"],[]⟩
def Jai:D4:=⟨JQ (top 40) 2,"Bench.let_in",["self"],["self"],[]⟩
def Jab:D4:=⟨JQ (top 40) 3,"Bench.turns_for",["self","place"],["self","place","coming","done","turns"],[]⟩
def Ja6:D4:=⟨JQ (top 40) 4,"Bench.tell",["self","place","until"],["self","place","until","begin"],[]⟩
def Jar:D4:=⟨JQ (top 40) 5,"Bench.go_on",["self"],["self","place","turns"],[]⟩
def Jt7:D4:=⟨top 41,"run",["order","row"],["order","row","bench"],[]⟩
def Jbx:D4:=⟨top 45,"own_works",["works"],["works"],[]⟩
def Jct:D4:=⟨top 46,"crowd_of",["works"],["works","greatest"],[]⟩
def Jbm:D4:=⟨JQ (top 47) 0,"Duty.__init__",["self","works"],["self","works"],[]⟩
def Jbn:D4:=⟨JQ (top 47) 1,"Duty.size",["self"],["self"],[]⟩
def Jbo:D4:=⟨JQ (top 47) 2,"Duty.work",["self","at"],["self","at"],[]⟩
def Jcl:D4:=⟨JQ (top 47) 4,"Duty.crowd",["self"],["self"],[]⟩
def Jcs:D4:=⟨top 49,"ceilings",["duty"],["duty","found","at","hold"],[]⟩
def Jax:D4:=⟨top 50,"things_held",["work","done"],["work","done"],[]⟩
def Jf0:D4:=⟨top 51,"lifted",["at","things","tops"],["at","things","tops"],[]⟩
def Ja7:D4:=⟨JQ (top 53) 0,"Order.__init__",["self","duty"],["self","duty"],[]⟩
def Ja1:D4:=⟨JQ (top 53) 1,"Order.rank_of",["self","coming","done"],["self","coming","done"],[]⟩
def Jbp:D4:=⟨JQ (top 53) 2,"Order.holds",["self","coming","done"],["self","coming","done"],[]⟩
def Xr:D4:=⟨JQ (top 53) 3,"Order.pick",["self","row","waiting","dones"],["self","row","waiting","dones"],[]⟩
def Xs:D4:=⟨JQ (top 53) 4,"Order.standing",["self","coming","done"],["self","coming","done"],[]⟩
def Jas:D4:=⟨JQ (top 54) 0,"ByRank.__init__",["self","duty"],["self","duty"],[]⟩
def Jad:D4:=⟨JQ (top 54) 1,"ByRank.rank_of",["self","coming","done"],["self","coming","done"],[]⟩
def Jaj:D4:=⟨JQ (top 54) 2,"ByRank.holds",["self","coming","done"],["self","coming","done"],[]⟩
def Jav:D4:=⟨top 56,"_law_cell_at",["_law_script","_law_k"],["_law_script","_law_k"],[]⟩
def Ja8:D4:=⟨top 57,"_law_stream",["_law_cell","_law_many"],["_law_cell","_law_many","_law_found","_law_rest","_law_k","_law_number"],[]⟩
def Jcx:D4:=⟨top 58,"_law_word",["_law_cell","_law_k"],["_law_cell","_law_k","_law_letters","_law_size","_law_word_here","_law_at"],[]⟩
def Jbs:D4:=⟨top 59,"_law_holds",["_law_xs","_law_length","_law_words"],["_law_xs","_law_length","_law_words","_law_p","_law_one","_law_turn","_law_other","_law_third","_law_some_here"],[]⟩
def Jbt:D4:=⟨top 60,"_law_plain",["_law_cell","_law_unit","_law_words"],["_law_cell","_law_unit","_law_words","_law_xs","_law_gap","_law_due","_law_late","_law_length","_law_holds_here"],[]⟩
def Jcw:D4:=⟨top 61,"_law_some",["_law_script","_law_held_here"],["_law_script","_law_held_here","_law_first","_law_unit","_law_second","_law_words","_law_some_here","_law_k","_law_plain_here"],[]⟩
def Jen:D4:=⟨top 62,"_law_row",["_law_cells","_law_some_here"],["_law_cells","_law_some_here","_law_row_here","_law_last","_law_base","_law_cell","_law_xs","_law_at","_law_name","_law_gap","_law_length","_law_due","_law_late","_law_holds_here","_law_wait","_law_come"],[]⟩
def Jaw:D4:=⟨top 63,"_law_turn_of",["_law_parts","_law_turns"],["_law_parts","_law_turns","_law_begin","_law_until"],[]⟩
def Jcv:D4:=⟨top 64,"_law_held",["_law_holds_here","_law_coming","_law_parts"],["_law_holds_here","_law_coming","_law_parts","_law_found","_law_thing","_law_start","_law_end","_law_last"],[]⟩
def QL:D4:=⟨top 65,"law",["_law_script"],["_law_script","_law_some_here","_law_works","_law_row_here","_law_parts","_law_place","_law_begin","_law_until","_law_taken","_law_k","_law_held_here","_law_thing","_law_other","_law_low","_law_high"],[]⟩
def T:Tab where
 fns:=[(("is_whole":Str),Jcu),(("is_whole_from":Str),Jaf),(("rounds_up":Str),Jby),(("ready":Str),Jj3),(("is_coming":Str),Jbr),(("first_wrong":Str),Jat),(("checked":Str),Jek),(("is_name":Str),Jem),(("is_hold":Str),Jel),(("lie_apart":Str),Jbu),(("lies_in":Str),Jeo),(("go_together":Str),Jau),(("all_go_together":Str),Jac),(("own_holds":Str),Jbw),(("own_due":Str),Jep),(("next_stop":Str),Jbv),(("run":Str),Jt7),(("own_works":Str),Jbx),(("crowd_of":Str),Jct),(("ceilings":Str),Jcs),(("things_held":Str),Jax),(("lifted":Str),Jf0),(("_law_cell_at":Str),Jav),(("_law_stream":Str),Ja8),(("_law_word":Str),Jcx),(("_law_holds":Str),Jbs),(("_law_plain":Str),Jbt),(("_law_some":Str),Jcw),(("_law_row":Str),Jen),(("_law_turn_of":Str),Jaw),(("_law_held":Str),Jcv),(("law":Str),QL)]
 clss:=[("Work",Qk),("Bench",Ja5),("Duty",Jbm),("Order",Ja7),("ByRank",Jas)]
 meths:=[("Work",([("held",Jbq)]:List (Str×D4))),("Bench",([("next_ready",Jaa),("let_in",Jai),("turns_for",Jab),("tell",Ja6),("go_on",Jar)]:List (Str×D4))),("Duty",([("size",Jbn),("work",Jbo),("crowd",Jcl)]:List (Str×D4))),("Order",([("rank_of",Ja1),("holds",Jbp),("pick",Xr),("standing",Xs)]:List (Str×D4))),("ByRank",([("rank_of",Jad),("holds",Jaj),("pick",Xr),("standing",Xs)]:List (Str×D4)))]
 cons:=[("MOST_COMINGS",.int 200),("AT",.int 0),("COME",.int 1),("LATE",.int 2),("LENGTH",.int 3),("MOST_LETTERS",.int 8),("MOST_HOLDS",.int 6),("THING",.int 0),("START",.int 1),("END",.int 2),("PLACE",.int 0),("FROM",.int 1),("MOST_WORKS",.int 12),("MOST_CROWD",.int 80)]
 isas:=[("Work",["Work"])]
 flds:=["append","dones","due","duty","gap","hold_tuples","join","late","later","length","name","order","place","pop","remove","row","setdefault","stretches","tops","turn","waiting","works"]
 frees:=["all","bool","enumerate","int","isinstance","len","list","max","min","range","set","sorted","str","sum","tuple"]
 tabs:=["Order.pick","Bench.__init__"]
 bass:=["Order"]
abbrev pg (k:Nat):Pg:=mkPg T (run T k)
section
variable (k:Nat)(x0 x1 x2 x3 x4 x5 x6:IV)(h:IH)
abbrev Jco:=run T k Jcu
abbrev Vq:=run T k Jaf
abbrev Jdh:=run T k Jby
abbrev Ji3:=run T k Jj3
abbrev Jdb:=run T k Jbr
abbrev Jbi:=run T k Jat
abbrev Jgd:=run T k Jek
abbrev Jdq:=run T k Jem
abbrev Jge:=run T k Jel
abbrev Jde:=run T k Jbu
abbrev Jdr:=run T k Jeo
abbrev Jbj:=run T k Jau
abbrev Jah:=run T k Jac
abbrev XU:=run T k Jbw
abbrev XT:=run T k Jep
abbrev Jbh:=run T k Qk
abbrev Jda:=run T k Jbq
abbrev Jdf:=run T k Jbv
abbrev Jb3:=run T k Ja5
abbrev Jae:=run T k Jaa
abbrev Ja9:=run T k Jai
abbrev Jag:=run T k Jab
abbrev Jb4:=run T k Ja6
abbrev Jbg:=run T k Jar
abbrev Jxq:=run T k Jt7
abbrev Jdg:=run T k Jbx
abbrev Je0:=run T k Jct
abbrev Xn:=run T k Jbm
abbrev Jc8:=run T k Jbn
abbrev Jc9:=run T k Jbo
abbrev Jez:=run T k Jcs
abbrev Jaq:=run T k Jax
abbrev Ji2:=run T k Jf0
abbrev Jb5:=run T k Ja7
abbrev Ja2:=run T k Xr
abbrev Jam:=run T k Xs
abbrev Jao:=run T k Jas
abbrev Jal:=run T k Jad
abbrev Jba:=run T k Jaj
abbrev XS:=run T k Jav
abbrev Ja3:=run T k Ja8
abbrev Jcp:=run T k Jcx
abbrev Jdc:=run T k Jbs
abbrev Jdd:=run T k Jbt
abbrev Je2:=run T k Jcw
abbrev Jgf:=run T k Jen
abbrev Jap:=run T k Jaw
abbrev Je1:=run T k Jcv
abbrev Xo:=run T k QL
def Jk8 (k:Nat):S1:=(Jk (eAnd (eIsi V7 (Ja 0)) (eUn (X5 tru) (eIsi V6 (Ja 0))) tru))
theorem Jnt:Jco (k+1) [x0] h=(Jk8 k [some x0] h).fin:=by kernel_rfl
def Jbc:S1:=(Jk (eAnd (Jm (Jco k) [] (Jb (Ja 0) Jd)) (Jc cGe (Ja 0) (Ja 1)) tru))
theorem Jft:Vq (k+1) [x0,x1] h=(Jbc k [some x0,some x1] h).fin:=by kernel_rfl
def Jeh (k:Nat):S1:=(Jk (Jc JO (Jc Qa (Jc Jl (Ja 0) (Ja 1)) (eC (.int 1))) (Ja 1)))
theorem Jme:Jdh (k+1) [x0,x1] h=(Jeh k [some x0,some x1] h).fin:=by kernel_rfl
def Jre (k:Nat):S1:=(Jk (Jc Jl (Jc Je (Ja 0) (eC (.int 1))) (Jc Je (Ja 0) (eC (.int 2)))))
theorem Jug:Ji3 (k+1) [x0] h=(Jre k [some x0] h).fin:=by kernel_rfl
def Ja0:E1:=(Jm (Jco k) [] (Jb (Ja 0) Jd))
def Jjk (k:Nat):S1:=(Jk (eAnd (JR cLe cLe (eC (.int 0)) (Jc Je (Ja 1) (eC (.int 2))) (Jo "late" (Ja 2))) (JR cLe cLe (eC (.int 1)) (Jc Je (Ja 1) (eC (.int 3))) (Jo "length" (Ja 2))) tru))
def Jjj:S1:=Jf (Jh 2 (Jn (pg k) "work" 1 (Ja 0) (Jb (Jc Je (Ja 1) (eC (.int 0))) Jd))) (Jjk k)
def Jji:S1:=Jf (sIf (tOrI (JC (Jg asB (JR cLe cLt (eC (.int 0)) (Jc Je (Ja 1) (eC (.int 0))) (Jn (pg k) "size" 0 (Ja 0) Jd)))) (Jg asB (Jc cLt (Jc Je (Ja 1) (eC (.int 1))) (eC (.int 0))))) (Jk (eC (.bl false))) Jr) (Jjj k)
def Jjh:S1:=Jf (sIf (JC (Jg tru (eCB (on1 allI) (Jb (Jy (Ju (Ja 1)) 1 [] (gNm 0) J4 (Ja0 k)) Jd)))) (Jk (eC (.bl false))) Jr) (Jji k)
def Jjg:S1:=Jf (sIf (tOrI (JC (Jg tru (eIsi Vw (Ja 1)))) (Jg asB (Jc cNe (eCB (on1 lenI) (Jb (Ja 1) Jd)) (eC (.int 4))))) (Jk (eC (.bl false))) Jr) (Jjh k)
theorem Jl7:Jdb (k+1) [x0,x1] h=(Jjg k [some x0,some x1,none] h).fin:=by kernel_rfl
def Jfu:S1:=(Jf (sIf (JC (Jg tru (Jm (Jdb k) [] (Jb (Ja 0) (Jb (Ja 4) Jd))))) (Jk (Ja 3)) Jr) (Jf (Jh 5 (Jc Je (Ja 4) (eC (.int 0)))) (Jf (sIf (Qq (Jg asB (Jc cInD (Ja 5) (Ja 2))) (Jg asB (Jc cLt (Jc Qa (Jc Je (Ja 4) (eC (.int 1))) (Jc QO (Ja 2) (Ja 5))) (Jo "gap" (Jn (pg k) "work" 1 (Ja 0) (Jb (Ja 5) Jd)))))) (Jk (Ja 3)) Jr) (sAsg (Jc Je (Ja 4) (eC (.int 1))) (gSbD (Ja 2) (Ja 5))))))
def Jgq (k:Nat):S1:=(Jk (eC .non))
def Jgp:S1:=Jf (sFor (iRg QM (Jb (Ja 1) Jd)) (gTp 2 (gC (gNm 3) (gC (gNm 4) gN))) (Jfu k)) (Jgq k)
def Jgo:S1:=Jf (Jh 2 Xt) (Jgp k)
theorem Jie:Jbi (k+1) [x0,x1] h=(Jgo k [some x0,some x1,none,none,none,none] h).fin:=by kernel_rfl
def Jnf (k:Nat):S1:=(sIf (Jg asB (Jc Jom (Ja 2) (eC .non))) stS Jr)
def Jne:S1:=Jf (Jh 2 (Jm (Jbi k) [] (Jb (Ja 0) (Jb (Ja 1) Jd)))) (Jnf k)
def Jnd:S1:=Jf (sIf (Jg asB (Jc cGt (eCB (on1 lenI) (Jb (Ja 1) Jd)) (eC (.int 200)))) stS Jr) (Jne k)
theorem Jp8:Jgd (k+1) [x0,x1] h=(Jnd k [some x0,some x1,none] h).fin:=by kernel_rfl
def Jbk (k:Nat):E1:=(JR cLe cLe (eC (.str "a")) (Ja 0) (eC (.str "z")))
def Jgv:S1:=(Jk (eCB (on1 allI) (Jb (Jy (Ju (Ja 0)) 1 [] (gNm 0) J4 (Jbk k)) Jd)))
def Jgu:S1:=Jf (sIf (tOrI (JC (Jg tru (eIsi V9 (Ja 0)))) (JC (Jg asB (JR cLe cLe (eC (.int 1)) (eCB (on1 lenI) (Jb (Ja 0) Jd)) (eC (.int 8)))))) (Jk (eC (.bl false))) Jr) (Jgv k)
theorem Jqa:Jdq (k+1) [x0] h=(Jgu k [some x0] h).fin:=by kernel_rfl
def Jgt:S1:=(Jk (eAnd (Jm (Vq k) [] (Jb (Jc Je (Ja 0) (eC (.int 2))) (Jb (Jc Jl (Jc Je (Ja 0) (eC (.int 1))) (eC (.int 1))) Jd))) (Jc cLt (Jc Je (Ja 0) (eC (.int 2))) (Ja 1)) tru))
def Jgs:S1:=Jf (sIf (JC (Jg tru (Jm (Vq k) [] (Jb (Jc Je (Ja 0) (eC (.int 1))) (Jb (eC (.int 0)) Jd))))) (Jk (eC (.bl false))) Jr) (Jgt k)
def Jgr:S1:=Jf (sIf (tOrI (JC (Jg tru (eIsi Vw (Ja 0)))) (tOrI (Jg asB (Jc cNe (eCB (on1 lenI) (Jb (Ja 0) Jd)) (eC (.int 3)))) (JC (Jg tru (Jm (Jdq k) [] (Jb (Jc Je (Ja 0) (eC (.int 0))) Jd)))))) (Jk (eC (.bl false))) Jr) (Jgs k)
theorem Jp9:Jge (k+1) [x0,x1] h=(Jgr k [some x0,some x1] h).fin:=by kernel_rfl
def Jd6 (k:Nat):S1:=(Jk (eOr (Jc cLe (Jc Je (Ja 0) (eC (.int 2))) (Jc Je (Ja 1) (eC (.int 1)))) (Jc cLe (Jc Je (Ja 1) (eC (.int 2))) (Jc Je (Ja 0) (eC (.int 1)))) tru))
theorem Jma:Jde (k+1) [x0,x1] h=(Jd6 k [some x0,some x1] h).fin:=by kernel_rfl
def Jgy (k:Nat):S1:=(Jk (eAnd (Jc cLe (Jc Je (Ja 1) (eC (.int 1))) (Jc Je (Ja 0) (eC (.int 1)))) (Jc cLe (Jc Je (Ja 0) (eC (.int 2))) (Jc Je (Ja 1) (eC (.int 2)))) tru))
theorem Jqc:Jdr (k+1) [x0,x1] h=(Jgy k [some x0,some x1] h).fin:=by kernel_rfl
def Jca:S1:=(Jk (eOr (Jm (Jdr k) [] (Jb (Ja 0) (Jb (Ja 1) Jd))) (Jm (Jdr k) [] (Jb (Ja 1) (Jb (Ja 0) Jd))) tru))
def Jb9:S1:=Jf (sIf (Jg asB (Jc cEq (Jc Je (Ja 0) (eC (.int 0))) (Jc Je (Ja 1) (eC (.int 0))))) (Jk (eC (.bl false))) Jr) (Jca k)
def Jb8:S1:=Jf (sIf (Jg tru (Jm (Jde k) [] (Jb (Ja 0) (Jb (Ja 1) Jd)))) (Jk (eC (.bl true))) Jr) (Jb9 k)
theorem Jif:Jbj (k+1) [x0,x1] h=(Jb8 k [some x0,some x1] h).fin:=by kernel_rfl
def Jak:E1:=(Jm (Jbj k) [] (Jb (Ja 1) (Jb (Ja 0) Jd)))
def Jan:S1:=(sIf (JC (Jg tru (eCB (on1 allI) (Jb (Jy (Ju (eSl slI (Ja 0) V3 (QD (Ja 1)))) 1 [2] (gNm 0) J4 (Jak k)) Jd)))) (Jk (eC (.bl false))) Jr)
def Jaz (k:Nat):S1:=(Jk (eC (.bl true)))
def Jay:S1:=Jf (sFor (iRg QM (Jb (Ja 0) Jd)) (gTp 2 (gC (gNm 1) (gC (gNm 2) gN))) (Jan k)) (Jaz k)
theorem Jet:Jah (k+1) [x0] h=(Jay k [some x0,none,none] h).fin:=by kernel_rfl
def Jcg:E1:=(Jm (Jge k) [] (Jb (Ja 0) (Jb (Ja 1) Jd)))
def Jch (k:Nat):E1:=(J8 (Jb (Jc Je (Ja 0) (eC (.int 0))) (Jb (Jc Je (Ja 0) (eC (.int 1))) (Jb (Jc Je (Ja 0) (eC (.int 2))) Jd))))
def Jec:S1:=(Jk (eCB (on1 Xg) (Jb (Jy (Ju (Ja 0)) 1 [] (gNm 0) J4 (Jch k)) Jd)))
def Jeb:S1:=Jf (sIf (JC (Jg tru (Jm (Jah k) [] (Jb (Ja 0) Jd)))) stS Jr) (Jec k)
def Jea:S1:=Jf (sIf (JC (Jg tru (eCB (on1 allI) (Jb (Jy (Ju (Ja 0)) 1 [1] (gNm 0) J4 (Jcg k)) Jd)))) stS Jr) (Jeb k)
def Jd9:S1:=Jf (sIf (Jg asB (Jc cGt (eCB (on1 lenI) (Jb (Ja 0) Jd)) (eC (.int 6)))) stS Jr) (Jea k)
def Jd8:S1:=Jf (sIf (JC (Jg tru (eIsi QZ (Ja 0)))) stS Jr) (Jd9 k)
def Jd7:S1:=Jf (sIf (Jg asB (Jc cIs (Ja 0) (eC .non))) (Jk (J8 Jd)) Jr) (Jd8 k)
theorem Jmc:XU (k+1) [x0,x1] h=(Jd7 k [some x0,some x1] h).fin:=by kernel_rfl
def Jg1 (k:Nat):S1:=(Jk (Ja 0))
def Jg0:S1:=Jf (sIf (tOrI (JC (Jg tru (Jm (Vq k) [] (Jb (Ja 0) (Jb (eC (.int 1)) Jd))))) (Jg asB (Jc cGt (Ja 0) (Ja 1)))) stS Jr) (Jg1 k)
def Jgz:S1:=Jf (sIf (Jg asB (Jc cIs (Ja 0) (eC .non))) (Jk (Ja 1)) Jr) (Jg0 k)
theorem Jqd:XT (k+1) [x0,x1] h=(Jgz k [some x0,some x1] h).fin:=by kernel_rfl
def Jd1:S1:=(JK "hold_tuples" (Ja 0) (Jm (XU k) [] (Jb (Ja 6) (Jb (Ja 3) Jd))))
def Jjf:S1:=Jf (JK "late" (Ja 0) (Ja 5)) (Jd1 k)
def Jje:S1:=Jf (JK "due" (Ja 0) (Jm (XT k) [] (Jb (Ja 4) (Jb (Ja 2) Jd)))) (Jjf k)
def Jjd:S1:=Jf (JK "length" (Ja 0) (Ja 3)) (Jje k)
def Jjc:S1:=Jf (JK "gap" (Ja 0) (Ja 2)) (Jjd k)
def Jjb:S1:=Jf (JK "name" (Ja 0) (Ja 1)) (Jjc k)
def Jja:S1:=Jf (sIf (JC (Jg tru (Jm (Vq k) [] (Jb (Ja 5) (Jb (eC (.int 0)) Jd))))) stS Jr) (Jjb k)
def Ji9:S1:=Jf (sIf (JC (Jg tru (Jm (Vq k) [] (Jb (Ja 3) (Jb (eC (.int 1)) Jd))))) stS Jr) (Jja k)
def Ji8:S1:=Jf (sIf (JC (Jg tru (Jm (Vq k) [] (Jb (Ja 2) (Jb (eC (.int 1)) Jd))))) stS Jr) (Ji9 k)
def Ji7:S1:=Jf (sIf (JC (Jg tru (Jm (Jdq k) [] (Jb (Ja 1) Jd)))) stS Jr) (Ji8 k)
theorem Jl6:Jbh (k+1) [x0,x1,x2,x3,x4,x5,x6] h=(Ji7 k [some x0,some x1,some x2,some x3,some x4,some x5,some x6] h).fin:=by kernel_rfl
def Jd0 (k:Nat):S1:=(Jk (eCB (on1 Vg) (Jb (Jo "hold_tuples" (Ja 0)) Jd)))
theorem Jl5:Jda (k+1) [x0] h=(Jd0 k [some x0] h).fin:=by kernel_rfl
def Jg4 (k:Nat):E1:=(Jc Je (Ja 0) (eC (.int 2)))
def Jg5 (k:Nat):T1:=(Jg asB (Jc cGt (Jc Je (Ja 0) (eC (.int 2))) (Ja 1)))
def Jjy:S1:=(Jk (eCB (on1 VY) (Jb (Jc Jl (Js (Jb (Ja 2) Jd)) (Jy (Ju (Jn (pg k) "held" 0 (Ja 0) Jd)) 1 [1] (gNm 0) (Jg5 k) (Jg4 k))) Jd)))
theorem Jmb:Jdf (k+1) [x0,x1,x2] h=(Jjy k [some x0,some x1,some x2] h).fin:=by kernel_rfl
def Jfs (k:Nat):E1:=(eC (.int 0))
def Xq:E1:=(Jm (Ji3 k) [] (Jb (Jc Je (Ja 1) (Ja 0)) Jd))
def Jc0 (k:Nat):S1:=(JK "stretches" (Ja 0) (Js Jd))
def Jh1:S1:=Jf (JK "turn" (Ja 0) (eC (.int 0))) (Jc0 k)
def Jh0:S1:=Jf (JK "waiting" (Ja 0) (Js Jd)) (Jh1 k)
def Jhz:S1:=Jf (JK "later" (Ja 0) (Yc "Bench.__init__" 1 [2] (Jb (eCB (on1 lenI) (Jb (Ja 2) Jd)) Jd) (Xq k))) (Jh0 k)
def Jhy:S1:=Jf (JK "dones" (Ja 0) (Jy (Ju (Ja 2)) 1 [] (gNm 0) J4 (Jfs k))) (Jhz k)
def Jhx:S1:=Jf (JK "row" (Ja 0) (Ja 2)) (Jhy k)
def Jhw:S1:=Jf (JK "order" (Ja 0) (Ja 1)) (Jhx k)
theorem Jj6:Jb3 (k+1) [x0,x1,x2] h=(Jhw k [some x0,some x1,some x2] h).fin:=by kernel_rfl
def Jcz:S1:=(Jk (Jm (Ji3 k) [] (Jb (Jc Je (Jo "row" (Ja 0)) (Jc Je (Jo "later" (Ja 0)) (eUn Yo (eC (.int 1))))) Jd)))
theorem Jdo:Jae (k+1) [x0] h=(Jcz k [some x0] h).fin:=by kernel_rfl
def Je9:S1:=(JJ (Jn (pg k) "append" 1 (Jo "waiting" (Ja 0)) (Jb (Jn (pg k) "pop" 0 (Jo "later" (Ja 0)) Jd) Jd)))
def Jb1:S1:=(Xb (Qq (Jg asB (Jc cGt (eCB (on1 lenI) (Jb (Jo "later" (Ja 0)) Jd)) (eC (.int 0)))) (Jg asB (Jc cLe (Jn (pg k) "next_ready" 0 (Ja 0) Jd) (Jo "turn" (Ja 0))))) (Je9 k))
def Jfq:S1:=Jf (sIf (Jg asB (Jc cEq (eCB (on1 lenI) (Jb (Jo "waiting" (Ja 0)) Jd)) (eC (.int 0)))) (JK "turn" (Ja 0) (eCB (on2 maxI) (Jb (Jo "turn" (Ja 0)) (Jb (Jn (pg k) "next_ready" 0 (Ja 0) Jd) Jd)))) Jr) (Jb1 k)
theorem Jhb:Ja9 (k+1) [x0] h=(Jfq k [some x0] h).fin:=by kernel_rfl
def Jdm (k:Nat):S1:=(Jk (Ja 4))
def Jdl:S1:=Jf (sIf (Jg asB (Jc cGt (eCB (on1 lenI) (Jb (Jo "later" (Ja 0)) Jd)) (eC (.int 0)))) (Jh 4 (eCB (on2 minI) (Jb (Ja 4) (Jb (Jc Qa (Jn (pg k) "next_ready" 0 (Ja 0) Jd) (Jo "turn" (Ja 0))) Jd)))) Jr) (Jdm k)
def Jdk:S1:=Jf (Jh 4 (Jc Qa (Jm (Jdf k) [] (Jb (Jn (pg k) "work" 1 (Jo "duty" (Jo "order" (Ja 0))) (Jb (Jc Je (Ja 2) (eC (.int 0))) Jd)) (Jb (Ja 3) (Jb (Jc Je (Ja 2) (eC (.int 3))) Jd)))) (Ja 3))) (Jdl k)
def Jdj:S1:=Jf (Jh 3 (Jc Je (Jo "dones" (Ja 0)) (Ja 1))) (Jdk k)
def Jdi:S1:=Jf (Jh 2 (Jc Je (Jo "row" (Ja 0)) (Ja 1))) (Jdj k)
theorem Jes:Jag (k+1) [x0,x1] h=(Jdi k [some x0,some x1,none,none,none] h).fin:=by kernel_rfl
def Jc1:S1:=(JJ (Jn (pg k) "append" 1 (Jo "stretches" (Ja 0)) (Jb (J8 (Jb (Ja 1) (Jb (Ja 3) (Jb (Ja 2) Jd)))) Jd)))
def Jh3:S1:=Jf (sIf (Qq (Jg asB (Jc cGt (eCB (on1 lenI) (Jb (Jo "stretches" (Ja 0)) Jd)) (eC (.int 0)))) (Jg asB (Jc cEq (Jc Je (Jc Je (Jo "stretches" (Ja 0)) (eUn Yo (eC (.int 1)))) (eC (.int 0))) (Ja 1)))) (Jh 3 (Jc Je (Jn (pg k) "pop" 0 (Jo "stretches" (Ja 0)) Jd) (eC (.int 1)))) Jr) (Jc1 k)
def Jh2:S1:=Jf (Jh 3 (Jo "turn" (Ja 0))) (Jh3 k)
theorem Jj7:Jb4 (k+1) [x0,x1,x2] h=(Jh2 k [some x0,some x1,some x2,none] h).fin:=by kernel_rfl
def Jgn:S1:=(sIf (Jg asB (Jc cEq (Jc Je (Jo "dones" (Ja 0)) (Ja 1)) (Jc Je (Jc Je (Jo "row" (Ja 0)) (Ja 1)) (eC (.int 3))))) (JJ (Jn (pg k) "remove" 1 (Jo "waiting" (Ja 0)) (Jb (Ja 1) Jd))) Jr)
def Jgm:S1:=Jf (XE .Add (Jo "dones" (Ja 0)) (Ja 1) (Ja 2)) (Jgn k)
def Jgl:S1:=Jf (XD .Add "turn" (Ja 0) (Ja 2)) (Jgm k)
def Jgk:S1:=Jf (JJ (Jn (pg k) "tell" 2 (Ja 0) (Jb (Ja 1) (Jb (Jc Jl (Jo "turn" (Ja 0)) (Ja 2)) Jd)))) (Jgl k)
def Jgj:S1:=Jf (Jh 2 (Jn (pg k) "turns_for" 1 (Ja 0) (Jb (Ja 1) Jd))) (Jgk k)
def Jgi:S1:=Jf (Jh 1 (Jn (pg k) "pick" 3 (Jo "order" (Ja 0)) (Jb (Jo "row" (Ja 0)) (Jb (Jo "waiting" (Ja 0)) (Jb (Jo "dones" (Ja 0)) Jd))))) (Jgj k)
def Jgh:S1:=Jf (JJ (Jn (pg k) "let_in" 0 (Ja 0) Jd)) (Jgi k)
theorem Jic:Jbg (k+1) [x0] h=(Jgh k [some x0,none,none] h).fin:=by kernel_rfl
def Juy:S1:=(JJ (Jn (pg k) "go_on" 0 (Ja 2) Jd))
def Jyb (k:Nat):S1:=(Jk (Jo "stretches" (Ja 2)))
def Jya:S1:=Jf (Xb (Jg asB (Jc cGt (Jc Jl (eCB (on1 lenI) (Jb (Jo "later" (Ja 2)) Jd)) (eCB (on1 lenI) (Jb (Jo "waiting" (Ja 2)) Jd))) (eC (.int 0)))) (Juy k)) (Jyb k)
def Jx9:S1:=Jf (Jh 2 (Qw "Bench" (Jb3 k) [] (Jb (Ja 0) (Jb (Ja 1) Jd)))) (Jya k)
def Jx8:S1:=Jf (JJ (Jm (Jgd k) [] (Jb (Jo "duty" (Ja 0)) (Jb (Ja 1) Jd)))) (Jx9 k)
theorem J03:Jxq (k+1) [x0,x1] h=(Jx8 k [some x0,some x1,none] h).fin:=by kernel_rfl
def Jci (k:Nat):E1:=(eIsi (Jwn ["Work"]) (Ja 0))
def Jcj (k:Nat):E1:=(Jo "name" (Ja 0))
def Jeg (k:Nat):S1:=(Jk (eCB (on1 Xg) (Jb (Ja 0) Jd)))
def Jef:S1:=Jf (sIf (Jg asB (Jc cNe (Ya (Jb (Jy (Ju (Ja 0)) 1 [] (gNm 0) J4 (Jcj k)) Jd)) (eCB (on1 lenI) (Jb (Ja 0) Jd)))) stS Jr) (Jeg k)
def Jee:S1:=Jf (sIf (JC (Jg tru (eCB (on1 allI) (Jb (Jy (Ju (Ja 0)) 1 [] (gNm 0) J4 (Jci k)) Jd)))) stS Jr) (Jef k)
def Jed:S1:=Jf (sIf (JC (Jg tru (eIsi QZ (Ja 0)))) stS Jr) (Jee k)
theorem Jmd:Jdg (k+1) [x0] h=(Jed k [some x0] h).fin:=by kernel_rfl
def Jc4 (k:Nat):E1:=(Jo "due" (Ja 0))
def Jc5:E1:=(Jm (Jdh k) [] (Jb (Jc Jl (Ja 1) (Jo "late" (Ja 0))) (Jb (Jo "gap" (Ja 0)) Jd)))
def Jfi:S1:=(Jk (eCB (on1 sumI) (Jb (Jy (Ju (Ja 0)) 1 [1] (gNm 0) J4 (Jc5 k)) Jd)))
def Jfh:S1:=Jf (Jh 1 (Yb (Jb (Jy (Ju (Ja 0)) 1 [] (gNm 0) J4 (Jc4 k)) Jd) (eC (.int 0)))) (Jfi k)
theorem Jns:Je0 (k+1) [x0] h=(Jfh k [some x0,none] h).fin:=by kernel_rfl
def Jdx:S1:=(sIf (Jg asB (Jc cGt (Jm (Je0 k) [] (Jb (Jo "works" (Ja 0)) Jd)) (eC (.int 80)))) stS Jr)
def Jdw:S1:=Jf (sIf (Jg asB (Jc cGt (eCB (on1 lenI) (Jb (Jo "works" (Ja 0)) Jd)) (eC (.int 12)))) stS Jr) (Jdx k)
def Jdv:S1:=Jf (JK "works" (Ja 0) (Jm (Jdg k) [] (Jb (Ja 1) Jd))) (Jdw k)
theorem Jl2:Xn (k+1) [x0,x1] h=(Jdv k [some x0,some x1] h).fin:=by kernel_rfl
def Jdy (k:Nat):S1:=(Jk (eCB (on1 lenI) (Jb (Jo "works" (Ja 0)) Jd)))
theorem Jl3:Jc8 (k+1) [x0] h=(Jdy k [some x0] h).fin:=by kernel_rfl
def Jdz (k:Nat):S1:=(Jk (Jc Je (Jo "works" (Ja 0)) (Ja 1)))
theorem Jl4:Jc9 (k+1) [x0,x1] h=(Jdz k [some x0,some x1] h).fin:=by kernel_rfl
def Jeu:S1:=(JJ (Jn (pg k) "setdefault" 2 (Ja 1) (Jb (Jc Je (Ja 3) (eC (.int 0))) (Jb (Ja 2) Jd))))
def Jev:S1:=(sFor (Ju (Jn (pg k) "held" 0 (Jn (pg k) "work" 1 (Ja 0) (Jb (Ja 2) Jd)) Jd)) (gNm 3) (Jeu k))
def Jfg (k:Nat):S1:=(Jk (Ja 1))
def Jff:S1:=Jf (sFor (iRg Qn (Jb (Jn (pg k) "size" 0 (Ja 0) Jd) Jd)) (gNm 2) (Jev k)) (Jfg k)
def Jfe:S1:=Jf (Jh 1 Xt) (Jff k)
theorem Jnr:Jez (k+1) [x0] h=(Jfe k [some x0,none,none,none] h).fin:=by kernel_rfl
def Jbd (k:Nat):E1:=(Jc Je (Ja 0) (eC (.int 0)))
def Jbe (k:Nat):T1:=(Jg asB (JR cLt cLt (Jc Je (Ja 0) (eC (.int 1))) (Ja 1) (Jc Je (Ja 0) (eC (.int 2)))))
def Jcd:S1:=(Jk (Jy (Ju (Jn (pg k) "held" 0 (Ja 0) Jd)) 1 [1] (gNm 0) (Jbe k) (Jbd k)))
theorem Jii:Jaq (k+1) [x0,x1] h=(Jcd k [some x0,some x1] h).fin:=by kernel_rfl
def Jfk (k:Nat):E1:=(Jc QO (Ja 1) (Ja 0))
def Jiu:S1:=(Jk (eCB (on1 VY) (Jb (Jc Jl (Js (Jb (Ja 0) Jd)) (Jy (Ju (Ja 1)) 1 [2] (gNm 0) J4 (Jfk k))) Jd)))
theorem Jr2:Ji2 (k+1) [x0,x1,x2] h=(Jiu k [some x0,some x1,some x2] h).fin:=by kernel_rfl
def Jc2 (k:Nat):S1:=(JK "duty" (Ja 0) (Ja 1))
theorem Jj8:Jb5 (k+1) [x0,x1] h=(Jc2 k [some x0,some x1] h).fin:=by kernel_rfl
def Jb2:E1:=(Jc Jl (Jn (pg k) "standing" 2 (Ja 3) (Jb (Jc Je (Ja 2) (Ja 0)) (Jb (Jc Je (Ja 1) (Ja 0)) Jd))) (J8 (Jb (Ja 0) Jd)))
def Jc3:S1:=(Jk (Xu ltT "Order.pick" 0 [3,1,0] (Jb (Ja 2) Jd) (Jb2 k)))
theorem Jj9:Ja2 (k+1) [x0,x1,x2,x3] h=(Jc3 k [some x0,some x1,some x2,some x3] h).fin:=by kernel_rfl
def Ja4:S1:=(Jk (J8 (Jb (Jn (pg k) "rank_of" 2 (Ja 0) (Jb (Ja 1) (Jb (Ja 2) Jd))) (Jb (eIf (Jg tru (Jn (pg k) "holds" 2 (Ja 0) (Jb (Ja 1) (Jb (Ja 2) Jd)))) (eC (.int 0)) (eC (.int 1))) Jd))))
theorem Je7:Jam (k+1) [x0,x1,x2] h=(Ja4 k [some x0,some x1,some x2] h).fin:=by kernel_rfl
def Jb7:S1:=(JK "tops" (Ja 0) (Jm (Jez k) [] (Jb (Ja 1) Jd)))
def Jb6:S1:=Jf (JJ (Jm (Jb5 k) [] (Jb (Ja 0) (Jb (Ja 1) Jd)))) (Jb7 k)
theorem Jid:Jao (k+1) [x0,x1] h=(Jb6 k [some x0,some x1] h).fin:=by kernel_rfl
def Jdu:S1:=(Jk (Jm (Ji2 k) [] (Jb (Jc Je (Ja 1) (eC (.int 0))) (Jb (Jm (Jaq k) [] (Jb (Jn (pg k) "work" 1 (Jo "duty" (Ja 0)) (Jb (Jc Je (Ja 1) (eC (.int 0))) Jd)) (Jb (Ja 2) Jd))) (Jb (Jo "tops" (Ja 0)) Jd)))))
theorem Je6:Jal (k+1) [x0,x1,x2] h=(Jdu k [some x0,some x1,some x2] h).fin:=by kernel_rfl
def Jfr:S1:=(Jk (Jc cGt (eCB (on1 lenI) (Jb (Jm (Jaq k) [] (Jb (Jn (pg k) "work" 1 (Jo "duty" (Ja 0)) (Jb (Jc Je (Ja 1) (eC (.int 0))) Jd)) (Jb (Ja 2) Jd))) Jd)) (eC (.int 0))))
theorem Jhc:Jba (k+1) [x0,x1,x2] h=(Jfr k [some x0,some x1,some x2] h).fin:=by kernel_rfl
def Jcc (k:Nat):S1:=(Jk (eC (.int 0)))
def Jcb:S1:=Jf (sIf (Jg asB (Jc cLt (Ja 1) (eCB (on1 lenI) (Jb (Ja 0) Jd)))) (Jk (Jc Je (Ja 0) (Ja 1))) Jr) (Jcc k)
theorem Jig:XS (k+1) [x0,x1] h=(Jcb k [some x0,some x1] h).fin:=by kernel_rfl
def Jhi:S1:=(Jf (JJ (Jn (pg k) "append" 1 (Ja 2) (Jb (Jc Jw (Ja 3) (Jc JE (eC (.int 10)) (eC (.int 45)))) Jd))) (Jh 3 (Jc JO (Ja 3) (Jc JE (eC (.int 10)) (eC (.int 45))))))
def Jhj:S1:=(Jf (Jh 5 (Jc Jw (Jc Jl (Jc Jl (Jc Qo (Ja 5) (Ja 5)) (Jc Qo (eC (.int 48271)) (Ja 5))) (Ja 4)) (Jc Jl (Jc JE (eC (.int 10)) (eC (.int 18))) (eC (.int 9))))) (JJ (Jn (pg k) "append" 1 (Ja 2) (Jb (Ja 5) Jd))))
def Jh8 (k:Nat):S1:=(Jk (eSl slI (Ja 2) (QD (eC (.int 2))) V3))
def Jh7:S1:=Jf (sFor (iRg Qn (Jb (Jc Jl (Ja 1) (eC (.int 2))) Jd)) (gNm 4) (Jhj k)) (Jh8 k)
def Jh6:S1:=Jf (Jh 5 (Jc Jl (Jc Jw (Ja 0) (Jc Jl (Jc JE (eC (.int 10)) (eC (.int 18))) (eC (.int 9)))) (eC (.int 48271)))) (Jh7 k)
def Jh5:S1:=Jf (sIf (Jg asB (Jc cGe (Ja 0) (Jc JE (eC (.int 10)) (eC (.int 30))))) (Jf (Jh 3 (Jc Qa (Ja 0) (Jc JE (eC (.int 10)) (eC (.int 30))))) (Jf (sFor (iRg Qn (Jb (Ja 1) Jd)) (gNm 4) (Jhi k)) (Jk (Ja 2)))) Jr) (Jh6 k)
def Jh4:S1:=Jf (Jh 2 (Js Jd)) (Jh5 k)
theorem Jka:Ja3 (k+1) [x0,x1] h=(Jh4 k [some x0,some x1,none,none,none,none] h).fin:=by kernel_rfl
def Jc7 (k:Nat):E1:=(Jc Je (Ja 2) (Jc Jw (Jc JO (Ja 1) (Jc Jl (eC (.int 11)) (Jc Qo (Ja 0) (Ja 0)))) (eC (.int 26))))
def Jln (k:Nat):S1:=(Jk (Jc Jl (Jc Jl (eSl slT (Ja 4) V3 (QD (Ja 5))) (Jc Je (Ja 2) (Jc Jw (Jc Jl (Jc JO (Ja 0) (eC (.int 64))) (Ja 1)) (eC (.int 26))))) (eSl slT (Ja 4) (QD (Jc Jl (Ja 5) (eC (.int 1)))) V3)))
def Jlm:S1:=Jf (Jh 5 (Jc Jw (Jc JO (Ja 0) (eC (.int 8))) (Ja 3))) (Jln k)
def Jll:S1:=Jf (Jh 4 (Jn (pg k) "join" 1 (eC (.str "")) (Jb (Jy (iRg Qn (Jb (Ja 3) Jd)) 1 [0,2] (gNm 0) J4 (Jc7 k)) Jd))) (Jlm k)
def Jlk:S1:=Jf (Jh 3 (Jc Jl (eC (.int 1)) (Jc Jw (Ja 0) (eC (.int 8))))) (Jll k)
def Jlj:S1:=Jf (Jh 2 (eC (.str "abcdefghijklmnopqrstuvwxyz"))) (Jlk k)
theorem Jnw:Jcp (k+1) [x0,x1] h=(Jlj k [some x0,some x1,none,none,none,none] h).fin:=by kernel_rfl
def Jce (k:Nat):E1:=(Jc Jw (Ja 0) (Ja 1))
def Jg3 (k:Nat):E1:=(Ja 0)
def Jcf (k:Nat):T1:=(Jg asB (Jc cLt (Jc Je (Ja 0) (eC (.int 1))) (Jc Je (Ja 0) (eC (.int 2)))))
def Jd5:S1:=(Jk (Jy (Ju (Jc Je (Ja 8) (Jc Jw (Jc Je (Ja 0) (eC (.int 8))) (eC (.int 7))))) 1 [] (gNm 0) (Jcf k) (Jg3 k)))
def Jd4:S1:=Jf (JJ (Jn (pg k) "append" 1 (Ja 8) (Jb (Js (Jb (J8 (Jb (Ja 6) (Jb (Jc Je (Ja 3) (eC (.int 1))) (Jb (Jc Je (Ja 3) (eC (.int 4))) Jd)))) (Jb (J8 (Jb (Ja 4) (Jb (Jc Je (Ja 3) (eC (.int 0))) (Jb (Jc Je (Ja 3) (eC (.int 5))) Jd)))) (Jb (J8 (Jb (Ja 7) (Jb (Jc Je (Ja 3) (eC (.int 2))) (Jb (Jc Je (Ja 3) (eC (.int 3))) Jd)))) Jd)))) Jd))) (Jd5 k)
def Jd3:S1:=Jf (Jh 8 (Jc Jl (Ja 8) (Js (Jb (Js (Jb (J8 (Jb (Ja 4) (Jb (Jc Je (Ja 3) (eC (.int 0))) (Jb (Jc Je (Ja 3) (eC (.int 1))) Jd)))) (Jb (J8 (Jb (Ja 6) (Jb (Jc Je (Ja 3) (eC (.int 2))) (Jb (Jc Je (Ja 3) (eC (.int 5))) Jd)))) Jd))) (Jb (Js (Jb (J8 (Jb (Ja 4) (Jb (Jc Je (Ja 3) (eC (.int 2))) (Jb (Jc Je (Ja 3) (eC (.int 4))) Jd)))) (Jb (J8 (Jb (Ja 4) (Jb (Jc Je (Ja 3) (eC (.int 0))) (Jb (Jc Je (Ja 3) (eC (.int 1))) Jd)))) Jd))) Jd))))) (Jd4 k)
def Jd2:S1:=Jf (Jh 8 (Js (Jb (Js Jd) (Jb (Js (Jb (J8 (Jb (Ja 4) (Jb (Jc Je (Ja 3) (eC (.int 0))) (Jb (Jc Je (Ja 3) (eC (.int 5))) Jd)))) Jd)) (Jb (Js (Jb (J8 (Jb (Ja 4) (Jb (Jc Je (Ja 3) (eC (.int 0))) (Jb (Jc Je (Ja 3) (eC (.int 5))) Jd)))) (Jb (J8 (Jb (Ja 6) (Jb (Jc Je (Ja 3) (eC (.int 1))) (Jb (Jc Je (Ja 3) (eC (.int 4))) Jd)))) Jd))) (Jb (Js (Jb (J8 (Jb (Ja 6) (Jb (Jc Je (Ja 3) (eC (.int 1))) (Jb (Jc Je (Ja 3) (eC (.int 2))) Jd)))) (Jb (J8 (Jb (Ja 4) (Jb (Jc Je (Ja 3) (eC (.int 0))) (Jb (Jc Je (Ja 3) (eC (.int 3))) Jd)))) Jd))) Jd)))))) (Jd3 k)
def Jjp:S1:=Jf (Jh 7 (Jc Je (Ja 2) (Jc Jw (Jc Jl (Jc Je (Ja 0) (eC (.int 6))) (Jc Qo (eC (.int 2)) (Ja 5))) (eC (.int 3))))) (Jd2 k)
def Jjo:S1:=Jf (Jh 6 (Jc Je (Ja 2) (Jc Jw (Jc Jl (Jc Je (Ja 0) (eC (.int 6))) (Ja 5)) (eC (.int 3))))) (Jjp k)
def Jjn:S1:=Jf (Jh 5 (Jc Jl (eC (.int 1)) (Jc Jw (Jc Je (Ja 0) (eC (.int 7))) (eC (.int 2))))) (Jjo k)
def Jjm:S1:=Jf (Jh 4 (Jc Je (Ja 2) (Jc Jw (Jc Je (Ja 0) (eC (.int 6))) (eC (.int 3))))) (Jjn k)
def Jjl:S1:=Jf (Jh 3 (eCB (on1 XG) (Jb (Jy (Ju (eSl slI (Ja 0) V3 (QD (eC (.int 6))))) 1 [1] (gNm 0) J4 (Jce k)) Jd))) (Jjm k)
theorem Jl8:Jdc (k+1) [x0,x1,x2] h=(Jjl k [some x0,some x1,some x2,none,none,none,none,none,none] h).fin:=by kernel_rfl
def Jjx (k:Nat):S1:=(Jk (J8 (Jb (Ja 4) (Jb (Ja 7) (Jb (Ja 5) (Jb (Ja 6) (Jb (Ja 8) Jd)))))))
def Jjw:S1:=Jf (sIf (Jg asB (Jc cNe (Ja 2) (Js Jd))) (Jh 8 (Jm (Jdc k) [] (Jb (eSl slI (Ja 3) (QD (eC (.int 8))) V3) (Jb (Ja 7) (Jb (Ja 2) Jd))))) Jr) (Jjx k)
def Jjv:S1:=Jf (Jh 8 (Js Jd)) (Jjw k)
def Jju:S1:=Jf (Jh 7 (Jc Jl (eC (.int 1)) (Jc Jw (Jc Je (Ja 3) (eC (.int 6))) (eCB (on2 maxI) (Jb (eC (.int 1)) (Jb (Jc JO (Ja 4) (Jc Je (Js (Jb (eC (.int 1)) (Jb (eC (.int 2)) (Jb (eC (.int 4)) (Jb (eC (.int 9)) Jd))))) (Jc Jw (Jc Je (Ja 3) (eC (.int 7))) (eC (.int 4))))) Jd)))))) (Jjv k)
def Jjt:S1:=Jf (Jh 6 (Jc Je (Js (Jb (eC (.int 0)) (Jb (eC (.int 0)) (Jb (Jc Jw (Jc Je (Ja 3) (eC (.int 4))) (Jc Jl (eC (.int 1)) (Jc JO (Ja 4) (eC (.int 3))))) (Jb (Jc Jw (Jc Je (Ja 3) (eC (.int 4))) (Jc Jl (eC (.int 1)) (Jc JO (Jc Qo (eC (.int 3)) (Ja 4)) (eC (.int 2))))) Jd))))) (Jc Jw (Jc Je (Ja 3) (eC (.int 5))) (eC (.int 4))))) (Jju k)
def Jjs:S1:=Jf (Jh 5 (Jc Qa (Ja 4) (Jc Je (Js (Jb (eC (.int 0)) (Jb (Jc Jw (Jc Je (Ja 3) (eC (.int 2))) (Ja 4)) Jd))) (Jc Jw (Jc Je (Ja 3) (eC (.int 3))) (eC (.int 2)))))) (Jjt k)
def Jjr:S1:=Jf (Jh 4 (Jc Jl (Jc Qo (Ja 1) (Jc Jl (eC (.int 1)) (Jc Jw (Jc Je (Ja 3) (eC (.int 0))) (eC (.int 7))))) (Jc Jw (Jc Je (Ja 3) (eC (.int 1))) (Jc Jl (eC (.int 1)) (Jc JO (Ja 1) (eC (.int 2))))))) (Jjs k)
def Jjq:S1:=Jf (Jh 3 (Jm (Ja3 k) [] (Jb (Ja 0) (Jb (eC (.int 17)) Jd)))) (Jjr k)
theorem Jl9:Jdd (k+1) [x0,x1,x2] h=(Jjq k [some x0,some x1,some x2,none,none,none,none,none,none] h).fin:=by kernel_rfl
def Jc6:E1:=(Jm (Jcp k) [] (Jb (Jc JO (Ja 1) (eC (.int 5))) (Jb (Ja 0) Jd)))
def Jke:S1:=(Jf (Jh 8 (Jm (Jdd k) [] (Jb (Jc Jl (Jm (XS k) [] (Jb (Ja 0) (Jb (Jc Jl (eC (.int 2)) (Ja 7)) Jd))) (Jc Qo (eC (.int 7)) (Ja 7))) (Jb (Ja 3) (Jb (Ja 5) Jd))))) (JJ (Jn (pg k) "append" 1 (Ja 6) (Jb (Jc Jl (J8 (Jb (Jm (Jcp k) [] (Jb (Jc JO (Ja 4) (eC (.int 7))) (Jb (Ja 7) Jd))) Jd)) (Ja 8)) Jd))))
def Jli (k:Nat):S1:=(Jk (Ja 6))
def Jlh:S1:=Jf (sFor (iRg Qn (Jb (Jc Jw (Ja 4) (eC (.int 6))) Jd)) (gNm 7) (Jke k)) (Jli k)
def Jfj:S1:=Jf (Jh 6 (Js Jd)) (Jlh k)
def Jlg:S1:=Jf (sIf (Jg tru (Ja 1)) (Jh 5 (Jy (iRg Qn (Jb (eC (.int 3)) Jd)) 1 [4] (gNm 0) J4 (Jc6 k))) Jr) (Jfj k)
def Jlf:S1:=Jf (Jh 5 (Js Jd)) (Jlg k)
def Jle:S1:=Jf (Jh 4 (Jm (XS k) [] (Jb (Ja 0) (Jb (eC (.int 1)) Jd)))) (Jlf k)
def Jld:S1:=Jf (Jh 3 (Jc Jl (eC (.int 1)) (Jc Jw (Jc JO (Ja 2) (eC (.int 4))) (Jc Je (Js (Jb (eC (.int 4)) (Jb (Jc JE (eC (.int 10)) (eC (.int 15))) (Jb (Jc JE (eC (.int 10)) (eC (.int 15))) (Jb (Jc JE (eC (.int 10)) (eC (.int 40))) Jd))))) (Jc Jw (Ja 2) (eC (.int 4))))))) (Jle k)
def Jlc:S1:=Jf (Jh 2 (Jm (XS k) [] (Jb (Ja 0) (Jb (eC (.int 0)) Jd)))) (Jld k)
theorem Jnv:Je2 (k+1) [x0,x1] h=(Jlc k [some x0,some x1,none,none,none,none,none,none,none] h).fin:=by kernel_rfl
def Jj0 (k:Nat):E1:=(Jc Je (Ja 0) (eC (.int 1)))
def Jfn:S1:=(Jf (Jh 6 (Jm (Ja3 k) [] (Jb (Ja 5) (Jb (eC (.int 6)) Jd)))) (Jf (Jh 7 (Jc Jw (Jc Je (Ja 6) (eC (.int 0))) (eCB (on1 lenI) (Jb (Ja 1) Jd)))) (Jf (sAsg (Jc Je (Ja 1) (Ja 7)) (gTp 6 (gC (gNm 8) (gC (gNm 9) (gC (gNm 10) (gC (gNm 11) (gC (gNm 12) (gC (gNm 13) gN)))))))) (Jf (Jh 14 (Jc Je (Js (Jb (Ja 12) (Jb (eC (.int 0)) (Jb (Jc Jw (Jc Je (Ja 6) (eC (.int 1))) (Jc Jl (Ja 12) (eC (.int 1)))) Jd)))) (Jc Jw (Jc Je (Ja 6) (eC (.int 2))) (eC (.int 3))))) (Jf (Jh 15 (Jc Jl (Jc Qa (Ja 4) (Ja 14)) (Jc Je (Js (Jb (eC (.int 0)) (Jb (Jc Jw (Jc Je (Ja 6) (eC (.int 3))) (Ja 9)) (Jb (Jc Qa (eC (.int 0)) (Jc Jw (Jc Je (Ja 6) (eC (.int 3))) (Ja 9))) Jd)))) (Jc Jw (Jc Je (Ja 6) (eC (.int 4))) (eC (.int 3)))))) (Jf (sIf (Jg asB (Jc cInD (Ja 7) (Ja 3))) (Jh 15 (Jc Jl (Jc Jl (Jc QO (Ja 3) (Ja 7)) (Ja 9)) (Jc Je (Js (Jb (eC (.int 0)) (Jb (Jc Jw (Jc Je (Ja 6) (eC (.int 3))) (Jc Jl (eC (.int 1)) (Ja 9))) Jd))) (Jc Jw (Jc Je (Ja 6) (eC (.int 4))) (eC (.int 2)))))) Jr) (Jf (sAsg (Ja 15) (gSbD (Ja 3) (Ja 7))) (JJ (Jn (pg k) "append" 1 (Ja 2) (Jb (J8 (Jb (Ja 7) (Jb (Ja 15) (Jb (Ja 14) (Jb (Jc Je (Js (Jb (Ja 10) (Jb (Ja 10) (Jb (Jc Jl (eC (.int 1)) (Jc Jw (Jc Je (Ja 6) (eC (.int 5))) (Ja 10))) Jd)))) (Jc Jw (Jc JO (Jc Je (Ja 6) (eC (.int 4))) (eC (.int 6))) (eC (.int 3)))) Jd))))) Jd))))))))))
def Jnl (k:Nat):S1:=(Jk (Ja 2))
def Jnk:S1:=Jf (sFor (Ju (Ja 0)) (gNm 5) (Jfn k)) (Jnl k)
def Jnj:S1:=Jf (Jh 4 (Jc Qo (eC (.int 3)) (eCB (on1 X2) (Jb (Jy (Ju (Ja 1)) 1 [] (gNm 0) J4 (Jj0 k)) Jd)))) (Jnk k)
def Jni:S1:=Jf (sIf (Jg asB (Jc cEq (Ja 1) (Js Jd))) (Jk (Ja 2)) Jr) (Jnj k)
def Jnh:S1:=Jf (Jh 3 Xt) (Jni k)
def Jng:S1:=Jf (Jh 2 (Js Jd)) (Jnh k)
theorem Jqb:Jgf (k+1) [x0,x1] h=(Jng k [some x0,some x1,none,none,none,none,none,none,none,none,none,none,none,none,none,none] h).fin:=by kernel_rfl
def Jfv (k:Nat):S1:=(Jf (sIf (Jg asB (Jc cLt (Ja 1) (Jc Qa (Ja 3) (Ja 2)))) (Jk (Jc Jl (Ja 2) (Ja 1))) Jr) (Jh 1 (Jc Qa (Ja 1) (Jc Qa (Ja 3) (Ja 2)))))
def Jgx (k:Nat):S1:=(Jk (eC (.int 0)))
def Jgw:S1:=Jf (sFor (Ju (Ja 0)) (gTp 2 (gC (gNm 2) (gC (gNm 3) gN))) (Jfv k)) (Jgx k)
theorem Jih:Jap (k+1) [x0,x1] h=(Jgw k [some x0,some x1,none,none] h).fin:=by kernel_rfl
def Jkd:S1:=(sIf (Jg asB (Jc cLt (Ja 5) (Jc Je (Ja 1) (eC (.int 3))))) (Jf (Jh 7 (Jm (Jap k) [] (Jb (Ja 2) (Jb (Jc Qa (eCB (on2 minI) (Jb (Ja 6) (Jb (Jc Je (Ja 1) (eC (.int 3))) Jd))) (eC (.int 1))) Jd)))) (JJ (Jn (pg k) "append" 1 (Ja 3) (Jb (J8 (Jb (Ja 4) (Jb (Jm (Jap k) [] (Jb (Ja 2) (Jb (Ja 5) Jd))) (Jb (Jc Jl (Ja 7) (eC (.int 1))) Jd)))) Jd)))) Jr)
def Jlb (k:Nat):S1:=(Jk (Ja 3))
def Jla:S1:=Jf (sFor (Ju (Ja 0)) (gTp 3 (gC (gNm 4) (gC (gNm 5) (gC (gNm 6) gN)))) (Jkd k)) (Jlb k)
def Jk9:S1:=Jf (Jh 3 (Js Jd)) (Jla k)
theorem Jnu:Je1 (k+1) [x0,x1,x2] h=(Jk9 k [some x0,some x1,some x2,none,none,none,none,none] h).fin:=by kernel_rfl
def Jei:E1:=(Qw "Work" (Jbh k) [] (Jb (Jc Je (Ja 0) (eC (.int 0))) (Jb (Jc Je (Ja 0) (eC (.int 1))) (Jb (Jc Je (Ja 0) (eC (.int 2))) (Jb (Jc Je (Ja 0) (eC (.int 3))) (Jb (Jc Je (Ja 0) (eC (.int 4))) (Jb (eCB (on1 Vg) (Jb (Jc Je (Ja 0) (eC (.int 5))) Jd)) Jd)))))))
def Jrk (k:Nat):E1:=(Js Jd)
def Jow:S1:=(JJ (Jn (pg k) "append" 1 (Jc Je (Ja 4) (Ja 5)) (Jb (J8 (Jb (Ja 6) (Jb (Ja 7) Jd))) Jd)))
def Jg2 (k:Nat):E1:=(Jc Qa (Ja 1) (Ja 0))
def Jux (k:Nat):S1:=(sIf (Qq (Jg asB (Jc cEq (Ja 11) (Ja 12))) (Qq (Jg asB (Jc cLt (Ja 6) (Ja 14))) (Jg asB (Jc cLt (Ja 13) (Ja 7))))) (Jk (eC (.bl false))) Jr)
def Jox:S1:=(sFor (Ju (Ja 8)) (gTp 3 (gC (gNm 12) (gC (gNm 13) (gC (gNm 14) gN)))) (Jux k))
def Joy:S1:=(Jf (sIf (Jg asB (Jc cNe (eCB (on1 sumI) (Jb (Jy (Ju (Jc Je (Ja 4) (Ja 9))) 2 [] (gTp 2 (gC (gNm 0) (gC (gNm 1) gN))) J4 (Jg2 k)) Jd)) (Jc Je (Jc Je (Ja 3) (Ja 9)) (eC (.int 3))))) (Jk (eC (.bl false))) Jr) (Jf (Jh 10 (Jm (Je1 k) [] (Jb (Jc Je (Jc Je (Ja 1) (Jc Je (Jc Je (Ja 3) (Ja 9)) (eC (.int 0)))) (eC (.int 5))) (Jb (Jc Je (Ja 3) (Ja 9)) (Jb (Jc Je (Ja 4) (Ja 9)) Jd))))) (Jf (sFor (Ju (Ja 10)) (gTp 3 (gC (gNm 11) (gC (gNm 6) (gC (gNm 7) gN)))) (Jox k)) (Jh 8 (Jc Jl (Ja 8) (Ja 10))))))
def Jx7 (k:Nat):S1:=(Jk (eC (.bl true)))
def Jx6:S1:=Jf (sFor (iRg Qn (Jb (eCB (on1 lenI) (Jb (Ja 3) Jd)) Jd)) (gNm 9) (Joy k)) (Jx7 k)
def Jx5:S1:=Jf (Jh 8 (Js Jd)) (Jx6 k)
def Jx4:S1:=Jf (sFor (Ju (Jm (Jxq k) [] (Jb (Qw "ByRank" (Jao k) [] (Jb (Qw "Duty" (Xn k) [] (Jb (Ja 2) Jd)) Jd)) (Jb (eCB (on1 Vg) (Jb (Ja 3) Jd)) Jd)))) (gTp 3 (gC (gNm 5) (gC (gNm 6) (gC (gNm 7) gN)))) (Jow k)) (Jx5 k)
def Jx3:S1:=Jf (Jh 4 (Jy (Ju (Ja 3)) 1 [] (gNm 0) J4 (Jrk k))) (Jx4 k)
def Jx2:S1:=Jf (Jh 3 (Jm (Jgf k) [] (Jb (eSl slI (Ja 0) (QD (eC (.int 8))) (QD (eC (.int 22)))) (Jb (Ja 1) Jd)))) (Jx3 k)
def Jx1:S1:=Jf (Jh 2 (Jy (Ju (Ja 1)) 1 [] (gNm 0) J4 (Jei k))) (Jx2 k)
def Jx0:S1:=Jf (Jh 1 (Jm (Je2 k) [] (Jb (Ja 0) (Jb (eC (.bl true)) Jd)))) (Jx1 k)
theorem J02:Xo (k+1) [x0] h=(Jx0 k [some x0,none,none,none,none,none,none,none,none,none,none,none,none,none,none] h).fin:=by kernel_rfl
end
theorem Jcn (k:Nat):JV (pg k) "held" 0 "Work"=some (Jda k,[]):=by kernel_rfl
theorem Jdn (k:Nat):JV (pg k) "next_ready" 0 "Bench"=some (Jae k,[]):=by kernel_rfl
theorem Jg6 (k:Nat):JV (pg k) "let_in" 0 "Bench"=some (Ja9 k,[]):=by kernel_rfl
theorem Jeq (k:Nat):JV (pg k) "turns_for" 1 "Bench"=some (Jag k,[]):=by kernel_rfl
theorem Jj4 (k:Nat):JV (pg k) "tell" 2 "Bench"=some (Jb4 k,[]):=by kernel_rfl
theorem Jia (k:Nat):JV (pg k) "go_on" 0 "Bench"=some (Jbg k,[]):=by kernel_rfl
theorem Jfl (k:Nat):JV (pg k) "size" 0 "Duty"=some (Jc8 k,[]):=by kernel_rfl
theorem Jcm (k:Nat):JV (pg k) "work" 1 "Duty"=some (Jc9 k,[]):=by kernel_rfl
theorem Je5 (k:Nat):JV (pg k) "rank_of" 2 "ByRank"=some (Jal k,[]):=by kernel_rfl
theorem Jg7 (k:Nat):JV (pg k) "holds" 2 "ByRank"=some (Jba k,[]):=by kernel_rfl
theorem Jib (k:Nat):JV (pg k) "pick" 3 "ByRank"=some (Ja2 k,[]):=by kernel_rfl
theorem Jer (k:Nat):JV (pg k) "standing" 2 "ByRank"=some (Jam k,[]):=by kernel_rfl
end LW
section
open PySem L2 L3 L4
local macro_rules | `(tactic| simp! [$xs,*]) => `(tactic| simp (implicitDefEqProofs := false) only [YM, YL, Jk6, YN, YK, YO, Jk7, YJ, Xl, Jpz, Jk5, Jp0, XQ, Qr, Jq, Vo, Qe, Yd, Jub, Vn, Jwl, Jpl, Jwh, Jwb, YH, Jpy, Jk2, Jk3, Y6, Jky, Jf9, YI, YE, Jkz, VO, Jv5, Xj, Jpo, Jgb, Jgc, VP, Y9, Y4, Jpx, Jps, YG, Y7, YF, V5, Y5, Jwe, Jwc, Jwa, Jv9, Jv8, Jwf, Jpn, Jpt, Jpm, Jk4, Jpu, Y8, Jwg, JU, VN, Xk, Jk1, Jpp, Jpr, Jpq, Jpw, Jga, Zcx, Zbi, Zak, ZV, Zac, exists_eq_left, exists_eq_left', IV.bl.injEq, IV.int.injEq, IV.ref.injEq, IV.str.injEq, IO.lst.injEq, IV.tup.injEq, ZaD, Zcn, ZbX, reduceCtorEq, eq_self, true_implies, false_implies, implies_true, and_true, true_and, and_false, false_and, ZbA, Zbr, ZU, Y2, Yy, Y3, Yz, Y0, Y1, V7, V6, V9, QZ, V8, Vw, Xh, YA, JX, Qi, Q5, Qd, Va, YD, YB, YC, $xs,*])
local macro_rules | `(tactic| simp_all! [$xs,*]) => `(tactic| try simp (implicitDefEqProofs := false) only [YM, YL, Jk6, YN, YK, YO, Jk7, YJ, Xl, Jpz, Jk5, Jp0, XQ, Qr, Jq, Vo, Qe, Yd, Jub, Vn, Jwl, Jpl, Jwh, Jwb, YH, Jpy, Jk2, Jk3, Y6, Jky, Jf9, YI, YE, Jkz, VO, Jv5, Xj, Jpo, Jgb, Jgc, VP, Y9, Y4, Jpx, Jps, YG, Y7, YF, V5, Y5, Jwe, Jwc, Jwa, Jv9, Jv8, Jwf, Jpn, Jpt, Jpm, Jk4, Jpu, Y8, Jwg, JU, VN, Xk, Jk1, Jpp, Jpr, Jpq, Jpw, Jga, Zcx, Zbi, Zak, ZV, Zac, exists_eq_left, exists_eq_left', IV.bl.injEq, IV.int.injEq, IV.ref.injEq, IV.str.injEq, IO.lst.injEq, IV.tup.injEq, ZaD, Zcn, ZbX, reduceCtorEq, eq_self, true_implies, false_implies, implies_true, and_true, true_and, and_false, false_and, ZbA, Zbr, ZU, Y2, Yy, Y3, Yz, Y0, Y1, V7, V6, V9, QZ, V8, Vw, Xh, YA, JX, Qi, Q5, Qd, Va, YD, YB, YC, $xs,*])
local macro_rules | `(tactic| dsimp! [$xs,*]) => `(tactic| simp (implicitDefEqProofs := false) only [YM, YL, Jk6, YN, YK, YO, Jk7, YJ, Xl, Jpz, Jk5, Jp0, XQ, Qr, Jq, Vo, Qe, Yd, Jub, Vn, Jwl, Jpl, Jwh, Jwb, YH, Jpy, Jk2, Jk3, Y6, Jky, Jf9, YI, YE, Jkz, VO, Jv5, Xj, Jpo, Jgb, Jgc, VP, Y9, Y4, Jpx, Jps, YG, Y7, YF, V5, Y5, Jwe, Jwc, Jwa, Jv9, Jv8, Jwf, Jpn, Jpt, Jpm, Jk4, Jpu, Y8, Jwg, JU, VN, Xk, Jk1, Jpp, Jpr, Jpq, Jpw, Jga, Zcx, Zbi, Zak, ZV, Zac, $xs,*])
namespace LW
open PySem L2 L3 L4
section
variable {k:Nat}{h:IH}
theorem J0:1000000<sizeLine:=by decide
theorem Xd (o o':IO):List.set (h++[o]) h.length o'=h++[o']:=by
 rw[ZcG _ _ (Zl _),Zdh];rfl
theorem Xe (o o':IO)(g:IH):List.set (h++o::g) h.length o'=h++o'::g:=by
 rw[ZcG _ _ (Zl _),Zdh];rfl
end
section
seal L4.run
section
variable {α β:Type}{σ:ISt}{h h1:IH}{N:ISt->IH->Prop}{R:IV->IH->Prop}{P:IV->IH->Prop}
theorem xb {r:Res α}{f:α->IH->Res β}{Q:β->IH->Prop}(x:WR r λ a h=>WR (f a h) Q):WR (r.bind f) Q:=(Jq ..).mpr x
theorem xseq {a b:S1}(x:WS (a σ h) (λ σ1 h1=>WS (b σ1 h1) N R) R):WS (Jf a b σ h) N R:=(YM ..).mpr x
theorem xfin {r:SRes}(x:WS r (λ _ h=>P .non h) P):WR r.fin P:=(Y8 ..).mpr x
theorem xset {i:Nat}{e:E1}(x:WR (e σ h) λ v h1=>N (σ.set i (some v)) h1):WS (Jh i e σ h) N R:=(YN ..).mpr x
theorem xret {e:E1}(x:WR (e σ h) R):WS (Jk e σ h) N R:=(YO ..).mpr x
theorem Qt {e:E1}(x:WR (e σ h) λ _ h1=>N σ h1):WS (JJ e σ h) N R:=(YJ ..).mpr x
theorem xif {t:T1}{a b:S1}(x:WR (t σ h) λ c h1=>(c=true->WS (a σ h1) N R)/\(c=false->WS (b σ h1) N R)):WS (sIf t a b σ h) N R:=(YK ..).mpr x
theorem J3f {a b:T1}{Q:Bool->IH->Prop}(x:WR (a σ h) λ c h1=>(c=true->WR (b σ h1) Q)/\(c=false->Q false h1)):WR (Qq a b σ h) Q:=(YH ..).mpr x
theorem xdec {p:Prop}[Decidable p]{a b:Prop}(x:p->a)(y:¬p->b):(decide p=true->a)/\(decide p=false->b):=⟨λ e=>x (of_decide_eq_true e),λ e=>y (of_decide_eq_false e)⟩
theorem xnil (x:N σ h):WS (Jr σ h) N R:=x
theorem xtup {a:A1}(x:WR (a σ h) λ xs h1=>xs.length<=sizeLine/\P (.tup xs) h1):WR (J8 a σ h) P:=(YI ..).mpr x
theorem xlst {a:A1}(x:WR (a σ h) λ xs h1=>xs.length<=sizeLine/\P (.ref h1.length) (h1++[.lst xs])):WR (Js a σ h) P:=(YE ..).mpr x
theorem xixl {i:Nat}{n:Int}{xs:List IV}{x:IV}(g:h[i]?=some (.lst xs))(e:atI xs n=some x)(q:P x h):WR (Je (.ref i) (.int n) h) P:=(Jtt ..).mpr ⟨_,g,_,e,q⟩
theorem xixt {n:Int}{xs:List IV}{x:IV}(e:atI xs n=some x)(q:P x h):WR (Je (.tup xs) (.int n) h) P:=(Xh ..).mpr ⟨_,e,q⟩
theorem J5l {i:Nat}{xs:List IV}(g:h[i]?=some (.lst xs))(q:P (.int xs.length) h):WR (lenI (.ref i) h) P:=(Joh ..).mpr ⟨_,g,q⟩
theorem xmod {i j:Int}(l:0<j)(q:P (.int (i%j)) h):WR (Jw (.int i) (.int j) h) P:=(YF ..).mpr ⟨l,q⟩
theorem J5k {i j:Int}(l:0<j/\j.natAbs.log2<9000)(q:P (.int (i/j)) h):WR (JO (.int i) (.int j) h) P:=(Y7 ..).mpr ⟨l,q⟩
theorem xmul {i j:Int}(l:QW i j)(q:P (.int (i*j)) h):WR (Qo (.int i) (.int j) h) P:=(YG ..).mpr ⟨l,q⟩
theorem fldE {f c:Str}{fs:List (Str×IV)}{i:Nat}{x:IV}{o:E1}(ho:o σ h=.ok (.ref i) h1)(g:h1[i]?=some (.ins c fs))(l:fs.lookup f=some x):Jo f o σ h=.ok x h1:=by
 refine Jv ?_
 rw[Y9,ho]
 exact⟨x,(JY g).trans l,rfl,rfl⟩
theorem binE {f:IV->IV->IH->Res IV}{a b:E1}{x y:IV}{h2:IH}(ea:a σ h=.ok x h1)(eb:b σ h1=.ok y h2):Jc f a b σ h=f x y h2:=by unfold Jc;rw[ea];dsimp only[Res.bind];rw[eb]
theorem arg1 {a:E1}{x:IV}(ea:a σ h=.ok x h1):Jb a Jd σ h=.ok [x] h1:=by unfold Jb;rw[ea];rfl
theorem arg2 {a b:E1}{x y:IV}{h2:IH}(ea:a σ h=.ok x h1)(eb:b σ h1=.ok y h2):Jb a (Jb b Jd) σ h=.ok [x,y] h2:=by unfold Jb;rw[ea];dsimp only[Res.bind];rw[eb];rfl
theorem cbE {f:List IV->IH->Res IV}{a:A1}{xs:List IV}(ea:a σ h=.ok xs h1):eCB f a σ h=f xs h1:=by unfold eCB;rw[ea];rfl
theorem Qj {f:List IV->IH->Res IV}{d:List IV}{a:A1}{xs:List IV}{v:IV}{h2:IH}(ea:a σ h=.ok xs h1)(ef:f (xs++d) h1=.ok v h2):Jm f d a σ h=.ok v h2:=by unfold Jm;rw[ea];exact ef
theorem tofE {a:E1}{c:Bool}(ea:a σ h=.ok (.bl c) h1):Jg asB a σ h=.ok c h1:=by unfold Jg;rw[ea];rfl
theorem lenE {a:E1}{i:Nat}{xs:List IV}(ea:a σ h=.ok (.ref i) h1)(g:h1[i]?=some (.lst xs)):eCB (on1 lenI) (Jb a Jd) σ h=.ok (.int xs.length) h1:=by
 rw[cbE (arg1 ea)]
 exact Jv (J5l g ⟨rfl,rfl⟩)
theorem ixlE {a b:E1}{i:Nat}{n:Int}{xs:List IV}{x:IV}{h2:IH}(ea:a σ h=.ok (.ref i) h1)(eb:b σ h1=.ok (.int n) h2)(g:h2[i]?=some (.lst xs))(e:atI xs n=some x):Jc Je a b σ h=.ok x h2:=by
 rw[binE ea eb]
 exact Jv (xixl g e ⟨rfl,rfl⟩)
theorem ixtE {a b:E1}{n:Int}{xs:List IV}{x:IV}{h2:IH}(ea:a σ h=.ok (.tup xs) h1)(eb:b σ h1=.ok (.int n) h2)(e:atI xs n=some x):Jc Je a b σ h=.ok x h2:=by
 rw[binE ea eb]
 exact Jv (xixt e ⟨rfl,rfl⟩)
theorem gtE {a b:E1}{i j:Int}{h2:IH}(ea:a σ h=.ok (.int i) h1)(eb:b σ h1=.ok (.int j) h2):Jg asB (Jc cGt a b) σ h=.ok (decide (j<i)) h2:=tofE (binE ea eb)
theorem leE {a b:E1}{i j:Int}{h2:IH}(ea:a σ h=.ok (.int i) h1)(eb:b σ h1=.ok (.int j) h2):Jg asB (Jc cLe a b) σ h=.ok (decide (i<=j)) h2:=tofE (binE ea eb)
theorem ltE {a b:E1}{i j:Int}{h2:IH}(ea:a σ h=.ok (.int i) h1)(eb:b σ h1=.ok (.int j) h2):Jg asB (Jc cLt a b) σ h=.ok (decide (i<j)) h2:=tofE (binE ea eb)
theorem geE {a b:E1}{i j:Int}{h2:IH}(ea:a σ h=.ok (.int i) h1)(eb:b σ h1=.ok (.int j) h2):Jg asB (Jc cGe a b) σ h=.ok (decide (j<=i)) h2:=tofE (binE ea eb)
theorem eqE {a b:E1}{i j:Int}{h2:IH}(ea:a σ h=.ok (.int i) h1)(eb:b σ h1=.ok (.int j) h2):Jg asB (Jc cEq a b) σ h=.ok (decide (i=j)) h2:=tofE (binE ea eb)
theorem addE {a b:E1}{i j:Int}{h2:IH}(ea:a σ h=.ok (.int i) h1)(eb:b σ h1=.ok (.int j) h2):Jc Jl a b σ h=.ok (.int (i+j)) h2:=binE ea eb
theorem subE {a b:E1}{i j:Int}{h2:IH}(ea:a σ h=.ok (.int i) h1)(eb:b σ h1=.ok (.int j) h2):Jc Qa a b σ h=.ok (.int (i-j)) h2:=binE ea eb
theorem arg3 {a b c:E1}{x y z:IV}{h2 h3:IH}(ea:a σ h=.ok x h1)(eb:b σ h1=.ok y h2)(ec:c σ h2=.ok z h3):Jb a (Jb b (Jb c Jd)) σ h=.ok [x,y,z] h3:=by
 rw[show Jb a (Jb b (Jb c Jd)) σ h=(a σ h).bind λ x h1=>(Jb b (Jb c Jd) σ h1).bind λ xs h2=>.ok (x::xs) h2 from rfl,ea]
 show(Jb b (Jb c Jd) σ h1).bind _=_
 rw[arg2 eb ec]
 rfl
theorem arg4 {a b c d:E1}{x y z u:IV}{h2 h3 h4:IH}(ea:a σ h=.ok x h1)(eb:b σ h1=.ok y h2)(ec:c σ h2=.ok z h3)(ed:d σ h3=.ok u h4):Jb a (Jb b (Jb c (Jb d Jd))) σ h=.ok [x,y,z,u] h4:=by
 rw[show Jb a (Jb b (Jb c (Jb d Jd))) σ h=(a σ h).bind λ x h1=>(Jb b (Jb c (Jb d Jd)) σ h1).bind λ xs h2=>.ok (x::xs) h2 from rfl,ea]
 show(Jb b (Jb c (Jb d Jd)) σ h1).bind _=_
 rw[arg3 eb ec ed]
 rfl
theorem modE {a b:E1}{i j:Int}{h2:IH}(ea:a σ h=.ok (.int i) h1)(eb:b σ h1=.ok (.int j) h2)(l:0<j):Jc Jw a b σ h=.ok (.int (i%j)) h2:=(binE ea eb).trans (Jv (xmod l ⟨rfl,rfl⟩))
theorem Q8 {a b:E1}{i j:Int}{h2:IH}(ea:a σ h=.ok (.int i) h1)(eb:b σ h1=.ok (.int j) h2)(l:0<j)(z:j.natAbs.log2<9000):Jc JO a b σ h=.ok (.int (i/j)) h2:=(binE ea eb).trans (Jv (J5k ⟨l,z⟩ ⟨rfl,rfl⟩))
theorem mulE {a b:E1}{i j:Int}{h2:IH}(ea:a σ h=.ok (.int i) h1)(eb:b σ h1=.ok (.int j) h2)(l:QW i j):Jc Qo a b σ h=.ok (.int (i*j)) h2:=(binE ea eb).trans (Jv (xmul l ⟨rfl,rfl⟩))
theorem lstE {a:A1}{xs:List IV}(ea:a σ h=.ok xs h1)(l:Nat.ble xs.length 1000=true):Js a σ h=.ok (.ref h1.length) (h1++[.lst xs]):=Jv (xlst (WR.of_eq ea ⟨ZO (Zea l) (ZO (by decide) (ZbF J0)),rfl,rfl⟩))
theorem tupE {a:A1}{xs:List IV}(ea:a σ h=.ok xs h1)(l:Nat.ble xs.length 1000=true):J8 a σ h=.ok (.tup xs) h1:=Jv (xtup (WR.of_eq ea ⟨ZO (Zea l) (ZO (by decide) (ZbF J0)),rfl,rfl⟩))
theorem pkE {a:A1}{b:E1}{n:Int}{xs:List IV}{x:IV}(ea:a σ h=.ok xs h1)(l:Nat.ble xs.length 1000=true)(eb:b σ (h1++[.lst xs])=.ok (.int n) (h1++[.lst xs]))(e:atI xs n=some x):Jc Je (Js a) b σ h=.ok x (h1++[.lst xs]):=ixlE (lstE ea l) eb Jj e
theorem maxE {a b:E1}{i j:Int}{h2:IH}(ea:a σ h=.ok (.int i) h1)(eb:b σ h1=.ok (.int j) h2):eCB (on2 maxI) (Jb a (Jb b Jd)) σ h=.ok (.int (if j>i then j else i)) h2:=cbE (arg2 ea eb)
theorem minE {a b:E1}{i j:Int}{h2:IH}(ea:a σ h=.ok (.int i) h1)(eb:b σ h1=.ok (.int j) h2):eCB (on2 minI) (Jb a (Jb b Jd)) σ h=.ok (.int (if j<i then j else i)) h2:=cbE (arg2 ea eb)
theorem dotE {Pg:Pg}{m c:Str}{n i:Nat}{o:E1}{a:A1}{fs:List (Str×IV)}{f:List IV->IH->Res IV}{d xs:List IV}{h2 h3:IH}{v:IV}(e:o σ h=.ok (.ref i) h1)(hi:h1[i]?=some (.ins c fs))(hf:fs.lookup m=none)(hd:JV Pg m n c=some (f,d))(ha:a σ h1=.ok xs h2)(hx:f (.ref i::(xs++d)) h2=.ok v h3):Jn Pg m n o a σ h=.ok v h3:=by
 refine Jv ((VM e hi hf hd).mpr (WR.of_eq ha (WR.of_eq hx ⟨rfl,rfl⟩)))
theorem xifd {t:T1}{a b:S1}{p:Prop}[Decidable p](e:t σ h=.ok (decide p) h1)(x:p->WS (a σ h1) N R)(y:¬p->WS (b σ h1) N R):WS (sIf t a b σ h) N R:=xif (WR.of_eq e (xdec x y))
theorem xiff {t:T1}{a b:S1}(e:t σ h=.ok false h1)(x:WS (b σ h1) N R):WS (sIf t a b σ h) N R:=xif (WR.of_eq e ⟨(λ z=>by cases z),λ _=>x⟩)
theorem xift {t:T1}{a b:S1}(e:t σ h=.ok true h1)(x:WS (a σ h1) N R):WS (sIf t a b σ h) N R:=xif (WR.of_eq e ⟨λ _=>x,λ z=>by cases z⟩)
theorem xnx {r:SRes}{σ1:ISt}(e:r=.next σ1 h1)(x:N σ1 h1):WS r N R:=by rw[e];exact x
theorem xfor {it:I1}{g:G1}{b:S1}(x:WR (it σ h) λ J h1=>WS (Qb J.chk g b J.xs σ h1) N R):WS (sFor it g b σ h) N R:=(XQ ..).mpr x
theorem okc {α:Type}{r:Res α}{c d:α}(e:r=.ok c h)(q:c=d):r=.ok d h:=q▸e
theorem notE {a:T1}{c:Bool}(e:a σ h=.ok c h1):JC a σ h=.ok (!c) h1:=by unfold JC;rw[e];rfl
theorem truE {a:E1}{c:Bool}(e:a σ h=.ok (.bl c) h1):Jg tru a σ h=.ok c h1:=by unfold Jg;rw[e];rfl
theorem orF {a b:T1}{r:Res Bool}(e:a σ h=.ok false h1)(eb:b σ h1=r):tOrI a b σ h=r:=by unfold tOrI;rw[e];exact eb
theorem andT {a b:T1}{r:Res Bool}(e:a σ h=.ok true h1)(eb:b σ h1=r):Qq a b σ h=r:=by unfold Qq;rw[e];exact eb
theorem andF {a b:T1}(e:a σ h=.ok false h1):Qq a b σ h=.ok false h1:=by unfold Qq;rw[e];rfl
theorem J3t {a b:E1}{r:Res IV}(e:a σ h=.ok (.bl true) h1)(eb:b σ h1=r):eAnd a b tru σ h=r:=by unfold eAnd;rw[e];exact eb
theorem chT {a b c:E1}{i j l:Int}{h2 h3:IH}(ea:a σ h=.ok (.int i) h1)(eb:b σ h1=.ok (.int j) h2)(ec:c σ h2=.ok (.int l) h3)(t1:i<=j)(t2:j<l):JR cLe cLt a b c σ h=.ok (.bl true) h3:=by
 unfold JR
 rw[ea]
 dsimp only[Res.bind]
 rw[eb]
 show(match IV.bl (decide (i<=j)) with|.bl true=>_|.bl false=>_|_=>_)=_
 rw[decide_eq_true t1]
 show(c σ h2).bind _=_
 rw[ec]
 show Res.ok (IV.bl (decide (j<l))) h3=_
 rw[decide_eq_true t2]
theorem xrng {e:E1}{g:G1}{b:S1}{n:Nat}(ee:e σ h=.ok (.int (n:Int)) h1)(l:n<1000000)(x:WS (Qb (λ _=>True) g b (rngI 0 (n:Int)) σ h1) N R):WS (sFor (iRg Qn (Jb e Jd)) g b σ h) N R:=by
 rw[XQ,VN]
 refine WR.of_eq (arg1 ee) ?_
 rw[Xk]
 exact⟨by omega,x⟩
theorem J1w {a:E1}{i:Nat}{xs:List IV}(ea:a σ h=.ok (.ref i) h1)(g:h1[i]?=some (.lst xs)):eCB (on1 Vg) (Jb a Jd) σ h=.ok (.ref h1.length) (h1++[.lst xs]):=by
 rw[cbE (arg1 ea)]
 exact Jv ((Jwd ..).mpr ⟨_,g,rfl,rfl⟩)
theorem Vp {f c:Str}{fs:List (Str×IV)}{i:Nat}{o e:E1}{v:IV}(ev:e σ h=.ok v h1)(eo:o σ h1=.ok (.ref i) h1)(g:h1[i]?=some (.ins c fs))(l:fs.length<1000)(q:N σ (h1.set i (.ins c (putI f v fs)))):WS (JK f o e σ h) N R:=by
 rw[VQ]
 exact WR.of_eq ev (WR.of_eq eo ⟨i,c,fs,rfl,g,l,q⟩)
theorem J5i {f c:Str}{fs gs:List (Str×IV)}{i:Nat}{o e:E1}{a b:Int}{h2:IH}(eo:o σ h=.ok (.ref i) h1)(g:h1[i]?=some (.ins c fs))(l:fs.lookup f=some (.int a))(ee:e σ h1=.ok (.int b) h2)(g2:h2[i]?=some (.ins c gs))(z:gs.length<1000)(q:N σ (h2.set i (.ins c (putI f (.int (a+b)) gs)))):WS (XD .Add f o e σ h) N R:=by
 unfold XD
 rw[eo]
 simp only[rS,g,l,ee,L4.ipI,g2,z,if_true]
 exact q
theorem J5j {i:Nat}{o k e:E1}{n a b:Int}{xs:List IV}{h2 h3:IH}{j:Nat}{ys:List IV}(eo:o σ h=.ok (.ref i) h1)(ek:k σ h1=.ok (.int n) h2)(g:h2[i]?=some (.lst xs))(ea:atI xs n=some (.int a))(n0:0<=n)(ee:e σ h2=.ok (.int b) h3)(g3:h3[i]?=some (.lst ys))(ej:ixN ys.length n=some j)(q:N σ (h3.set i (.lst (ys.set j (.int (a+b)))))):WS (XE .Add o k e σ h) N R:=by
 unfold XE
 rw[eo]
 simp only[rS,ek,ixL,g,ea,n0,if_true,ee,L4.ipI,setI,g3,ej]
 exact q
theorem XR {Pg:Pg}{m c:Str}{n i:Nat}{o:E1}{a:A1}{fs:List (Str×IV)}{f:List IV->IH->Res IV}{d:List IV}(e:o σ h=.ok (.ref i) h1)(hi:h1[i]?=some (.ins c fs))(hf:fs.lookup m=none)(hd:JV Pg m n c=some (f,d))(x:WR (a σ h1) λ vs h2=>WR (f (.ref i::(vs++d)) h2) P):WR (Jn Pg m n o a σ h) P:=(VM e hi hf hd).mpr x
theorem QJ {Pg:Pg}{m:Str}{n i:Nat}{o:E1}{a:A1}{xs:List IV}{g:IV->List IV->IH->Res IV}(e:o σ h=.ok (.ref i) h1)(hl:h1[i]?=some (.lst xs))(hg:bmOf "list" m n=some g)(x:WR (a σ h1) λ vs h2=>WR (g (.ref i) vs h2) P):WR (Jn Pg m n o a σ h) P:=(J0g e hl hg).mpr x
theorem xapp {i:Nat}{y:IV}{xs:List IV}(g:h[i]?=some (.lst xs))(l:xs.length<sizeLine)(q:P .non (h.set i (.lst (xs++[y])))):WR (VR (.ref i) [y] h) P:=(Jtq ..).mpr ⟨_,g,l,q⟩
theorem xpop {i:Nat}{y:IV}{xs:List IV}(g:h[i]?=some (.lst xs))(l:xs[xs.length-1]?=some y)(q:P y (h.set i (.lst xs.dropLast))):WR (X8 (.ref i) [] h) P:=by
 have e:VG (.ref i) h=some (i,xs):=by unfold VG;simp only[g]
 unfold X8
 rw[e]
 dsimp only
 rw[l]
 exact q
theorem xrem {i j:Nat}{k:Int}{ns:List Int}(g:h[i]?=some (.lst (ns.map .int)))(l:ns.findIdx? (· ==k)=some j)(q:P .non (h.set i (.lst ((ns.map IV.int).eraseIdx j)))):WR (XA (.ref i) [.int k] h) P:=by
 have e:VG (.ref i) h=some (i,ns.map .int):=by unfold VG;simp only[g]
 unfold XA
 rw[e]
 dsimp only
 rw[Vd]
 dsimp only
 rw[l]
 exact q
theorem Jrf:bmOf "list" "pop" 0=some X8:=by kernel_rfl
theorem Jrg:bmOf "list" "remove" 1=some XA:=by kernel_rfl
end
end
section
variable {k:Nat}{h:IH}
theorem Jnn (ns:List Int)(n:Int)(hn:0<=n):XS (k+1) [.rol (ns.map .int),.int n] h=.ok (.int (ns.getD n.toNat 0)) h:=by
 refine Jv ?_
 rw[Jig]
 simp! [Jcb,Jcc,Zh,decide_eq_true_eq,decide_eq_false_iff_not]
 refine⟨λ hl=>⟨.int (ns.getD n.toNat 0),Jnb hn ?_,rfl⟩,λ hl=>?_⟩
 ·rw[Zt,Zi,Zb (show n.toNat<ns.length by omega)]
  rfl
 ·rw[Zi,Zbg (by omega)]
  rfl
end
section
seal L4.run
section
variable {k:Nat}{h:IH}
theorem Jfm (i:Int):Jco (k+1) [.int i] h=.ok (.bl true) h:=by rw[Jnt];rfl
theorem Jfc (i j:Int):Vq (k+2) [.int i,.int j] h=.ok (.bl (decide (j<=i))) h:=by
 refine Jv ?_
 rw[Jft]
 simp! [Jbc,Jfm]
def IsNm (x:Str):Prop:=1<=x.length/\x.length<=8/\∀c∈x.cps.toList,97<=c/\c<=122
theorem J3j:(Zaw "a").cps.toList=[97]:=by decide +kernel
theorem J5m:(Zaw "z").cps.toList=[122]:=by decide +kernel
theorem Jzz {c:Nat}(hc:97<=c/\c<=122):Jbk k [some (.str ⟨#[c]⟩)] h=.ok (.bl true) h:=by
 refine Jv ?_
 have h1:¬([c]<[97]):=λ q=>by
  cases q with
  | rel q=>omega
  | cons q=>cases q
 have h2:¬([122]<[c]):=λ q=>by
  cases q with
  | rel q=>omega
  | cons q=>cases q
 simp only[Jbk,Y6,Qe,Yd,Vo,J3d,J3j,J5m,h1,h2,decide_false,exists_eq_left,exists_eq_left',IV.bl.injEq,IV.int.injEq,IV.ref.injEq,IV.str.injEq,IO.lst.injEq,IV.tup.injEq,ZaD,Zcn,ZbX,reduceCtorEq,eq_self,true_implies,false_implies,implies_true,and_true,true_and,and_false,false_and,ZbA,Zbr,ZU,Y2,Yy,Y3,Yz,Y0,Y1,V7,V6,V9,QZ,V8,Vw,Xh,YA,JX,Qi,Q5,Qd,Va,YD,YB,YC]
theorem Jiy {x:Str}(hx:IsNm x):WR (Jdq (k+1) [.str x] h) λ v h'=>v=.bl true/\Ex h h':=by
 obtain⟨h1,h2,h3⟩:=hx
 have hb:=J0
 have hz:x.length<=sizeLine:=by omega
 have a1:(1:Int)<=x.length:=by omega
 have a2:(x.length:Int)<=8:=by omega
 rw[Jqa]
 simp! [Jgu,Jgv,hz,a1,a2,decide_true]
 refine WR.mono (Qh (xs:=Vj x) (chk:=λ _=>True) (f:=λ _=>.bl true) (h:=h) ?_ ?_ (λ _ _=>trivial) ?_) ?_
 ·exact⟨rfl,rfl,rfl⟩
 ·have:(Vj x).length=x.length:=by simp[Vj,Zet]
  omega
 ·intro v hv h2 _
  obtain⟨c,hc,rfl⟩:=ZB.mp hv
  exact WR.of_eq (Jzz (h3 c hc)) ⟨rfl,.refl _⟩
 ·rintro v h' ⟨rfl,g,rfl⟩
  refine WR.of_eq (all_map (f:=λ _=>true) J1) ⟨?_,.cons ..⟩
  simp
abbrev Hd:=Str×Int×Int
def tupH (a:Hd):IV:=.tup [.str a.1,.int a.2.1,.int a.2.2]
def HdOk (len:Int)(a:Hd):Prop:=IsNm a.1/\0<=a.2.1/\a.2.1<a.2.2/\a.2.2<len
def Tog (a b:Hd):Prop:=a.2.2<=b.2.1∨b.2.2<=a.2.1∨(a.1≠b.1/\((b.2.1<=a.2.1/\a.2.2<=b.2.2)∨(a.2.1<=b.2.1/\b.2.2<=a.2.2)))
theorem Jqh {a:Hd}{len:Int}(ha:HdOk len a):WR (Jge (k+3) [tupH a,.int len] h) λ v h'=>v=.bl true/\Ex h h':=by
 obtain⟨h1,h2,h3,h4⟩:=ha
 rw[Jp9]
 have h5:a.2.1+1<=a.2.2:=by omega
 simp! [Jgr,Jgs,Jgt,tupH,Z7,Zbc,Jfc]
 refine⟨λ q=>absurd q (by decide),λ _=>WR.mono (Jiy h1) ?_⟩
 rintro v h' ⟨rfl,x⟩
 simp! [decide_eq_true h2,decide_eq_true h4,decide_eq_true h5]
 exact x
theorem Jmi (a b:Hd):Jde (k+1) [tupH a,tupH b] h=.ok (.bl (decide (a.2.2<=b.2.1)||decide (b.2.2<=a.2.1))) h:=by
 refine Jv ?_
 rw[Jma]
 simp! [Jd6,tupH]
 cases decide (a.2.2<=b.2.1)<;>simp
theorem Jqj (a b:Hd):Jdr (k+1) [tupH a,tupH b] h=.ok (.bl (decide (b.2.1<=a.2.1)&&decide (a.2.2<=b.2.2))) h:=by
 refine Jv ?_
 rw[Jqc]
 simp! [Jgy,tupH]
 cases decide (b.2.1<=a.2.1)<;>simp
theorem Jij {a b:Hd}(t:Tog a b):Jbj (k+2) [tupH a,tupH b] h=.ok (.bl true) h:=by
 refine Jv ?_
 rw[Jif]
 have ix:∀a:Hd,WR (Je (tupH a) (.int 0) h)=λ P=>P (.str a.1) h:=λ a=>by
  funext P
  simp only[tupH,Xh,exists_eq_left,exists_eq_left',IV.bl.injEq,IV.int.injEq,IV.ref.injEq,IV.str.injEq,IO.lst.injEq,IV.tup.injEq,ZaD,Zcn,ZbX,reduceCtorEq,eq_self,true_implies,false_implies,implies_true,and_true,true_and,and_false,false_and,ZbA,Zbr,ZU,Y2,Yy,Y3,Yz,Y0,Y1,V7,V6,V9,QZ,V8,Vw,Xh,YA,JX,Qi,Q5,Qd,Va,YD,YB,YC]
 simp! [Jb8,Jb9,Jca,Jmi,Jqj,ix]
 unfold Tog at t
 simp only[Zay,ZcS,Zn,Bool.and_eq_false_iff,decide_eq_true_eq,decide_eq_false_iff_not]
 grind
theorem Jof {hs:List Hd}{i:Nat}(hi:h[i]?=some (.lst (hs.map tupH)))(hl:hs.length<=6)(ht:∀m n (hm:m<n)(hn:n<hs.length),Tog hs[n] hs[m]) :
  WR (Jah (k+3) [.ref i] h) λ v h'=>v=.bl true/\Ex h h':=by
 have hb:=J0
 rw[Jet]
 simp! [Jay,Jaz,Jtr,hi]
 refine Qs (λ n σ h'=>(∃a b,σ=[some (.ref i),a,b])/\Ex h h') (λ n σ h' ⟨_,x⟩=>x.get hi) ?_ ?_ ⟨⟨_,_,rfl⟩,.refl h⟩
 ·rintro n hn _ h' ⟨⟨a,b,rfl⟩,x⟩
  have hn':n<hs.length:=by rw[Xv,Zh] at hn;exact hn
  rw[Jrx]
  simp! [ZM,J3e,J5c,J5d,Z7,Zbc,Jan]
  have hi':=x.get hi
  refine WR.mono (Qh (xs:=(hs.map tupH).take n) (chk:=λ h2=>h2[h'.length]?=some (.lst ((hs.map tupH).take n))) (f:=λ _=>.bl true) (h:=h'++[.lst ((hs.map tupH).take n)]) ?_ ?_ ?_ ?_) ?_
  ·simp! [Jpv,hi',JM,Joq,Jj]
  ·simp only[ZaN,Zh];omega
  ·exact λ h2 q=>q _ _ Jj
  ·intro v hv h2 q
   obtain⟨j,hj,rfl⟩:=Zau.mp hv
   have hj':j<n:=by simp at hj;omega
   simp! [List.getElem_take,ZM,Jak,Z0,Zbk,Zat,Za5,ZbB]
   exact WR.of_eq (Jij (ht j n hj' hn')) ⟨rfl,.refl _⟩
  ·rintro v h3 ⟨rfl,g,rfl⟩
   refine WR.of_eq (all_map (f:=λ _=>true) J1) ?_
   have:(((hs.map tupH).take n).all λ _=>true)=true:=by simp
   simp! [this]
   exact⟨⟨_,_,rfl⟩,x.trans ((Ex.one _ _).trans (.cons ..))⟩
 ·rintro _ h' ⟨⟨a,b,rfl⟩,x⟩
  exact x
structure HsOk (len:Int)(hs:List Hd):Prop where
 few:hs.length<=6
 each:∀a∈hs,HdOk len a
 tog:∀m n (hm:m<n)(hn:n<hs.length),Tog hs[n] hs[m]
theorem Jmm {hs:List Hd}{i:Nat}{len:Int}(hi:h[i]?=some (.lst (hs.map tupH)))(ok:HsOk len hs) :
  WR (XU (k+4) [.ref i,.int len] h) λ v h'=>v=.tup (hs.map tupH)/\Ex h h':=by
 have hb:=J0
 have hl:=ok.few
 have h6:¬(6:Int)<(hs.length:Int):=by omega
 rw[Jmc]
 simp! [Jd7,Jd8,Jd9,Jea,J3c,isI,Jxj hi,Joh,hi,Zh,h6,decide_false]
 refine WR.mono (Qh (xs:=hs.map tupH) (chk:=λ h2=>h2[i]?=some (.lst (hs.map tupH))) (f:=λ _=>.bl true) (h:=h) ?_ ?_ ?_ ?_) ?_
 ·simp! [JM,hi]
 ·simp only[Zh];omega
 ·exact λ h2 q=>q _ _ hi
 ·intro v hv h2 q
  obtain⟨a,ha,rfl⟩:=ZB.mp hv
  simp! [Jcg,Z0,Zbk,Zat,Za5,ZbB]
  exact Jqh (ok.each a ha)
 ·rintro v h1 ⟨rfl,g,rfl⟩
  refine WR.of_eq (all_map (f:=λ _=>true) J1) ?_
  have:((hs.map tupH).all λ _=>true)=true:=by simp
  simp! [this,Jeb,Jec]
  have x1:Ex h (h++IO.lst (List.map (λ x=>IV.bl true) (hs.map tupH))::g):=.cons ..
  refine WR.mono (Jof (x1.get hi) hl ok.tog) ?_
  rintro v h2 ⟨rfl,x2⟩
  simp! [true_and]
  have hi2:=x2.get (x1.get hi)
  refine WR.mono (Qh (xs:=hs.map tupH) (chk:=λ h3=>h3[i]?=some (.lst (hs.map tupH))) (f:=λ x=>x) (h:=h2) ?_ ?_ ?_ ?_) ?_
  ·simp! [JM,hi2]
  ·simp only[Zh];omega
  ·exact λ h2 q=>q _ _ hi2
  ·intro v hv h3 q
   obtain⟨a,ha,rfl⟩:=ZB.mp hv
   simp! [Jch,tupH,Z7,Zbc]
   exact⟨by omega,.refl _⟩
  ·rintro v h3 ⟨rfl,g3,rfl⟩
   simp only[Jty,J1,exists_eq_left,exists_eq_left',IV.bl.injEq,IV.int.injEq,IV.ref.injEq,IV.str.injEq,IO.lst.injEq,IV.tup.injEq,ZaD,Zcn,ZbX,reduceCtorEq,eq_self,true_implies,false_implies,implies_true,and_true,true_and,and_false,false_and,ZbA,Zbr,ZU,Y2,Yy,Y3,Yz,Y0,Y1,V7,V6,V9,QZ,V8,Vw,Xh,YA,JX,Qi,Q5,Qd,Va,YD,YB,YC,List.map_id']
   exact x1.trans (x2.trans (.cons ..))
theorem Jqr {due gap:Int}(h1:1<=due)(h2:due<=gap):XT (k+3) [.int due,.int gap] h=.ok (.int due) h:=by
 refine Jv ?_
 rw[Jqd]
 have:¬gap<due:=by omega
 simp! [Jgz,Jg0,Jg1,J3c,isI,Jfc,decide_eq_true h1,decide_eq_false this]
def wfs (name:Str)(gap len due late:Int)(hs:List IV):List (Str×IV):=[("name",.str name),("gap",.int gap),("length",.int len),("due",.int due),("late",.int late),("hold_tuples",.tup hs)]
section
variable (a b c d e f:IV)
theorem put0:putI "name" a ([]:List (Str×IV))=([("name",a)]:List (Str×IV)):=by kernel_rfl
theorem put1:putI "gap" b ([("name",a)]:List (Str×IV))=([("name",a),("gap",b)]:List (Str×IV)):=by kernel_rfl
theorem put2:putI "length" c ([("name",a),("gap",b)]:List (Str×IV))=([("name",a),("gap",b),("length",c)]:List (Str×IV)):=by kernel_rfl
theorem put3:putI "due" d ([("name",a),("gap",b),("length",c)]:List (Str×IV))=([("name",a),("gap",b),("length",c),("due",d)]:List (Str×IV)):=by kernel_rfl
theorem put4:putI "late" e ([("name",a),("gap",b),("length",c),("due",d)]:List (Str×IV))=([("name",a),("gap",b),("length",c),("due",d),("late",e)]:List (Str×IV)):=by kernel_rfl
theorem put5:putI "hold_tuples" f ([("name",a),("gap",b),("length",c),("due",d),("late",e)]:List (Str×IV))=([("name",a),("gap",b),("length",c),("due",d),("late",e),("hold_tuples",f)]:List (Str×IV)):=by kernel_rfl
variable {name:Str}{gap len due late:Int}{hs:List IV}
theorem fl0:(wfs name gap len due late hs).lookup ("name":Str)=some (.str name):=by kernel_rfl
theorem fl1:(wfs name gap len due late hs).lookup ("gap":Str)=some (.int gap):=by kernel_rfl
theorem fl2:(wfs name gap len due late hs).lookup ("length":Str)=some (.int len):=by kernel_rfl
theorem fl3:(wfs name gap len due late hs).lookup ("due":Str)=some (.int due):=by kernel_rfl
theorem fl4:(wfs name gap len due late hs).lookup ("late":Str)=some (.int late):=by kernel_rfl
theorem fl5:(wfs name gap len due late hs).lookup ("hold_tuples":Str)=some (.tup hs):=by kernel_rfl
theorem flh:(wfs name gap len due late hs).lookup ("held":Str)=none:=by kernel_rfl
end
theorem Jtp {name:Str}{gap len due late:Int}{dv hv:IV}{hs:List IV}{w:Nat}(hw:h[w]?=some (.ins "Work" []))(hn:IsNm name)(hg:1<=gap)(hl:1<=len)(ht:0<=late)
  (hd:∀h1,XT (k+4) [dv,.int gap] h1=.ok (.int due) h1)(hh:∀h1:IH,(∀(j:Nat)(o:IO),j≠w->h[j]?=some o->h1[j]?=some o)->WR (XU (k+4) [hv,.int len] h1) λ v h2=>v=.tup hs/\Ex h1 h2) :
  WR (Jbh (k+5) [.ref w,.str name,.int gap,.int len,dv,.int late,hv] h) λ v h'=>v=.non/\∃g,h'=h.set w (.ins "Work" (wfs name gap len due late hs))++g:=by
 rw[Jl6]
 refine xfin (xseq (xif (xb (xb (xb (WR.of_eq (arg1 rfl) (WR.mono (Jiy hn) ?_)))))))
 rintro v h1 ⟨rfl,g1,rfl⟩
 have lw:=JB hw
 have s1:∀{o:IO},(h++g1).set w o=h.set w o++g1:=by intro o;rw[Zav (h:=lw)]
 have at1:∀{o:IO},(h.set w o++g1)[w]?=some o:=by
  intro o
  rw[Z9 (by rw[Zbn];exact lw),ZG lw]
 have s2:∀{o o':IO},(h.set w o++g1).set w o'=h.set w o'++g1:=by intro o o';rw[Zav (h:=by rw[Zbn];exact lw),ZdS]
 have ok:∀{σ:ISt}{e1 e2:E1}{a b:Int}{hh:IH},e1 σ hh=.ok (.int a) hh->e2 σ hh=.ok (.int b) hh->b<=a->JC (Jg tru (Jm (Vq (k+4)) [] (Jb e1 (Jb e2 Jd)))) σ hh=.ok false hh:=λ h1 h2 l=>okc (notE (truE (Qj (arg2 h1 h2) (Jfc _ _)))) (by rw[decide_eq_true l];rfl)
 refine WR.of_eq rfl (WR.of_eq rfl ⟨(λ z=>by cases z),λ _=>xnil (xseq (xiff (ok rfl rfl hg) (xnil (xseq (xiff (ok rfl rfl hl) (xnil (xseq (xiff (ok rfl rfl ht) (xnil (xseq (Vp rfl rfl (grow hw) (by decide) ?_)))))))))))⟩)
 rw[s1,put0]
 refine xseq (Vp rfl rfl at1 (by show(1:Nat)<1000;decide) ?_)
 rw[s2,put1]
 refine xseq (Vp rfl rfl at1 (by show(2:Nat)<1000;decide) ?_)
 rw[s2,put2]
 refine xseq (Vp (Qj (arg2 rfl rfl) (hd _)) rfl at1 (by show(3:Nat)<1000;decide) ?_)
 rw[s2,put3]
 refine xseq (Vp rfl rfl at1 (by show(4:Nat)<1000;decide) ?_)
 rw[s2,put4]
 unfold Jd1
 rw[VQ]
 refine xb (WR.of_eq (arg2 rfl rfl) (WR.mono (hh _ λ j o hj e=>?_) ?_))
 ·refine grow ?_
  rw[ZC (ZK hj)]
  exact e
 ·rintro v h2 ⟨rfl,g2,rfl⟩
  refine WR.of_eq rfl ⟨w,_,_,rfl,grow at1,by show(5:Nat)<1000;decide,rfl,g1++g2,?_⟩
  rw[Zav (h:=JB at1),s2,put5,ZQ]
  rfl
theorem Jza {name:Str}{gap len due late:Int}{dv hv:IV}{hs:List IV}(hn:IsNm name)(hg:1<=gap)(hl:1<=len)(ht:0<=late)
  (hd:∀h1,XT (k+4) [dv,.int gap] h1=.ok (.int due) h1)(hh:∀h1:IH,(∀(j:Nat)(o:IO),h[j]?=some o->h1[j]?=some o)->WR (XU (k+4) [hv,.int len] h1) λ v h2=>v=.tup hs/\Ex h1 h2) :
  WR (Jbh (k+5) [.ref h.length,.str name,.int gap,.int len,dv,.int late,hv] (h++[.ins "Work" []])) λ v h'=>v=.non/\∃g,h'=h++.ins "Work" (wfs name gap len due late hs)::g:=by
 refine WR.mono (Jtp Jj hn hg hl ht hd λ h1 q=>hh h1 λ j o e=>q j o (by have:=JB e;omega) (grow e)) ?_
 rintro v h' ⟨rfl,g,rfl⟩
 exact⟨rfl,g,by rw[Xd];simp⟩
end
end
section
variable {k:Nat}{h:IH}
theorem Jhu {name:Str}{gap len due late:Int}{hs:List IV}{w:Nat}(hw:h[w]?=some (.ins "Work" (wfs name gap len due late hs))):Jda (k+1) [.ref w] h=.ok (.ref h.length) (h++[.lst hs]):=by
 refine Jv ?_
 rw[Jl5]
 simp! [Jd0,JY hw,fl5]
end
structure WD where
 name:Str
 gap:Int
 len:Int
 due:Int
 late:Int
def IsW (h:IH)(v:IV)(d:WD):Prop:=∃i hs,v=.ref i/\h[i]?=some (.ins "Work" (wfs d.name d.gap d.len d.due d.late hs))
theorem IsW.kp {h h':IH}{v:IV}{d:WD}(k:Kp h h')(w:IsW h v d):IsW h' v d:=by
 obtain⟨i,hs,e,q⟩:=w
 exact⟨i,hs,e,k _ _ q⟩
structure AllW (h:IH)(vs:List IV)(ds:List WD):Prop where
 len:vs.length=ds.length
 at_:∀(i:Nat) v d,vs[i]?=some v->ds[i]?=some d->IsW h v d
theorem AllW.kp {h h':IH}{vs:List IV}{ds:List WD}(k:Kp h h')(w:AllW h vs ds):AllW h' vs ds:=⟨w.len,λ i v d a b=>(w.at_ i v d a b).kp k⟩
theorem AllW.of {h:IH}{vs:List IV}{ds:List WD}(w:AllW h vs ds){v:IV}(hv:v∈vs):∃d∈ds,IsW h v d:=by
 obtain⟨i,hi,rfl⟩:=Zau.mp hv
 have hi':i<ds.length:=by rw[<- w.len];exact hi
 exact⟨ds[i],Zz hi',w.at_ i _ _ (Zb hi) (Zb hi')⟩
def fOf (f:Str)(h:IH)(v:IV):IV:=(VC f v h).getD .non
theorem AllW.mapF {h:IH}{vs:List IV}{ds:List WD}(w:AllW h vs ds){F:IV->IV}{g:WD->IV}(hf:∀(i:Nat) (d:WD) hs,h[i]?=some (.ins "Work" (wfs d.name d.gap d.len d.due d.late hs))->F (.ref i)=g d):vs.map F=ds.map g:=by
 refine ZbT λ i=>?_
 rw[Zt,Zt]
 by_cases hi:i<vs.length
 ·have hi':i<ds.length:=by rw[<- w.len];exact hi
  rw[Zb hi,Zb hi']
  obtain⟨j,hs,e,q⟩:=w.at_ i _ _ (Zb hi) (Zb hi')
  simp only[Option.map_some,ZaD]
  rw[e,hf j _ hs q]
 ·have hi':¬i<ds.length:=by rw[<- w.len];exact hi
  rw[Zbg (by omega),Zbg (by omega)]
  rfl
section
variable {k:Nat}{h:IH}
theorem Jvb:Jwn ["Work"] (.ins "Work")=some true:=by kernel_rfl
theorem Jmn {vs:List IV}{ds:List WD}{i:Nat}(hi:h[i]?=some (.lst vs))(w:AllW h vs ds)(nd:(ds.map (·.name)).Nodup)(hl:ds.length<=20) :
  WR (Jdg (k+1) [.ref i] h) λ v h'=>v=.tup vs/\Ex h h':=by
 have hb:=J0
 have wl:=w.len
 rw[Jmd]
 simp! [Jed,Jee,Jxj hi]
 refine WR.mono (Qh (h:=h) (xs:=vs) (chk:=λ h'=>h'[i]?=some (.lst vs)) (f:=λ _=>.bl true) ?_ (by omega) (λ h2 q=>q _ _ hi) ?_) ?_
 ·simp! [JM,hi]
 ·intro v hv h2 q
  obtain⟨d,_,j,hs,rfl,e⟩:=w.of hv
  have ty:tyI (.ref j) h2=some (.ins "Work"):=by simp[tyI,q _ _ e]
  simp! [Jci,ty,Jvb]
  exact .refl _
 ·rintro _ _ ⟨rfl,g,rfl⟩
  have x1:Ex h (h++L3.IO.lst (vs.map λ _=>.bl true)::g):=.cons _ _ _
  rw[all_map (f:=λ _=>true) J1]
  generalize h++L3.IO.lst (vs.map λ _=>.bl true)::g=h1 at x1
  have at1:(vs.all λ _=>true)=true:=by simp
  simp! [at1,Jef,Jtv]
  have w1:=w.kp x1.kp
  have nm:=w1.mapF (F:=fOf "name" h1) (g:=λ d=>.str d.name) λ j d hs e=>by rw[fOf,JY e,fl0];rfl
  refine WR.mono (Qh (h:=h1) (xs:=vs) (chk:=λ h'=>h'[i]?=some (.lst vs)) (f:=fOf "name" h1) ?_ (by omega) (λ h2 q=>q _ _ (x1.get hi)) ?_) ?_
  ·simp! [JM,x1.get hi]
  ·intro v hv h2 q
   obtain⟨d,_,j,hs,rfl,e⟩:=w1.of hv
   simp! [Jcj,JY (q _ _ e),fl0,fOf,JY e,ZdF]
   exact .refl _
  ·rintro _ _ ⟨rfl,g2,rfl⟩
   rw[nm]
   have em:ds.map (λ d=>IV.str d.name)=(ds.map (·.name)).map IV.str:=by simp
   rw[em]
   have x2:Ex h1 (h1++L3.IO.lst ((ds.map (·.name)).map IV.str)::g2):=.cons _ _ _
   refine⟨_,rfl,_,J1,ds.map (·.name),Jkq _,by rw[Zh];unfold Zcb;omega,?_⟩
   rw[Jlv nd _ (Zl _)]
   simp! [Joh,x2.get (x1.get hi),Zh,wl,decide_true,Jeg,Jty]
   exact x1.trans x2
def rup (top bottom:Int):Int:=(top+bottom-1)/bottom
def topD (ds:List WD):Int:=if ds.map (·.due)=[] then 0 else JL (λ i=>(ds.map (·.due)).getD i 0) (ds.map (·.due)).length
def Joo (ds:List WD):Int:=(ds.map λ d=>rup (topD ds+d.late) d.gap).sum
def rOf (T:Int)(h:IH)(v:IV):IV:=match VC "late" v h,VC "gap" v h with
 | some (.int l),some (.int g)=>.int (rup (T+l) g)
 | _,_=>.non
theorem Js5 {a b:Int}(hb:0<b)(hl:b.natAbs.log2<9000):Jdh (k+1) [.int a,.int b] h=.ok (.int (rup a b)) h:=by
 refine Jv ?_
 rw[Jme]
 simp! [Jeh,hb,hl,rup]
theorem Jt6 {vs:List IV}{ds:List WD}(w:AllW h vs ds)(hl:ds.length<=20)(hg:∀d∈ds,0<d.gap/\d.gap.natAbs.log2<9000) :
  WR (Je0 (k+2) [.tup vs] h) λ v h'=>v=.int (Joo ds)/\Ex h h':=by
 have hb:=J0
 have wl:=w.len
 rw[Jns]
 simp! [Jfh,J0k]
 have dm:=w.mapF (F:=fOf "due" h) (g:=λ d=>.int d.due) λ j d hs e=>by rw[fOf,JY e,fl3];rfl
 refine WR.mono (Qh (h:=h) (xs:=vs) (chk:=λ _=>True) (f:=fOf "due" h) ?_ (by omega) (λ _ _=>trivial) ?_) ?_
 ·simp! [true_and]
 ·intro v hv h2 q
  obtain⟨d,_,j,hs,rfl,e⟩:=w.of hv
  simp! [Jc4,JY (q _ _ e),fl3,fOf,JY e,ZdF]
  exact .refl _
 ·rintro _ _ ⟨rfl,g,rfl⟩
  rw[dm]
  have em:ds.map (λ d=>IV.int d.due)=(ds.map (·.due)).map IV.int:=by simp
  rw[em]
  have x1:Ex h (h++L3.IO.lst ((ds.map (·.due)).map IV.int)::g):=.cons _ _ _
  refine⟨_,rfl,_,J1,_,Vd _,?_⟩
  have et:maxD (ds.map (·.due)) (.int 0)=.int (topD ds):=by
   unfold maxD topD
   split<;>rfl
  rw[et]
  generalize h++L3.IO.lst ((ds.map (·.due)).map IV.int)::g=h1 at x1
  have w1:=w.kp x1.kp
  simp! [Jfi]
  have rm:=w1.mapF (F:=rOf (topD ds) h1) (g:=λ d=>.int (rup (topD ds+d.late) d.gap)) λ j d hs e=>by rw[rOf,JY e,JY e,fl4,fl1]
  refine WR.mono (Qh (h:=h1) (xs:=vs) (chk:=λ _=>True) (f:=rOf (topD ds) h1) ?_ (by omega) (λ _ _=>trivial) ?_) ?_
  ·simp! [true_and]
  ·intro v hv h2 q
   obtain⟨d,hd,j,hs,rfl,e⟩:=w1.of hv
   have e2:=q _ _ e
   simp only[Z0,Zbk,Zat,Za5,ZbB]
   simp! [Jc5,JY e2,fl4,fl1,Js5 (hg d hd).1 (hg d hd).2]
   exact⟨by rw[rOf,JY e,JY e,fl4,fl1],.refl _⟩
  ·rintro _ _ ⟨rfl,g2,rfl⟩
   rw[rm]
   have em2:ds.map (λ d=>IV.int (rup (topD ds+d.late) d.gap))=(ds.map λ d=>rup (topD ds+d.late) d.gap).map IV.int:=by simp
   rw[em2]
   simp! [Jtx,J1,Vd]
   exact⟨rfl,x1.trans (.cons _ _ _)⟩
abbrev dfs (vs:List IV):List (Str×IV):=[("works",.tup vs)]
theorem dp0 {a:IV}:putI "works" a ([]:List (Str×IV))=([("works",a)]:List (Str×IV)):=by kernel_rfl
theorem dl0 {a:IV}:(([("works",a)]:List (Str×IV))).lookup ("works":Str)=some a:=by kernel_rfl
theorem dlw {a:IV}:(([("works",a)]:List (Str×IV))).lookup ("work":Str)=none:=by kernel_rfl
theorem Jrv {vs:List IV}{ds:List WD}{i:Nat}(hi:h[i]?=some (.lst vs))(w:AllW h vs ds)(nd:(ds.map (·.name)).Nodup)(hl:ds.length<=12)(hg:∀d∈ds,0<d.gap/\d.gap.natAbs.log2<9000)(hc:Joo ds<=80) :
  WR (Xn (k+3) [.ref h.length,.ref i] (h++[.ins "Duty" []])) λ v h'=>v=.non/\∃g,h'=h++.ins "Duty" (dfs vs)::g:=by
 have wl:=w.len
 rw[Jl2]
 simp! [Jdv,VQ]
 refine WR.mono (Jmn (grow hi) (w.kp (Ex.one h _).kp) nd (by omega)) ?_
 rintro _ _ ⟨rfl,g1,rfl⟩
 refine⟨_,_,_,rfl,grow Jj,by decide,?_⟩
 rw[dp0,ZQ,ZV,Zac,Xe]
 simp! [Jdw,JY (J1 (h:=h)),dl0,wl]
 refine⟨λ q=>?_,λ _=>?_⟩
 ·rw[decide_eq_true_eq] at q
  omega
 simp! [Jdx,JY (J1 (h:=h)),dl0]
 refine WR.mono (Jt6 (w.kp (Ex.cons h _ _).kp) (by omega) hg) ?_
 rintro _ _ ⟨rfl,g2,rfl⟩
 simp! [true_and]
 refine⟨λ q=>?_,λ _=>⟨g1++g2,by simp⟩⟩
 rw[decide_eq_true_eq] at q
 omega
theorem Jg8 {vs:List IV}{D:Nat}{n:Int}{x:IV}(hD:h[D]?=some (.ins "Duty" (dfs vs)))(hx:atI vs n=some x):Jc9 (k+1) [.ref D,.int n] h=.ok x h:=by
 refine Jv ?_
 rw[Jl4]
 simp! [Jdz,JY hD,dl0,hx]
end
theorem J2n {a b m:Int}(hb:0<b)(h:a<=m*b):rup a b<=m:=by
 unfold rup
 have:(a+b-1)/b<m+1:=by
  rw[Int.ediv_lt_iff_lt_mul hb,Int.add_mul]
  omega
 omega
theorem Jw9 (m:Int):∀l:List Int,(∀x∈l,x<=m)->l.sum<=l.length*m
 | [],_=>by simp
 | x::l,q=>by
  have:=Jw9 m l λ y hy=>q y (Zm _ hy)
  have:=q x (Z3 ..)
  rw[Zd3,Z7,Int.natCast_add,Int.add_mul]
  simp
  omega
theorem Jkc {a b K:Nat}(h:a<=b)(hb:b.log2<K):a.log2<K:=by
 by_cases ha:a=0
 ·subst ha
  exact Nat.lt_of_le_of_lt (ZT _) hb
 ·have hb0:b≠0:=by omega
  rw[Nat.log2_lt ha]
  exact Nat.lt_of_le_of_lt h ((Nat.log2_lt hb0).mp hb)
abbrev RH:=WD×List Hd
def rd:RH:=⟨⟨⟨#[]⟩,0,0,0,0⟩,[]⟩
abbrev wo (r:RH):IO:=.ins "Work" (wfs r.1.name r.1.gap r.1.len r.1.due r.1.late (r.2.map tupH))
structure AllH (h:IH)(vs:List IV)(rs:List RH):Prop where
 len:vs.length=rs.length
 at_:∀(i:Nat) v r,vs[i]?=some v->rs[i]?=some r->∃j,v=.ref j/\h[j]?=some (wo r)
theorem AllH.kp {h h':IH}{vs:List IV}{rs:List RH}(k:Kp h h')(w:AllH h vs rs):AllH h' vs rs:=⟨w.len,λ i v r a b=>let ⟨j,e,g⟩:=w.at_ i v r a b;⟨j,e,k _ _ g⟩⟩
theorem AllH.w {h:IH}{vs:List IV}{rs:List RH}(w:AllH h vs rs):AllW h vs (rs.map (·.1)):=by
 refine⟨by rw[Zh];exact w.len,λ i v d a b=>?_⟩
 rw[Zt] at b
 cases er:rs[i]? with
 | none=>rw[er] at b;cases b
 | some r =>
  rw[er] at b
  cases b
  obtain⟨j,e,g⟩:=w.at_ i v r a er
  exact⟨j,_,e,g⟩
theorem AllH.get {h:IH}{vs:List IV}{rs:List RH}(w:AllH h vs rs){n:Nat}{r:RH}(e:rs[n]?=some r):∃j,vs[n]?=some (.ref j)/\h[j]?=some (wo r):=by
 have hn:n<vs.length:=by rw[w.len];exact(Zk.mp e).1
 obtain⟨j,e1,g⟩:=w.at_ n _ r (Zb hn) e
 exact⟨j,by rw[Zb hn,e1],g⟩
structure F8 (unit:Int)(r:RH):Prop where
 nm:IsNm r.1.name
 g1:unit<=r.1.gap
 g2:r.1.gap<9*unit
 l1:1<=r.1.len
 d1:1<=r.1.due
 d2:r.1.due<=r.1.gap
 t1:0<=r.1.late
 t2:r.1.late<2*r.1.gap
 ok:HsOk r.1.len r.2
structure Gd (unit:Int)(rs:List RH):Prop where
 u1:1<=unit
 u2:unit<=10^40
 few:rs.length<=7
 f:∀r∈rs,F8 unit r
 nd:(rs.map λ r=>r.1.name).Nodup
theorem J0v {unit:Int}{rs:List RH}(G:Gd unit rs):Joo (rs.map (·.1))<=80:=by
 have hu:=G.u1
 have hf:=G.f
 have hl:=G.few
 have ht:topD (rs.map (·.1))<=9*unit:=by
  unfold topD
  split
  ·omega
  ·rename_i hne
   refine Jxe _ _ _ (by rw[Zh,Zh];cases rs with|nil=>exact absurd rfl hne|cons _ _=>simp) λ j hj=>?_
   rw[Zh,Zh] at hj
   have e:((rs.map (·.1)).map (·.due)).getD j 0=(rs[j]).1.due:=by
    rw[Zi,Zt,Zt,Zb hj];rfl
   have f:=hf _ (Zz hj)
   have f1:=f.d2
   have f2:=f.g2
   show((rs.map (·.1)).map (·.due)).getD j 0<=_
   rw[e]
   omega
 have:=Jw9 11 ((rs.map (·.1)).map λ d=>rup (topD (rs.map (·.1))+d.late) d.gap) λ x hx=>by
  obtain⟨d,hd,rfl⟩:=ZB.mp hx
  obtain⟨r,hr,rfl⟩:=ZB.mp hd
  have f:=hf r hr
  have f1:=f.g1
  have f2:=f.t2
  exact J2n (by omega) (by omega)
 rw[Zh,Zh] at this
 unfold Joo
 omega
theorem Gd.gl {unit:Int}{rs:List RH}(G:Gd unit rs):∀d∈rs.map (·.1),0<d.gap/\d.gap.natAbs.log2<9000:=λ d hd=>by
 obtain⟨r,hr,rfl⟩:=ZB.mp hd
 have f:=G.f r hr
 have f1:=f.g1
 have f2:=f.g2
 have u1:=G.u1
 have u2:=G.u2
 refine⟨by omega,Jkc (b:=9*10^40) ?_ (by decide +kernel)⟩
 have e:((10^40:Nat):Int)=10^40:=by decide +kernel
 clear G f
 generalize (10^40:Int)=y at *
 generalize (10^40:Nat)=z at *
 omega
def IsDu (h:IH)(D:Nat)(rs:List RH):Prop:=∃vs,h[D]?=some (.ins "Duty" (dfs vs))/\AllH h vs rs
theorem IsDu.kp {h h':IH}{D:Nat}{rs:List RH}(k:Kp h h')(w:IsDu h D rs):IsDu h' D rs:=let ⟨vs,a,b⟩:=w;⟨vs,k _ _ a,b.kp k⟩
section
variable {k:Nat}{h:IH}
theorem J3s {vs:List IV}{rs:List RH}{unit:Int}{i:Nat}(hi:h[i]?=some (.lst vs))(w:AllH h vs rs)(G:Gd unit rs) :
  WR (Xn (k+3) [.ref h.length,.ref i] (h++[.ins "Duty" []])) λ v h'=>v=.non/\Ex h h'/\IsDu h' h.length rs:=by
 have hl:=G.few
 refine WR.mono (Jrv hi w.w (by have:=G.nd;rwa [Za7]) (by rw[Zh];omega) G.gl (J0v G)) ?_
 rintro _ _ ⟨rfl,g,rfl⟩
 exact⟨rfl,.cons _ _ _,vs,J1,w.kp (Ex.cons _ _ _).kp⟩
end
section
seal L4.run L4.WS
section
variable {k:Nat}{h:IH}
theorem e45 (σ:ISt)(h:IH):Jc JE (eC (.int 10)) (eC (.int 45)) σ h=.ok (.int (10^45)) h:=Jv (by
 rw[Vn,Qe,Qe,V5]
 exact⟨by decide,rfl,rfl⟩)
theorem e30 (σ:ISt)(h:IH):Jc JE (eC (.int 10)) (eC (.int 30)) σ h=.ok (.int (10^30)) h:=Jv (by
 rw[Vn,Qe,Qe,V5]
 exact⟨by decide,rfl,rfl⟩)
theorem e18 (σ:ISt)(h:IH):Jc Jl (Jc JE (eC (.int 10)) (eC (.int 18))) (eC (.int 9)) σ h=.ok (.int 1000000000000000009) h:=Jv (by
 rw[Vn,Vn,Qe,Qe,V5]
 refine⟨by decide,?_⟩
 rw[Qe,Y4]
 exact⟨congrArg IV.int (by decide +kernel),rfl⟩)
theorem Jm5 (c:Int)(m:Nat)(hm:m<=40):WR (Ja3 (k+1) [.int c,.int m] h) λ v h'=>∃(i:Nat)(xs:List Int),v=.ref i/\h.length<=i/\h'[i]?=some (.lst (xs.map .int))/\xs.length=m/\(∀x∈xs,(0:Int)<=x/\x<10^45)/\Ex h h':=by
 have hb:=J0
 have p45:(0:Int)<10^45:=by decide +kernel
 have le:(1000000000000000009:Int)<=10^45:=by decide +kernel
 obtain⟨T,eT⟩:∃T:Int,∀σ h,Jc JE (eC (.int 10)) (eC (.int 30)) σ h=.ok (.int T) h:=⟨_,e30⟩
 obtain⟨G,eG,gG⟩:∃G:Int,(∀σ h,Jc Jl (Jc JE (eC (.int 10)) (eC (.int 18))) (eC (.int 9)) σ h=.ok (.int G) h)/\G=1000000000000000009:=⟨_,e18,rfl⟩
 obtain⟨F,eF,F0,Fl,Fe⟩:∃F:Int,(∀σ h,Jc JE (eC (.int 10)) (eC (.int 45)) σ h=.ok (.int F) h)/\0<F/\F.natAbs.log2<9000/\F=10^45:=⟨_,e45,p45,by decide +kernel,rfl⟩
 rw[<- Fe] at le ⊢
 clear Fe p45
 rw[Jka]
 refine xfin (xseq (xset (WR.of_eq (lstE rfl rfl) (xseq (xifd (geE rfl (eT _ _)) (λ _=>xseq (xset (WR.of_eq (subE rfl (eT _ _)) (xseq (xrng rfl (by omega) ?_))))) λ _=>xnil (xseq (xset (WR.of_eq (addE (modE rfl (eG _ _) (by omega)) rfl) (xseq (xrng (n:=m+2) (okc (addE rfl rfl) rfl) (by omega) ?_))))))))))
 ·refine Qs (λ n σ h'=>∃xs rest a b,h'=h++[.lst (xs.map IV.int)]/\σ=[some (.int c),some (.int (m:Int)),some (.ref h.length),some (.int rest),a,b]/\xs.length=n/\∀x∈xs,(0:Int)<=x/\x<F)
   (λ _ _ _ _=>trivial) ?_ ?_ ⟨[],_,_,_,rfl,rfl,rfl,by simp⟩
  ·rintro n hn _ _ ⟨xs,rest,a,b,rfl,rfl,lx,hx⟩
   rw[Qy] at hn
   have e1:=ZH rest (b:=F) (by omega)
   have e2:=ZD rest F0
   refine xnx rfl (xseq (Qt (QJ rfl Jj Vx (WR.of_eq (arg1 (modE rfl (eF _ _) F0)) (xapp Jj (by rw[Zh];omega) (xset (WR.of_eq (Q8 rfl (eF _ _) F0 Fl) ⟨xs++[rest%F],_,_,_,?_,rfl,by simp[lx],λ x hxx=>?_⟩)))))))
   ·rw[Xd]
    simp
   ·rw[ZS,Zy] at hxx
    rcases hxx with hxx|rfl
    ·exact hx x hxx
    ·exact⟨e1,e2⟩
  ·rintro _ _ ⟨xs,rest,a,b,rfl,rfl,lx,hx⟩
   rw[Qy] at lx
   exact xret (WR.of_eq rfl ⟨_,xs,rfl,Zl _,Jj,by omega,hx,.one _ _⟩)
 ·have s0:=ZH c (b:=G) (by omega)
  have s1:=ZD c (b:=G) (by omega)
  refine Qs (λ n σ h'=>∃xs num a b,h'=h++[.lst (xs.map IV.int)]/\σ=[some (.int c),some (.int (m:Int)),some (.ref h.length),a,b,some (.int num)]/\(0<=num/\num<2000000000000000000)/\xs.length=n/\∀x∈xs,(0:Int)<=x/\x<G)
   (λ _ _ _ _=>trivial) ?_ ?_ ⟨[],_,_,_,rfl,rfl,by omega,rfl,by simp⟩
  ·rintro n hn _ _ ⟨xs,num,a,b,rfl,rfl,hnum,lx,hx⟩
   rw[VH]
   rw[Qy] at hn
   have e1:=ZH (num*num+48271*num+(0+(n:Int))) (b:=G) (by omega)
   have e2:=ZD (num*num+48271*num+(0+(n:Int))) (b:=G) (by omega)
   refine xnx rfl (xseq (xset (WR.of_eq (modE (addE (addE (mulE rfl rfl (.inl (by omega))) (mulE rfl rfl (.inl (by decide)))) rfl) (eG _ _) (by omega)) (Qt (QJ rfl Jj Vx (WR.of_eq (arg1 rfl) (xapp Jj (by rw[Zh];omega) ⟨xs++[(num*num+48271*num+(0+(n:Int)))%G],_,_,_,?_,rfl,by omega,by simp[lx],λ x hxx=>?_⟩)))))))
   ·rw[Xd]
    simp
   ·rw[ZS,Zy] at hxx
    rcases hxx with hxx|rfl
    ·exact hx x hxx
    ·exact⟨e1,e2⟩
  ·rintro _ _ ⟨xs,num,a,b,rfl,rfl,hnum,lx,hx⟩
   rw[Qy] at lx
   refine xret ((VP ..).mpr (WR.of_eq rfl (WR.of_eq rfl (WR.of_eq rfl ((Jpv ..).mpr ⟨_,Jj,?_⟩)))))
   rw[show(some (2:Int))=some ((2:Nat):Int) from rfl,Jop,<-Zer]
   refine⟨_,xs.drop 2,rfl,by simp,Jj,by simp;omega,λ x hxx=>?_,(Ex.one _ _).trans (.one _ _)⟩
   have:=hx x (ZcV hxx)
   omega
end
end
section
variable {k:Nat}{h:IH}
mutual
theorem Juc:∀d:Zcw,d.canLay0=true->Zb3 d d=true
 | .none,_=>by simp[Zb3]
 | .bool _,_=>by simp[Zb3]
 | .int _,_=>by simp[Zb3]
 | .str _,_=>by simp[Zb3]
 | .list xs,q=>by
  rw[Zb3]
  exact Jha xs (by rw[Zap] at q;exact q)
 | .tuple xs,q=>by
  rw[Zb3]
  exact Jha xs (by rw[Zap] at q;exact q)
 | .dict _,q=>by rw[Zap] at q;cases q
theorem Jha:∀ds:List Zcw,Zaq ds=true->ZbP ds ds=true
 | [],_=>by rw[ZbP]
 | d::ds,q=>by
  rw[Zaq,Zn] at q
  rw[ZbP,Juc d q.1,Jha ds q.2]
  rfl
end
theorem Yv {i n:Nat}{xs:List IV}(e:h[i]?=some (.lst xs)):toD h (n+1) (.ref i)=(xs.mapM (toD h n)).map ZcQ:=by
 show(match h[i]? with|some (.lst xs)=>(xs.mapM (toD h n)).map ZcQ|_=>none)=_
 rw[e]
theorem Jss {f:IV->Option Zcw}{g:IV->Zcw}:∀{xs:List IV},(∀x∈xs,f x=some (g x))->xs.mapM f=some (xs.map g)
 | [],_=>rfl
 | x::xs,q=>by
  rw[ZbW,q x (Z3 ..),Jss λ y hy=>q y (Zm _ hy)]
  rfl
end
section
seal L4.run
section
variable {k:Nat}{h:IH}
theorem Jnz:(Zaw "abcdefghijklmnopqrstuvwxyz").cps.toList=(ZF 26).map (97+ ·):=by decide +kernel
theorem Jn0:(Zaw "abcdefghijklmnopqrstuvwxyz").length=26:=by decide +kernel
theorem Jsp {n:Int}(h0:0<=n)(h1:n<26){Q:IV->IH->Prop}:WR (Je (.str "abcdefghijklmnopqrstuvwxyz") (.int n) h) Q=Q (.str ⟨#[97+n.toNat]⟩) h:=by
 have hb:=J0
 have e:atI (Zaw "abcdefghijklmnopqrstuvwxyz").cps.toList n=some (97+n.toNat):=by
  rw[Jnz]
  refine Jnb h0 ?_
  rw[Zt,Zde (by omega)]
  rfl
 simp only[Je]
 rw[if_pos (by rw[Jn0];omega),e]
 rfl
theorem Jz7 (l m:List Nat):(⟨l.toArray⟩:Str)++(⟨m.toArray⟩:Str)=⟨(l++m).toArray⟩:=by
 show Str.append _ _=_
 unfold Str.append
 simp
theorem Yu (l:List Nat):(⟨l.toArray⟩:Str).length=l.length:=by simp[Zet]
theorem Jrw:(Zaw "")=(⟨([]:List Nat).toArray⟩:Str):=by decide +kernel
def wSz (c:Int):Int:=1+c%8
def wAt (c:Int):Int:=c/8%wSz c
def wB (c:Int):List Nat:=(ZF (wSz c).toNat).map λ j:Nat=>97+(c/(11+(j:Int)*(j:Int))%26).toNat
def wL (c:Int)(q:Nat):List Nat:=((wB c).take (wAt c).toNat++[97+((c/64+(q:Int))%26).toNat])++(wB c).drop ((wAt c).toNat+1)
def wd (c:Int)(q:Nat):Str:=⟨(wL c q).toArray⟩
theorem w_at (c:Int):0<wSz c/\wSz c<=8/\0<=wAt c/\wAt c<wSz c:=by
 have hs:0<wSz c/\wSz c<=8:=by unfold wSz;omega
 exact⟨hs.1,hs.2,ZH _ (by omega),ZD _ hs.1⟩
theorem Jxm (c:Int):(wB c).length=(wSz c).toNat:=by simp[wB]
theorem Jxn (c:Int)(q:Nat):(wL c q).length=(wSz c).toNat:=by
 have:=w_at c
 simp[wL,Jxm]
 omega
theorem Jtn (c:Int)(q:Nat):IsNm (wd c q):=by
 have hs:=w_at c
 refine⟨?_,?_,?_⟩
 ·rw[wd,Yu,Jxn];omega
 ·rw[wd,Yu,Jxn];omega
 ·intro x hx
  have hx:x∈wL c q:=by simpa [wd] using hx
  have hB:∀x∈wB c,97<=x/\x<=122:=λ x hx=>by
   obtain⟨j,_,rfl⟩:=ZB.mp hx
   have h1:=ZH (c/(11+(j:Int)*(j:Int))) (b:=26) (by decide)
   have h2:=ZD (c/(11+(j:Int)*(j:Int))) (b:=26) (by decide)
   omega
  have h1:=ZH (c/64+(q:Int)) (b:=26) (by decide)
  have h2:=ZD (c/64+(q:Int)) (b:=26) (by decide)
  simp only[wL,ZS,Zy] at hx
  rcases hx with(hx|rfl)|hx
  ·exact hB x (List.mem_of_mem_take hx)
  ·omega
  ·exact hB x (ZcV hx)
theorem Jxo {c:Int}{p q:Nat}(hp:p<26)(hq:q<26)(e:wd c p=wd c q):p=q:=by
 have e1:wL c p=wL c q:=by
  have:(wL c p).toArray=(wL c q).toArray:=congrArg Str.cps e
  simpa using this
 have h1:=ZH (c/64+(p:Int)) (b:=26) (by decide)
 have h2:=ZH (c/64+(q:Int)) (b:=26) (by decide)
 have e2:(97+((c/64+(p:Int))%26).toNat)=97+((c/64+(q:Int))%26).toNat:=by
  unfold wL at e1
  have:=List.append_cancel_right e1
  have:=List.append_cancel_left this
  simpa using this
 omega
def lOf (c:Int)(v:IV):IV:=match v with
 | .int j=>.str ⟨#[97+(c/(11+j*j)%26).toNat]⟩
 | _=>.non
theorem Jqz (l:List Nat):Qp (l.map λ x=>IV.str ⟨#[x]⟩)=some (Zbs ⟨l.toArray⟩):=by
 have:=Jkq (Zbs ⟨l.toArray⟩)
 rw[<- this]
 simp[Zbs]
 rfl
theorem Jy6 {l:List Nat}(hl:l.length<=8):JoinOk (Zaw "") (Zbs ⟨l.toArray⟩)=true:=by
 have hb:=J0
 have e0:(Zaw "").length=0:=by decide +kernel
 have:∀(m:List Nat) (a:Nat),(m.map λ x=>(⟨#[x]⟩:Str)).foldl (λ n (x:Str)=>n+x.length+(Zaw "").length) a=a+m.length:=by
  intro m
  induction m with
  | nil=>intro a;rfl
  | cons x m ih =>
   intro a
   rw[Z0,List.foldl_cons,ih,e0]
   simp[Zet]
   omega
 have e:(Zbs ⟨l.toArray⟩).foldl (λ n (x:Str)=>n+x.length+(Zaw "").length) 0=0+l.length:=this l 0
 unfold JoinOk Builtin.Str.tooLong
 rw[List.foldl_toArray]
 simp only[ZaC,decide_eq_false_iff_not]
 omega
theorem letE {σ:ISt}{h1:IH}{a b:E1}{n:Int}(ea:a σ h=.ok (.str "abcdefghijklmnopqrstuvwxyz") h1)(eb:b σ h1=.ok (.int n) h1)(n0:0<=n)(n1:n<26):Jc Je a b σ h=.ok (.str ⟨#[97+n.toNat]⟩) h1:=by
 rw[binE ea eb]
 exact Jv (by rw[Jsp n0 n1];exact⟨rfl,rfl⟩)
theorem slE {σ:ISt}{a:E1}{lo hi:O1}{x y:Str}{l u:Option Int}(ea:a σ h=.ok (.str x) h)(el:lo σ h=.ok l h)(eu:hi σ h=.ok u h)(z:x.length<=8)(e:Zem x l u=y):eSl slT a lo hi σ h=.ok (.str y) h:=by
 have hb:=J0
 refine Jv ((VP ..).mpr (WR.of_eq ea (WR.of_eq el (WR.of_eq eu ?_))))
 rw[J0n,e]
 exact⟨by omega,rfl,rfl⟩
theorem strE {σ:ISt}{a b:E1}{x y:List Nat}(ea:a σ h=.ok (.str ⟨x.toArray⟩) h)(eb:b σ h=.ok (.str ⟨y.toArray⟩) h)(z:x.length+y.length<=9):Jc Jl a b σ h=.ok (.str ⟨(x++y).toArray⟩) h:=by
 have hb:=J0
 rw[binE ea eb]
 refine Jv ?_
 rw[Y5,Jz7,Yu,Yu]
 exact⟨by omega,rfl,rfl⟩
theorem Jto (c:Int)(q:Nat):WR (Jcp (k+1) [.int c,.int q] h) λ v h'=>v=.str (wd c q)/\Ex h h':=by
 have hb:=J0
 have hs:=w_at c
 have bl:=Jxm c
 have sl:(⟨(wB c).toArray⟩:Str).length=(wB c).length:=Yu _
 rw[Jnw]
 refine xfin (xseq (xset (WR.of_eq rfl (xseq (xset (WR.of_eq (a:=.int (wSz c)) (addE rfl (modE rfl rfl (by decide))) (xseq (xset ((J0h (x:=Zaw "") (h1:=h) rfl Jyc).mpr (xb (WR.mono (Qh (h:=h) (xs:=rngI 0 (wSz c)) (chk:=λ _=>True) (f:=lOf c) ?_ (by rw[Qy];omega) (λ _ _=>trivial) ?_) ?_)))))))))))
 ·rw[VN]
  refine WR.of_eq (arg1 rfl) ?_
  rw[Xk]
  exact⟨by omega,rfl,rfl,rfl⟩
 ·intro x hx h2 k2
  obtain⟨n,hn,rfl⟩:=Zau.mp hx
  rw[VH,show(0+(n:Int))=(n:Int) by omega]
  rw[Qy] at hn
  have hn8:n<8:=by omega
  have sq:(n:Int)*(n:Int)<=49/\0<=(n:Int)*(n:Int):=by
   obtain rfl|rfl|rfl|rfl|rfl|rfl|rfl|rfl:n=0∨n=1∨n=2∨n=3∨n=4∨n=5∨n=6∨n=7:=by omega
   all_goals decide
  unfold Jc7
  exact WR.of_eq (letE rfl (modE (Q8 rfl (addE rfl (mulE rfl rfl (.inl (by omega)))) (by omega) (Jkc (b:=60) (by omega) (by decide))) rfl (by decide)) (ZH _ (by decide)) (ZD _ (by decide))) ⟨rfl,.refl _⟩
 ·rintro _ _ ⟨rfl,g,rfl⟩
  have em:(rngI 0 (wSz c)).map (lOf c)=(wB c).map λ x=>IV.str ⟨#[x]⟩:=by
   rw[wB,Za7]
   refine Zcc (by rw[Zh,Zh,Qy,Zb0];omega) λ i h1 h2=>?_
   rw[ZM,VH,ZM,Zds]
   simp[lOf]
  rw[em]
  have x1:Ex h (h++L3.IO.lst ((wB c).map λ x=>IV.str ⟨#[x]⟩)::g):=.cons _ _ _
  have g1:(h++L3.IO.lst ((wB c).map λ x=>IV.str ⟨#[x]⟩)::g)[h.length]?=some (.lst ((wB c).map λ x=>IV.str ⟨#[x]⟩)):=J1
  generalize h++L3.IO.lst ((wB c).map λ x=>IV.str ⟨#[x]⟩)::g=h1 at x1 g1
  have jn:Txt.join (Zaw "") (Zbs ⟨(wB c).toArray⟩)=⟨(wB c).toArray⟩:=by rw[Jrw];exact(StrLaws.glued_eq_join _ _).trans (PyProof.Rows.join_nil_signs _)
  have s1:Zem ⟨(wB c).toArray⟩ none (some (wAt c))=⟨((wB c).take (wAt c).toNat).toArray⟩:=by
   have:=beq_iff_eq.mp (PyProof.Rows.slice_closes_toL (x:=⟨(wB c).toArray⟩) (j:=wAt c) hs.2.2.1 (by rw[sl,bl];omega))
   rw[this]
   simp
  have s2:Zem ⟨(wB c).toArray⟩ (some (wAt c+1)) none=⟨((wB c).drop ((wAt c).toNat+1)).toArray⟩:=by
   have:=beq_iff_eq.mp (PyProof.Rows.slice_closes_fromL (x:=⟨(wB c).toArray⟩) (i:=wAt c+1) (by omega) (by rw[sl,bl];omega) rfl)
   rw[this]
   have e1:(wAt c+1).toNat=(wAt c).toNat+1:=by omega
   rw[e1,ZaY (by rw[ZcJ];show _<=((⟨(wB c).toArray⟩:Str).length-(wAt c+1)).toNat;rw[sl];simp;omega)]
  have l8:(⟨(wB c).toArray⟩:Str).length<=8:=by omega
  have t8:=List.length_take_le (wAt c).toNat (wB c)
  have d8:((wB c).drop ((wAt c).toNat+1)).length<=8-(wAt c).toNat-1:=by rw[ZcJ];omega
  refine WR.of_eq rfl (J0j.mpr ⟨_,g1,_,Jqz _,Jy6 (show(wB c).length<=8 by omega),?_⟩)
  rw[jn]
  refine xseq (xset (WR.of_eq (a:=.int (wAt c)) (modE (Q8 rfl rfl (by decide) (by decide)) rfl hs.1) (xret (WR.of_eq (strE (strE (slE rfl rfl rfl l8 s1) (letE rfl (modE (addE (Q8 rfl rfl (by decide) (by decide)) rfl) rfl (by decide)) (ZH _ (by decide)) (ZD _ (by decide))) ?_) (slE rfl rfl rfl l8 s2) ?_) ⟨rfl,x1⟩))))
  ·simp;omega
  ·simp;omega
end
end
section
seal L4.run
theorem at_x {xs:List Int}{n:Nat}(hn:n<xs.length):∃x,atI (xs.map IV.int) (n:Int)=some (.int x) :=
 ⟨xs[n],JH (by rw[Zt,Zb hn];rfl)⟩
theorem J3y {len:Int}{cand:List Hd}(hc:cand.length<=6)(each:∀a∈cand,IsNm a.1/\0<=a.2.1/\a.2.2<len)(tog:cand.Pairwise λ a b=>Tog b a):HsOk len (cand.filter λ a=>decide (a.2.1<a.2.2)):=by
 refine⟨ZO (Za3 _ _) hc,λ a ha=>?_,λ m n hm hn=>Zce.mp (tog.filter _) m n _ hn hm⟩
 obtain⟨h1,h2⟩:=ZaF.mp ha
 obtain⟨e1,e2,e3⟩:=each a h1
 exact⟨e1,e2,of_decide_eq_true h2,e3⟩
theorem all1 {α:Type}{P:α->Prop}{a:α}(h:P a):∀x∈[a],P x:=λ x hx=>by rw[Zy.mp hx];exact h
theorem allc {α:Type}{P:α->Prop}{a:α}{l:List α}(h:P a)(q:∀x∈l,P x):∀x∈a::l,P x:=List.forall_mem_cons.mpr ⟨h,q⟩
theorem pw1 {α:Type}{R:α->α->Prop}{a:α}:[a].Pairwise R:=.cons (λ _ h=>by cases h) .nil
theorem pw2 {α:Type}{R:α->α->Prop}{a b:α}(h:R a b):[a,b].Pairwise R:=.cons (all1 h) pw1
section
variable {k:Nat}{h:IH}
theorem Jyn {h h':IH}(k:Kp h h'):Ex h h':=by
 refine⟨h'.drop h.length,ZbT λ i=>?_⟩
 by_cases hi:i<h.length
 ·rw[Z9 hi,Zb hi]
  exact k i _ (Zb hi)
 ·rw[Z2 (by omega),List.getElem?_drop]
  congr 1
  omega
theorem Jv0 {i:Nat}{ms:List Int}(hi:h[i]?=some (.lst (ms.map .int)))(hl:ms.length<64):XG (.ref i) h=.ok (.ref h.length) (h++[.lst ((QQ ms).map .int)]):=by
 dsimp only[XG]
 rw[hi]
 dsimp only
 rw[if_pos (by rw[Zh];exact hl)]
 unfold srtI
 rw[Vd]
theorem J44 {ms:List Int}{len:Int}(hl:ms.length=6)(hm:∀x∈ms,0<=x/\x<len):∃p0 p1 p2 p3 p4 p5:Int,QQ ms=[p0,p1,p2,p3,p4,p5]/\0<=p0/\p0<=p1/\p1<=p2/\p2<=p3/\p3<=p4/\p4<=p5/\p5<len:=by
 have pw:=Jpc ms
 have l:(QQ ms).length=6:=by rw[QQ,List.length_mergeSort];exact hl
 have mem:∀x∈QQ ms,0<=x/\x<len:=λ x hx=>hm x (List.mem_mergeSort.mp hx)
 match QQ ms,l,pw,mem with
 | [p0,p1,p2,p3,p4,p5],_,pw,mem =>
  simp only[Zcy,Z4,ZN,or_false] at pw
  obtain⟨a,b,c,d,e,_⟩:=pw
  exact⟨p0,p1,p2,p3,p4,p5,rfl,(mem p0 (by simp)).1,a p1 (.inl rfl),b p2 (.inl rfl),c p3 (.inl rfl),d p4 (.inl rfl),e p5 rfl,(mem p5 (by simp)).2⟩
def J0z (v:IV):Bool:=match v with
 | .tup [_,.int s,.int e]=>decide (s<e)
 | _=>false
theorem Jr0 (cand:List Hd):(cand.map tupH).filter J0z=(cand.filter λ a=>decide (a.2.1<a.2.2)).map tupH:=by
 rw[List.filter_map]
 rfl
def way7 (one other third:Str)(p0 p1 p2 p3 p4 p5:Int):Nat->List Hd
 | 0=>[]
 | 1=>[(one,p0,p5)]
 | 2=>[(one,p0,p5),(other,p1,p4)]
 | 3=>[(other,p1,p2),(one,p0,p3)]
 | 4=>[(one,p0,p1),(other,p2,p5)]
 | 5=>[(one,p2,p4),(one,p0,p1)]
 | _=>[(other,p1,p4),(one,p0,p5),(third,p2,p3)]
theorem Jpk {one other third:Str}{p0 p1 p2 p3 p4 p5:Int}(n:Nat):(way7 one other third p0 p1 p2 p3 p4 p5 n).length<=6:=by
 match n with
 | 0|1|2|3|4|5|n+6=>simp[way7]
theorem J0c {one other third:Str}{p0 p1 p2 p3 p4 p5 len:Int}(n:Nat)(h1:IsNm one)(h2:IsNm other)(h3:IsNm third)(ne:one≠other)(n3:third≠one)(n4:third≠other)(a0:0<=p0)(a1:p0<=p1)(a2:p1<=p2)(a3:p2<=p3)(a4:p3<=p4)(a5:p4<=p5)(a6:p5<len):HsOk len ((way7 one other third p0 p1 p2 p3 p4 p5 n).filter λ a=>decide (a.2.1<a.2.2)):=by
 have b1:=ZbI a0 a1
 have b2:=ZbI b1 a2
 have b4:=ZbJ a5 a6
 have b3:=ZbJ a4 b4
 have c2:=ZbJ a3 b3
 have c1:=ZbJ a2 c2
 refine J3y (Jpk n) ?_ ?_
 ·match n with
  | 0=>exact λ _ h=>by cases h
  | 1=>exact all1 ⟨h1,a0,a6⟩
  | 2=>exact allc ⟨h1,a0,a6⟩ (all1 ⟨h2,b1,b4⟩)
  | 3=>exact allc ⟨h2,b1,c2⟩ (all1 ⟨h1,a0,b3⟩)
  | 4=>exact allc ⟨h1,a0,c1⟩ (all1 ⟨h2,b2,a6⟩)
  | 5=>exact allc ⟨h1,b2,b4⟩ (all1 ⟨h1,a0,c1⟩)
  | n+6=>exact allc ⟨h2,b1,b4⟩ (allc ⟨h1,a0,a6⟩ (all1 ⟨h3,b2,b3⟩))
 ·match n with
  | 0=>exact .nil
  | 1=>exact pw1
  | 2=>exact pw2 (.inr (.inr ⟨ZK ne,.inl ⟨a1,a5⟩⟩))
  | 3=>exact pw2 (.inr (.inr ⟨ne,.inr ⟨a1,a3⟩⟩))
  | 4=>exact pw2 (.inr (.inl a2))
  | 5=>exact pw2 (.inl a2)
  | n+6=>exact .cons (allc (.inr (.inr ⟨ne,.inr ⟨a1,a5⟩⟩)) (all1 (.inr (.inr ⟨n4,.inl ⟨a2,a4⟩⟩)))) (pw2 (.inr (.inr ⟨n3,.inl ⟨ZbI a1 a2,ZbI a4 a5⟩⟩)))
theorem xbin {f:IV->IV->IH->Res IV}{a b:E1}{x y:IV}{σ:ISt}{h1 h2:IH}{P:IV->IH->Prop}(ea:a σ h=.ok x h1)(eb:b σ h1=.ok y h2)(q:WR (f x y h2) P):WR (Jc f a b σ h) P:=by rw[binE ea eb];exact q
theorem QH {C:IH}{σ:ISt}{Pp s:Nat}{ps:List IV}{w:Str}{a b x y:Int}(gP:C[Pp]?=some (.lst ps))(e3:Ja 3 σ C=.ok (.ref Pp) C)(ew:Ja s σ C=.ok (.str w) C)(ea:atI ps a=some (.int x))(eb:atI ps b=some (.int y)) :
  J8 (Jb (Ja s) (Jb (Jc Je (Ja 3) (eC (.int a))) (Jb (Jc Je (Ja 3) (eC (.int b))) Jd))) σ C=.ok (tupH (w,x,y)) C:=tupE (arg3 ew (ixlE e3 rfl gP ea) (ixlE e3 rfl gP eb)) rfl
section
variable {C:IH}{X O Pp i0 i1 i2 i3 i4 i5 i6:Nat}{xs:List Int}{one other third:Str}{p0 p1 p2 p3 p4 p5 y8:Int}{a1 a2 a3 a4 a5 a6 a7 a8:Option IV}{N:ISt->IH->Prop}
def Wy (one other third:Str)(p0 p1 p2 p3 p4 p5:Int)(C:IH)(v:IV)(h':IH):Prop:=∃q n,v=.ref q/\C.length<=q/\h'[q]?=some (.lst (((way7 one other third p0 p1 p2 p3 p4 p5 n).filter λ a=>decide (a.2.1<a.2.2)).map tupH))/\Ex C h'
theorem Wy.mono {C D:IH}{v:IV}{h':IH}(w:Wy one other third p0 p1 p2 p3 p4 p5 D v h')(x:Ex C D):Wy one other third p0 p1 p2 p3 p4 p5 C v h':=let ⟨q,n,e,l,g,y⟩:=w;⟨q,n,e,ZO x.len l,g,x.trans y⟩
theorem Jyx (c0:C[i0]?=some (.lst []))(c1:C[i1]?=some (.lst [tupH (one,p0,p5)]))(c2:C[i2]?=some (.lst [tupH (one,p0,p5),tupH (other,p1,p4)]))(c3:C[i3]?=some (.lst [tupH (other,p1,p2),tupH (one,p0,p3)]))
  (c4:C[i4]?=some (.lst [tupH (one,p0,p1),tupH (other,p2,p5)]))(c5:C[i5]?=some (.lst [tupH (one,p2,p4),tupH (one,p0,p1)]))(c6:C[i6]?=some (.lst [tupH (other,p1,p4),tupH (one,p0,p5),tupH (third,p2,p3)]))(cO:C[O]?=some (.lst [.ref i0,.ref i1,.ref i2,.ref i3,.ref i4,.ref i5,.ref i6]))(hX:C[X]?=some (.lst (xs.map .int)))(e8:atI (xs.map IV.int) 8=some (.int y8)) :
  WS (Jd5 k [some (.ref X),a1,a2,a3,a4,a5,a6,a7,some (.ref O)] C) N (Wy one other third p0 p1 p2 p3 p4 p5 C):=by
 have hb:=J0
 have pick:∃(n m:Nat),atI [IV.ref i0,IV.ref i1,IV.ref i2,IV.ref i3,IV.ref i4,IV.ref i5,IV.ref i6] (y8%7)=some (.ref m)/\C[m]?=some (.lst ((way7 one other third p0 p1 p2 p3 p4 p5 n).map tupH)):=by
  have:y8%7=0∨y8%7=1∨y8%7=2∨y8%7=3∨y8%7=4∨y8%7=5∨y8%7=6:=by omega
  rcases this with e|e|e|e|e|e|e<;>rw[e]
  ·exact⟨0,i0,JX,c0⟩
  ·exact⟨1,i1,Qi,c1⟩
  ·exact⟨2,i2,Q5,c2⟩
  ·exact⟨3,i3,Qd,c3⟩
  ·exact⟨4,i4,Va,c4⟩
  ·exact⟨5,i5,JH (n:=5) rfl,c5⟩
  ·exact⟨6,i6,JH (n:=6) rfl,c6⟩
 obtain⟨n,m,em,gm⟩:=pick
 have ln:=Jpk (one:=one) (other:=other) (third:=third) (p0:=p0) (p1:=p1) (p2:=p2) (p3:=p3) (p4:=p4) (p5:=p5) n
 refine xret (WR.mono (Jk0 (h:=C) (xs:=(way7 one other third p0 p1 p2 p3 p4 p5 n).map tupH) (chk:=λ h'=>h'[m]?=some (.lst ((way7 one other third p0 p1 p2 p3 p4 p5 n).map tupH))) (p:=J0z) (f:=λ v=>v) ?_ (by rw[Zh];omega) (λ h2 q=>q _ _ gm) ?_ ?_) ?_)
 ·rw[JU]
  exact WR.of_eq (ixlE rfl (modE (ixlE rfl rfl hX e8) rfl (by decide)) cO em) ((JM _).mpr ⟨_,gm,rfl,rfl,rfl⟩)
 ·intro v hv h2 q
  obtain⟨a,_,rfl⟩:=ZB.mp hv
  unfold Jcf
  exact WR.of_eq (ltE (ixtE rfl rfl rfl) (ixtE rfl rfl rfl)) ⟨rfl,.refl _⟩
 ·intro v hv _ h2 q
  exact⟨rfl,.refl _⟩
 ·rintro _ _ ⟨rfl,g,rfl⟩
  refine⟨_,n,rfl,Zl _,?_,.cons _ _ _⟩
  rw[J1,List.map_id',Jr0]
theorem Jyw (B:Nat)(lB:B<=O)(c0:C[i0]?=some (.lst []))(c1:C[i1]?=some (.lst [tupH (one,p0,p5)]))(c2:C[i2]?=some (.lst [tupH (one,p0,p5),tupH (other,p1,p4)]))(c3:C[i3]?=some (.lst [tupH (other,p1,p2),tupH (one,p0,p3)]))
  (c4:C[i4]?=some (.lst [tupH (one,p0,p1),tupH (other,p2,p5)]))(c5:C[i5]?=some (.lst [tupH (one,p2,p4),tupH (one,p0,p1)]))(cO:C[O]?=some (.lst [.ref i0,.ref i1,.ref i2,.ref i3,.ref i4,.ref i5]))(gP:C[Pp]?=some (.lst [.int p0,.int p1,.int p2,.int p3,.int p4,.int p5]))(hX:C[X]?=some (.lst (xs.map .int)))(XO:X≠O)(e8:atI (xs.map IV.int) 8=some (.int y8))
  {D:IH}(xD:Ex D C)(lD:D.length<=O) :
  WS (Jd4 k [some (.ref X),a1,a2,some (.ref Pp),some (.str one),a5,some (.str other),some (.str third),some (.ref O)] C) N (Wy one other third p0 p1 p2 p3 p4 p5 D):=by
 have hb:=J0
 have ne:∀{i:Nat}{ys:List IV},C[i]?=some (.lst ys)->Nat.beq ys.length 6=false->O≠i:=λ e l z=>by
  rw[<- z,cO] at e
  cases e
  cases l
 refine xseq (Qt (QJ rfl cO Vx (WR.of_eq (arg1 (lstE (arg3 (QH gP rfl rfl rfl rfl) (QH gP rfl rfl rfl rfl) (QH gP rfl rfl rfl rfl)) rfl)) (xapp (grow cO) (by show(6:Nat)<_;omega) ?_))))
 have st:∀{i:Nat}{o o':L3.IO}{h:IH},h[i]?=some o->O≠i->(h.set O o')[i]?=some o:=λ e n=>by rw[ZC n];exact e
 have lO:=(Zk.mp cO).1
 refine WS.mono (Jyx (k:=k) (p0:=p0) (p1:=p1) (p2:=p2) (p3:=p3) (p4:=p4) (p5:=p5) (one:=one) (other:=other) (third:=third) (N:=N) (st (grow c0) (ne c0 rfl)) (st (grow c1) (ne c1 rfl)) (st (grow c2) (ne c2 rfl)) (st (grow c3) (ne c3 rfl)) (st (grow c4) (ne c4 rfl)) (st (grow c5) (ne c5 rfl)) (st Jj (by omega)) (by rw[ZG (by rw[Zo];omega)];rfl) (st (grow hX) (ZK XO)) e8) (λ _ _ z=>z) λ v h' w=>w.mono ?_
 exact Jyn λ j o e=>st (grow (xD.get e)) (by have:=(Zk.mp e).1;omega)
theorem Jyv (c0:C[i0]?=some (.lst []))(c1:C[i1]?=some (.lst [tupH (one,p0,p5)]))(c2:C[i2]?=some (.lst [tupH (one,p0,p5),tupH (other,p1,p4)]))(c3:C[i3]?=some (.lst [tupH (other,p1,p2),tupH (one,p0,p3)]))
  (cO:C[O]?=some (.lst [.ref i0,.ref i1,.ref i2,.ref i3]))(gP:C[Pp]?=some (.lst [.int p0,.int p1,.int p2,.int p3,.int p4,.int p5]))(hX:C[X]?=some (.lst (xs.map .int)))(e8:atI (xs.map IV.int) 8=some (.int y8)) :
  WS (Jd3 k [some (.ref X),a1,a2,some (.ref Pp),some (.str one),a5,some (.str other),some (.str third),some (.ref O)] C) N (Wy one other third p0 p1 p2 p3 p4 p5 C):=by
 have hb:=J0
 refine xseq (xset (xbin rfl (lstE (arg2 (lstE (arg2 (QH gP rfl rfl rfl rfl) (QH gP rfl rfl rfl rfl)) rfl) (lstE (arg2 (QH (grow gP) rfl rfl rfl rfl) (QH (grow gP) rfl rfl rfl rfl)) rfl)) rfl) ?_))
 refine(Jkx ..).mpr ⟨_,grow (grow (grow cO)),_,Jj,by simp;omega,?_⟩
 have xC:∀a b c d,Ex C (C++[a]++[b]++[c]++[d]):=λ a b c d=>(Ex.one _ _).trans ((Ex.one _ _).trans ((Ex.one _ _).trans (.one _ _)))
 have lX:=(Zk.mp hX).1
 exact Jyw (k:=k) (p0:=p0) (p1:=p1) (p2:=p2) (p3:=p3) (p4:=p4) (p5:=p5) (one:=one) (other:=other) (N:=N) 0 (ZT _) ((xC _ _ _ _).get c0) ((xC _ _ _ _).get c1) ((xC _ _ _ _).get c2) ((xC _ _ _ _).get c3) (grow (grow (grow Jj))) (grow (grow Jj)) Jj ((xC _ _ _ _).get gP) ((xC _ _ _ _).get hX) (by simp only[Zo];omega) e8 (xC _ _ _ _) (by simp only[Zo];omega)
theorem Jyu (gP:C[Pp]?=some (.lst [.int p0,.int p1,.int p2,.int p3,.int p4,.int p5]))(hX:C[X]?=some (.lst (xs.map .int)))(e8:atI (xs.map IV.int) 8=some (.int y8)) :
  WS (Jd2 k [some (.ref X),a1,a2,some (.ref Pp),some (.str one),a5,some (.str other),some (.str third),a8] C) N (Wy one other third p0 p1 p2 p3 p4 p5 C):=by
 refine xseq (xset (WR.of_eq (lstE (arg4 (lstE rfl rfl) (lstE (arg1 (QH (grow gP) rfl rfl rfl rfl)) rfl) (lstE (arg2 (QH (grow (grow gP)) rfl rfl rfl rfl) (QH (grow (grow gP)) rfl rfl rfl rfl)) rfl) (lstE (arg2 (QH (grow (grow (grow gP))) rfl rfl rfl rfl) (QH (grow (grow (grow gP))) rfl rfl rfl rfl)) rfl)) rfl) ?_))
 have xC:∀a b c d e,Ex C (C++[a]++[b]++[c]++[d]++[e]):=λ a b c d e=>(Ex.one _ _).trans ((Ex.one _ _).trans ((Ex.one _ _).trans ((Ex.one _ _).trans (.one _ _))))
 exact WS.mono (Jyv (k:=k) (p0:=p0) (p1:=p1) (p2:=p2) (p3:=p3) (p4:=p4) (p5:=p5) (one:=one) (other:=other) (N:=N) (grow (grow (grow (grow Jj)))) (grow (grow (grow Jj))) (grow (grow Jj)) (grow Jj) Jj ((xC _ _ _ _ _).get gP) ((xC _ _ _ _ _).get hX) e8) (λ _ _ z=>z) λ v h' w=>w.mono (xC _ _ _ _ _)
end
def mdOf (len:Int)(v:IV):IV:=match v with|.int x=>.int (x%len)|_=>.non
theorem Jui {X W:Nat}{xs:List Int}{ws:List Str}{len:Int}(hX:h[X]?=some (.lst (xs.map .int)))(lx:9<=xs.length)(hW:h[W]?=some (.lst (ws.map .str)))(lw:ws.length=3)(hw:∀x∈ws,IsNm x)(nd:ws.Nodup)(h1:1<=len) :
  WR (Jdc (k+1) [.ref X,.int len,.ref W] h) λ v h'=>∃q hs,v=.ref q/\h.length<=q/\h'[q]?=some (.lst (hs.map tupH))/\HsOk len hs/\Ex h h':=by
 have hb:=J0
 rw[Jl8]
 have l4:(xs.take 6).length=6:=by rw[ZaN];omega
 refine xfin (xseq (xset (xb (xb (WR.mono (Qh (h:=h++[L3.IO.lst ((xs.take 6).map IV.int)]) (xs:=(xs.take 6).map IV.int) (chk:=λ h'=>h'[h.length]?=some (.lst ((xs.take 6).map IV.int))) (f:=mdOf len) ?_ (by rw[Zh,l4];omega) (λ h2 q=>q _ _ Jj) ?_) ?_)))))
 ·rw[JU]
  refine(VP ..).mpr (WR.of_eq rfl (WR.of_eq rfl (WR.of_eq rfl ((Jpv ..).mpr ⟨_,hX,?_⟩))))
  rw[show(some (6:Int))=some ((6:Nat):Int) from rfl,Joq,<-List.map_take]
  exact(JM _).mpr ⟨_,Jj,rfl,rfl,rfl⟩
 ·intro v hv h2 q
  obtain⟨x,hx,rfl⟩:=ZB.mp hv
  unfold Jce
  exact WR.of_eq (modE rfl rfl (by omega)) ⟨rfl,.refl _⟩
 ·rintro _ _ ⟨rfl,g,rfl⟩
  have em:((xs.take 6).map IV.int).map (mdOf len)=((xs.take 6).map (· %len)).map IV.int:=by
   rw[Za7,Za7]
   rfl
  rw[em]
  have l5:((xs.take 6).map (· %len)).length=6:=by rw[Zh,l4]
  obtain⟨p0,p1,p2,p3,p4,p5,es,a0,a1,a2,a3,a4,a5,a6⟩:=J44 (ms:=(xs.take 6).map (· %len)) (len:=len) l5 λ x hx=>by
   obtain⟨y,_,rfl⟩:=ZB.mp hx
   exact⟨ZH _ (by omega),ZD _ (by omega)⟩
  generalize hh1:h++[L3.IO.lst ((xs.take 6).map IV.int)]=hA
  have xA:Ex h hA:=by rw[<- hh1];exact .one _ _
  refine WR.of_eq rfl (WR.of_eq ((Jv0 (ms:=(xs.take 6).map (· %len)) J1 (by omega)).trans (by rw[es])) ?_)
  have xB:Ex hA (hA++L3.IO.lst (((xs.take 6).map (· %len)).map IV.int)::g++[L3.IO.lst ([p0,p1,p2,p3,p4,p5].map IV.int)]):=(Ex.cons _ _ _).trans (.one _ _)
  have gP:(hA++L3.IO.lst (((xs.take 6).map (· %len)).map IV.int)::g++[L3.IO.lst ([p0,p1,p2,p3,p4,p5].map IV.int)])[(hA++L3.IO.lst (((xs.take 6).map (· %len)).map IV.int)::g).length]?=some (.lst [.int p0,.int p1,.int p2,.int p3,.int p4,.int p5]):=Jj
  generalize (hA++L3.IO.lst (((xs.take 6).map (· %len)).map IV.int)::g).length=Pp at gP ⊢
  generalize hA++L3.IO.lst (((xs.take 6).map (· %len)).map IV.int)::g++[L3.IO.lst ([p0,p1,p2,p3,p4,p5].map IV.int)]=hB at xB gP ⊢
  have xh:=xA.trans xB
  have hX2:=xh.get hX
  have hW2:=xh.get hW
  obtain⟨y6,e6⟩:=at_x (xs:=xs) (n:=6) (by omega)
  obtain⟨y7,e7⟩:=at_x (xs:=xs) (n:=7) (by omega)
  obtain⟨y8,e8⟩:=at_x (xs:=xs) (n:=8) (by omega)
  obtain⟨i,hi⟩:∃i:Nat,y6%3=i:=⟨(y6%3).toNat,by omega⟩
  obtain⟨j,hj⟩:∃j:Nat,(y6+(1+y7%2))%3=j:=⟨((y6+(1+y7%2))%3).toNat,by omega⟩
  obtain⟨l,hl⟩:∃l:Nat,(y6+2*(1+y7%2))%3=l:=⟨((y6+2*(1+y7%2))%3).toNat,by omega⟩
  have hi3:i<ws.length:=by omega
  have hj3:j<ws.length:=by omega
  have hl3:l<ws.length:=by omega
  have aw:∀n (hn:n<ws.length),atI (ws.map IV.str) (n:Int)=some (.str ws[n]):=λ n hn=>JH (by rw[Zt,Zb hn];rfl)
  have A1:=aw i hi3
  have A2:=aw j hj3
  have A3:=aw l hl3
  rw[<- hi] at A1
  rw[<- hj] at A2
  rw[<- hl] at A3
  have nn:∀{i j:Nat}(hi:i<ws.length)(hj:j<ws.length),i≠j->ws[i]≠ws[j]:=λ hi hj ne e=>ne ((ZcI nd).mp e)
  refine xseq (xset (WR.of_eq (ixlE rfl (modE (ixlE rfl rfl hX2 e6) rfl (by decide)) hW2 A1) ?_))
  refine xseq (xset (WR.of_eq (addE rfl (modE (ixlE rfl rfl hX2 e7) rfl (by decide))) ?_))
  refine xseq (xset (WR.of_eq (ixlE rfl (modE (addE (ixlE rfl rfl hX2 e6) rfl) rfl (by decide)) hW2 A2) ?_))
  refine xseq (xset (WR.of_eq (ixlE rfl (modE (addE (ixlE rfl rfl hX2 e6) (mulE rfl rfl (.inl (by decide)))) rfl (by decide)) hW2 A3) ?_))
  refine WS.mono (Jyu (k:=k) (p0:=p0) (p1:=p1) (p2:=p2) (p3:=p3) (p4:=p4) (p5:=p5) (N:=λ _ _=>False) gP hX2 e8) (λ _ _ z=>z.elim) ?_
  rintro v h' ⟨q,n,rfl,lq,gq,x'⟩
  have:=xh.len
  exact⟨q,_,rfl,by omega,gq,J0c (len:=len) n (hw _ (Zz hi3)) (hw _ (Zz hj3)) (hw _ (Zz hl3)) (nn hi3 hj3 (by omega)) (nn hl3 hi3 (by omega)) (nn hl3 hj3 (by omega)) a0 a1 a2 a3 a4 a5 a6,xh.trans x'⟩
end
end
section
seal L4.run
abbrev tp5 (r:RH)(q:Nat):List IV:=[.int r.1.gap,.int r.1.len,.int r.1.due,.int r.1.late,.ref q]
structure F7 (unit:Int)(r:RH):Prop where
 g1:unit<=r.1.gap
 g2:r.1.gap<8*unit
 l1:1<=r.1.len
 l2:r.1.len<=r.1.gap
 d1:1<=r.1.due
 d2:r.1.due<=r.1.gap
 t1:0<=r.1.late
 t2:r.1.late<=3*r.1.gap/2
 ok:HsOk r.1.len r.2
theorem Jz2 {ws:List Str}(hw:∀x∈ws,IsNm x):Zaq (ws.map PyData.str)=true:=by
 induction ws with
 | nil=>rfl
 | cons x xs ih =>
  have q:=hw x (Z3 ..)
  have e:Zap (.str x)=true:=by
   simp only[Zap]
   unfold PyData.strOk
   rw[<- Array.all_toList,Zbh]
   intro c hc
   have:=q.2.2 c hc
   simp only[decide_eq_true_eq]
   omega
  rw[Z0,Zaq,e,ih λ y hy=>hw y (Zm _ hy)]
  rfl
section
variable {k:Nat}{h:IH}
theorem Jod {W j:Nat}{ws:List Str}(hW:h[W]?=some (.lst (ws.map .str)))(hw:∀x∈ws,IsNm x)(hj:h[j]?=some (.lst [])):cNe (.ref W) (.ref j) h=.ok (.bl (!ws.isEmpty)) h:=by
 have e1:toD h 6 (.ref W)=some (.list (ws.map PyData.str)):=by
  rw[Yv hW,Jss (g:=λ v=>match v with|.str x=>.str x|_=>.none) λ x hx=>?_]
  ·simp
  ·obtain⟨y,_,rfl⟩:=ZB.mp hx
   rfl
 have e2:toD h 6 (.ref j)=some (.list []):=by
  rw[Yv hj]
  rfl
 have e3:Vb (.ref W) (.ref j) h=some ws.isEmpty:=by
  unfold Vb
  rw[e1,e2]
  dsimp only
  rw[if_pos ⟨by rw[Zap];exact Jz2 hw,by rw[Zap,Zaq]⟩,Zb3]
  cases ws with
  | nil=>rw[Zbk,ZbP];rfl
  | cons a as=>rw[Z0,ZbP];rfl;all_goals intros;simp_all
 unfold cNe
 have e4:Xc (.ref W) (.ref j)=none:=rfl
 rw[e4]
 dsimp only
 rw[e3]
theorem pk {n y:Int}(xs:List Int)(hn:(xs.length:Int)=n)(h0:0<n):∃x∈xs,atI (xs.map IV.int) (y%n)=some (.int x):=by
 have a:=ZH y (b:=n) (by omega)
 have b:=ZD y h0
 have l:(y%n).toNat<xs.length:=by omega
 exact⟨xs[(y%n).toNat],Zz l,Jnb a (by rw[Zt,Zb l];rfl)⟩
theorem Jvf {c unit:Int}{W:Nat}{ws:List Str}(hu:1<=unit)(hu2:unit<=10^40)(hW:h[W]?=some (.lst (ws.map .str)))(hw:∀x∈ws,IsNm x)(nd:ws.Nodup)(lw:ws=[]∨ws.length=3) :
  WR (Jdd (k+2) [.int c,.int unit,.ref W] h) λ v h'=>Ex h h'/\∃r q,F7 unit r/\v=.tup (tp5 r q)/\h.length<=q/\h'[q]?=some (.lst (r.2.map tupH))/\(ws=[]->r.2=[]):=by
 have hb:=J0
 rw[Jl9]
 refine xfin (xseq (xset (xb (WR.of_eq (arg2 rfl rfl) (WR.mono (Jm5 (k:=k) (h:=h) c 17 (by decide)) ?_)))))
 rintro _ h1 ⟨i,xs,rfl,_,hi,lx,hx,x1⟩
 have at_:∀n:Nat,n<17->∃x,0<=x/\atI (xs.map IV.int) (n:Int)=some (.int x):=λ n hn=>⟨xs[n],(hx _ (Zz _)).1,JH (by rw[Zt,Zb (by omega)];rfl)⟩
 obtain⟨y0,z0,e0⟩:=at_ 0 (by decide)
 obtain⟨y1,z1,e1⟩:=at_ 1 (by decide)
 obtain⟨y2,z2,e2⟩:=at_ 2 (by decide)
 obtain⟨y3,z3,e3⟩:=at_ 3 (by decide)
 obtain⟨y4,z4,e4⟩:=at_ 4 (by decide)
 obtain⟨y5,z5,e5⟩:=at_ 5 (by decide)
 obtain⟨y6,z6,e6⟩:=at_ 6 (by decide)
 obtain⟨y7,z7,e7⟩:=at_ 7 (by decide)
 clear at_ hx
 have b1:unit*1<=unit*(1+y0%7):=ZbD (by omega) (by omega)
 have b2:unit*(1+y0%7)<=unit*7:=ZbD (by omega) (by omega)
 have b3:=ZH y1 (b:=1+unit/2) (by omega)
 have b4:=ZD y1 (b:=1+unit/2) (by omega)
 refine xseq (xset (WR.of_eq (addE (mulE rfl (addE rfl (modE (ixlE rfl rfl hi e0) rfl (by decide))) (.inr (.inl (by omega)))) (modE (ixlE rfl rfl hi e1) (addE rfl (Q8 rfl rfl (by decide) (by decide))) (by omega))) ?_))
 obtain⟨g,eg,g1,g2⟩:∃g,unit*(1+y0%7)+y1%(1+unit/2)=g/\unit<=g/\g<8*unit:=⟨_,rfl,by omega,by omega⟩
 rw[eg]
 clear eg b1 b2 b3 b4
 have pg':(0:Int)<g:=by omega
 have d1:=ZH y2 (b:=g) (by omega)
 have d2:=ZD y2 pg'
 obtain⟨dd,hd,ed⟩:=pk (n:=2) (y:=y3) [0,y2%g] rfl (by decide)
 have hd:0<=dd/\dd<g:=by simp only[Z4,ZN,or_false] at hd;omega
 refine xseq (xset (WR.of_eq (subE rfl (pkE (arg2 rfl (modE (ixlE rfl rfl hi e2) rfl pg')) rfl (modE (ixlE rfl rfl (grow hi) e3) rfl (by decide)) ed)) ?_))
 have xA:Ex h1 (h1++[L3.IO.lst [IV.int 0,IV.int (y2%g)]]):=.one _ _
 generalize h1++[L3.IO.lst [IV.int 0,IV.int (y2%g)]]=hA at xA ⊢
 have hiA:=xA.get hi
 have t1:=ZH y4 (b:=1+g/3) (by omega)
 have t2:=ZD y4 (b:=1+g/3) (by omega)
 have t3:=ZH y4 (b:=1+3*g/2) (by omega)
 have t4:=ZD y4 (b:=1+3*g/2) (by omega)
 obtain⟨lt,hl,el⟩:=pk (n:=4) (y:=y5) [0,0,y4%(1+g/3),y4%(1+3*g/2)] rfl (by decide)
 have hl:0<=lt/\lt<=3*g/2:=by simp only[Z4,ZN,or_false] at hl;omega
 refine xseq (xset (WR.of_eq (pkE (arg4 rfl rfl (modE (ixlE rfl rfl hiA e4) (addE rfl (Q8 rfl rfl (by decide) (by decide))) (by omega)) (modE (ixlE rfl rfl hiA e4) (addE rfl (Q8 (mulE rfl rfl (.inl (by decide))) rfl (by decide) (by decide))) (by omega))) rfl (modE (ixlE rfl rfl (grow hiA) e5) rfl (by decide)) el) ?_))
 have xB:Ex hA (hA++[L3.IO.lst [IV.int 0,IV.int 0,IV.int (y4%(1+g/3)),IV.int (y4%(1+3*g/2))]]):=.one _ _
 generalize hA++[L3.IO.lst [IV.int 0,IV.int 0,IV.int (y4%(1+g/3)),IV.int (y4%(1+3*g/2))]]=hB at xB ⊢
 have hiB:=xB.get hiA
 obtain⟨dv,hv,ev⟩:=pk (n:=4) (y:=y7) [1,2,4,9] rfl (by decide)
 have hv:0<dv/\dv<=9:=by simp only[Z4,ZN,or_false] at hv;omega
 obtain⟨M,eM,M1,M2⟩:∃M:Int,(if g/dv>1 then g/dv else 1)=M/\1<=M/\M<=g:=by
  have:g/dv<=g:=Int.ediv_le_self _ (by omega)
  split
  ·exact⟨_,rfl,by omega,this⟩
  ·exact⟨_,rfl,by omega,by omega⟩
 have s1:=ZH y6 (b:=M) (by omega)
 have s2:=ZD y6 (b:=M) (by omega)
 refine xseq (xset (WR.of_eq (addE rfl (modE (ixlE rfl rfl hiB e6) (okc (maxE rfl (Q8 rfl (pkE (arg4 rfl rfl rfl rfl) rfl (modE (ixlE rfl rfl (grow hiB) e7) rfl (by decide)) ev) hv.1 (Jkc (b:=9) (by omega) (by decide)))) (congrArg IV.int eM)) (by omega))) ?_))
 generalize hlen:1+y6%M=len
 have xC:Ex hB (hB++[L3.IO.lst [IV.int 1,IV.int 2,IV.int 4,IV.int 9]]):=.one _ _
 generalize hB++[L3.IO.lst [IV.int 1,IV.int 2,IV.int 4,IV.int 9]]=hC at xC ⊢
 have x1C:=((x1.trans xA).trans xB).trans xC
 have lC:=x1C.len
 have hiC:=(xB.trans xC).get hiA
 have xD:Ex hC (hC++[L3.IO.lst []]++[L3.IO.lst []]):=(Ex.one _ _).trans (.one _ _)
 have gE:(hC++[L3.IO.lst []]++[L3.IO.lst []])[hC.length]?=some (.lst []):=grow Jj
 have base:∀hs:List Hd,HsOk len hs->F7 unit (⟨⟨⟨#[]⟩,g,len,g-dd,lt⟩,hs⟩:RH):=λ hs ok=>⟨g1,g2,by show 1<=len;omega,by show len<=g;omega,by show 1<=g-dd;omega,by show g-dd<=g;omega,hl.1,hl.2,ok⟩
 have tst:∀{σ:ISt}{a:E1},a σ (hC++[L3.IO.lst []])=.ok (.ref W) (hC++[L3.IO.lst []])->Jg asB (Jc cNe a (Js Jd)) σ (hC++[L3.IO.lst []])=.ok (!ws.isEmpty) (hC++[L3.IO.lst []]++[L3.IO.lst []]):=λ ea=>tofE ((binE ea (lstE rfl rfl)).trans (Jod (xD.get (x1C.get hW)) hw Jj))
 refine xseq (xset (WR.of_eq (lstE rfl rfl) (xseq ?_)))
 rcases lw with rfl|lw
 ·exact xiff (tst rfl) (xnil (xret (WR.of_eq (tupE rfl rfl) ⟨x1C.trans xD,⟨⟨⟨#[]⟩,g,len,g-dd,lt⟩,[]⟩,_,base [] ⟨by simp,by simp,λ m n hm hn=>absurd hn (by simp)⟩,rfl,by omega,gE,λ _=>rfl⟩)))
 ·have ne:ws.isEmpty=false:=by cases ws with|nil=>simp at lw|cons _ _=>rfl
  refine xift (okc (tst rfl) (by rw[ne];rfl)) (xset (xb (xb ?_)))
  refine(VP ..).mpr (WR.of_eq rfl (WR.of_eq rfl (WR.of_eq rfl ((Jpv ..).mpr ⟨_,xD.get hiC,?_⟩))))
  rw[show(some (8:Int))=some ((8:Nat):Int) from rfl,Jop,<-Zer]
  have xE:Ex (hC++[L3.IO.lst []]++[L3.IO.lst []]) (hC++[L3.IO.lst []]++[L3.IO.lst []]++[L3.IO.lst ((xs.drop 8).map IV.int)]):=.one _ _
  refine xb (WR.of_eq (arg2 rfl rfl) (WR.of_eq rfl (WR.mono (Jui (k:=k) Jj (by rw[ZcJ];omega) (xE.get (xD.get (x1C.get hW))) lw hw nd (by omega)) ?_)))
  rintro _ h3 ⟨q,hs,rfl,hq,gq,ok,x3⟩
  have l1:=(xD.trans xE).len
  exact xret (WR.of_eq (tupE rfl rfl) ⟨(x1C.trans (xD.trans xE)).trans x3,⟨⟨⟨#[]⟩,g,len,g-dd,lt⟩,hs⟩,q,base hs ok,rfl,by omega,gq,λ e=>by rw[e] at ne;cases ne⟩)
end
end
section
seal L4.run
abbrev tp6 (r:RH)(q:Nat):IV:=.tup (.str r.1.name::tp5 r q)
structure RowT (h:IH)(lo:Nat)(ys:List IV)(rs:List RH):Prop where
 len:ys.length=rs.length
 at_:∀(i:Nat) y r,ys[i]?=some y->rs[i]?=some r->∃q,y=tp6 r q/\q≠lo/\h[q]?=some (.lst (r.2.map tupH))
theorem RowT.kpb {h h':IH}{lo:Nat}{ys:List IV}{rs:List RH}(k:KpB lo h h')(w:RowT h lo ys rs):RowT h' lo ys rs:=⟨w.len,λ i y r a b=>let ⟨q,e,n,g⟩:=w.at_ i y r a b;⟨q,e,n,k _ _ n g⟩⟩
theorem RowT.kp {h h':IH}{lo:Nat}{ys:List IV}{rs:List RH}(k:Kp h h')(w:RowT h lo ys rs):RowT h' lo ys rs:=w.kpb λ _ _ _ q=>k _ _ q
theorem RowT.get {h:IH}{lo:Nat}{ys:List IV}{rs:List RH}(w:RowT h lo ys rs){n:Nat}{r:RH}(e:rs[n]?=some r):∃q,ys[n]?=some (tp6 r q)/\h[q]?=some (.lst (r.2.map tupH)):=by
 have hn:n<ys.length:=by rw[w.len];exact(Zk.mp e).1
 obtain⟨q,e1,_,g⟩:=w.at_ n _ r (Zb hn) e
 exact⟨q,by rw[Zb hn,e1],g⟩
theorem RowT.snoc {h:IH}{lo q:Nat}{ys:List IV}{rs:List RH}{r:RH}(w:RowT h lo ys rs)(n:q≠lo)(g:h[q]?=some (.lst (r.2.map tupH))):RowT h lo (ys++[tp6 r q]) (rs++[r]):=by
 have wl:=w.len
 refine⟨by simp[wl],λ i y s a b=>?_⟩
 by_cases hi:i<ys.length
 ·rw[Z9 hi] at a
  rw[Z9 (by omega)] at b
  exact w.at_ i y s a b
 ·have li:=(Zk.mp a).1
  rw[Zo,Zaa] at li
  obtain rfl:i=ys.length:=by omega
  rw[Z2 (Zl _),Zdh] at a
  rw[wl,Z2 (Zl _),Zdh] at b
  cases a
  cases b
  exact⟨q,rfl,n,g⟩
structure Dr (c unit:Int)(rs:List RH):Prop where
 u1:1<=unit
 u2:unit<=10^40
 f:∀r∈rs,F7 unit r
 nm:(rs.map λ r=>r.1.name)=(ZF rs.length).map (wd c)
theorem F7.to8 {unit:Int}{r:RH}(f:F7 unit r)(hu:1<=unit)(hn:IsNm r.1.name):F8 unit r:=by
 have g1:=f.g1
 have g2:=f.g2
 have t2:=f.t2
 exact⟨hn,f.g1,by omega,f.l1,f.d1,f.d2,f.t1,by omega,f.ok⟩
theorem Dr.gd {c unit:Int}{rs:List RH}(D:Dr c unit rs)(hl:rs.length<=7):Gd unit rs:=by
 refine⟨D.u1,D.u2,hl,λ r hr=>(D.f r hr).to8 D.u1 ?_,?_⟩
 ·have:r.1.name∈(ZF rs.length).map (wd c):=by rw[<- D.nm];exact List.mem_map_of_mem hr
  obtain⟨j,_,e⟩:=ZB.mp this
  rw[<- e]
  exact Jtn c j
 ·rw[D.nm,List.Nodup,Zdx]
  refine(ZdI (n:=rs.length)).imp_of_mem λ {a b} ha hb hne e=>hne ?_
  exact Jxo (by have:=Zar.mp ha;omega) (by have:=Zar.mp hb;omega) e
def SQ (h:IH)(held:Bool)(v:IV)(h':IH):Prop:=Ex h h'/\∃S lo ys rs c unit,v=.ref S/\h.length<=S/\h'[S]?=some (.lst ys)/\RowT h' lo ys rs/\Dr c unit rs/\rs.length<=5/\(held=false->∀r∈rs,r.2=[])
def wOf (c:Int)(v:IV):IV:=match v with
 | .int q=>.str (wd c q.toNat)
 | _=>.non
section
variable {k:Nat}{h:IH}
theorem e15 (σ:ISt)(h:IH):Jc JE (eC (.int 10)) (eC (.int 15)) σ h=.ok (.int (10^15)) h:=Jv (by
 rw[Vn,Qe,Qe,V5]
 exact⟨by decide,rfl,rfl⟩)
theorem e40 (σ:ISt)(h:IH):Jc JE (eC (.int 10)) (eC (.int 40)) σ h=.ok (.int (10^40)) h:=Jv (by
 rw[Vn,Qe,Qe,V5]
 exact⟨by decide,rfl,rfl⟩)
def SmI (h hB:IH)(ns:List Int)(held:Bool)(x0 unit x1:Int)(W:Nat)(n:Nat)(σ:ISt)(h':IH):Prop:=∃ys rs g a b,h'=hB++.lst ys::g/\σ=[some (.rol (ns.map .int)),some (.bl held),some (.int x0),some (.int unit),some (.int x1),some (.ref W),some (.ref hB.length),a,b]/\RowT h' hB.length ys rs/\rs.length=n/\Dr (x1/7) unit rs/\(held=false->∀r∈rs,r.2=[])
theorem Jz3 (ns:List Int)(held:Bool):WR (Je2 (k+4) [.rol (ns.map .int),.bl held] h) (SQ h held):=by
 have hb:=J0
 rw[Jnv]
 have c0:=Jnn (k:=k+2) (h:=h) ns 0 (by decide)
 have c1:=λ (h:IH)=>Jnn (k:=k+2) (h:=h) ns 1 (by decide)
 generalize ns.getD (Zeo 0) 0=x0 at c0
 generalize ns.getD (Zeo 1) 0=x1 at c1
 obtain⟨U,hU,eU⟩:=pk (n:=4) (y:=x0) [4,10^15,10^15,10^40] rfl (by decide)
 have hU:0<U/\U<=10^40:=by
  simp only[Z4,ZN,or_false] at hU
  rcases hU with rfl|rfl|rfl|rfl<;>decide +kernel
 have u0:=ZH (x0/4) (b:=U) (by omega)
 have u1:=ZD (x0/4) hU.1
 have hx:x0/4%U<10^40:=Int.lt_of_lt_of_le u1 hU.2
 have E:∀{σ:ISt}{hh:IH},Jb (eC (.int 4)) (Jb (Jc JE (eC (.int 10)) (eC (.int 15))) (Jb (Jc JE (eC (.int 10)) (eC (.int 15))) (Jb (Jc JE (eC (.int 10)) (eC (.int 40))) Jd))) σ hh=.ok [IV.int 4,IV.int (10^15),IV.int (10^15),IV.int (10^40)] hh:=λ {σ hh}=>arg4 rfl (e15 σ hh) (e15 σ hh) (e40 σ hh)
 refine xfin (xseq (xset (WR.of_eq (Qj (arg2 rfl rfl) c0) (xseq (xset ?_)))))
 refine WR.of_eq (addE rfl (modE (Q8 rfl rfl (by decide) (by decide)) (pkE E rfl (modE rfl rfl (by decide)) eU) hU.1)) ?_
 refine xseq (xset (WR.of_eq (Qj (arg2 rfl rfl) (c1 _)) (xseq (xset (WR.of_eq (lstE rfl rfl) (xseq ?_))))))
 generalize hu:1+x0/4%U=unit
 have hu1:1<=unit:=by omega
 have hu2:unit<=10^40:=by
  clear eU
  generalize (10:Int)^40=y at hx
  omega
 have xA:Ex h (h++[L3.IO.lst [IV.int 4,IV.int (10^15),IV.int (10^15),IV.int (10^40)]]++[L3.IO.lst []]):=(Ex.one _ _).trans (.one _ _)
 have gA:(h++[L3.IO.lst [IV.int 4,IV.int (10^15),IV.int (10^15),IV.int (10^40)]]++[L3.IO.lst []])[(h++[L3.IO.lst [IV.int 4,IV.int (10^15),IV.int (10^15),IV.int (10^40)]]).length]?=some (.lst []):=Jj
 have loop:∀(hB:IH)(W:Nat)(ws:List Str),Ex h hB->hB[W]?=some (.lst (ws.map .str))->(∀x∈ws,IsNm x)->ws.Nodup->(ws=[]∨ws.length=3)->(held=false->ws=[])->∀N:ISt->IH->Prop,
   WS (Jfj (k+3) [some (.rol (ns.map .int)),some (.bl held),some (.int x0),some (.int unit),some (.int x1),some (.ref W),none,none,none] hB) N (SQ h held):=by
  intro hB W ws xB gW hw nd lw hh N
  obtain⟨m,em⟩:∃m:Nat,x1%6=m:=⟨(x1%6).toNat,by omega⟩
  refine xseq (xset (WR.of_eq (lstE rfl rfl) (xseq (xrng (n:=m) (okc (modE rfl rfl (by decide)) (congrArg IV.int em)) (by omega) ?_))))
  refine Qs (SmI h hB ns held x0 unit x1 W) (λ _ _ _ _=>trivial) ?_ ?_ ⟨[],[],[],none,none,rfl,rfl,⟨rfl,λ i y r a b=>by simp at a⟩,rfl,⟨hu1,hu2,by simp,rfl⟩,by simp⟩
  ·rintro n hn _ _ ⟨ys,rs,g,a,b,rfl,rfl,w,ln,D,hr⟩
   rw[VH]
   rw[Qy] at hn
   have hn6:n<6:=by omega
   rw[show(0+(n:Int))=(n:Int) by omega]
   have gW':(hB++L3.IO.lst ys::g)[W]?=some (.lst (ws.map .str)):=grow gW
   refine xnx rfl (xseq (xset (xb (WR.of_eq (arg3 (addE (Qj (arg2 rfl (addE rfl rfl)) (Jnn (k:=k+2) ns (2+(n:Int)) (by omega))) (mulE rfl rfl (.inl (by decide)))) rfl rfl) (WR.mono (Jvf (k:=k+1) hu1 hu2 gW' hw nd lw) ?_)))))
   rintro _ h3 ⟨⟨g3,rfl⟩,r,q,f,rfl,hq,gq,hz⟩
   have e3:hB++L3.IO.lst ys::g++g3=hB++L3.IO.lst ys::(g++g3):=by simp
   refine Qt (QJ (i:=hB.length) rfl (by rw[e3];exact J1) Vx (xb (xb (xtup (xb (xb (WR.of_eq (arg2 (Q8 rfl rfl (by decide) (by decide)) rfl) (WR.mono (Jto (k:=k+2) (x1/7) n) ?_))))))))
   rintro _ _ ⟨rfl,g4,rfl⟩
   have e4:hB++L3.IO.lst ys::g++g3++g4=hB++L3.IO.lst ys::(g++g3++g4):=by simp
   have kB:KpB hB.length (hB++L3.IO.lst ys::g) (hB++L3.IO.lst ys::(g++g3++g4)):=λ j o _ z=>by rw[<- e4];exact grow (grow z)
   have w4:=w.kpb kB
   have gq4:(hB++L3.IO.lst ys::(g++g3++g4))[q]?=some (.lst (r.2.map tupH)):=by rw[<- e4];exact grow gq
   have hq':q≠hB.length:=by rw[Zo,Z7] at hq;omega
   have ly:ys.length<=6:=by have:=w.len;omega
   rw[e4]
   have ea:Jl (.tup [.str (wd (x1/7) n)]) (.tup (tp5 r q)) (hB++L3.IO.lst ys::(g++g3++g4))=.ok (tp6 ⟨{ r.1 with name:=wd (x1/7) n },r.2⟩ q) (hB++L3.IO.lst ys::(g++g3++g4)):=by
    simp only[Jl]
    rw[if_pos ⟨by simp,by simp,by simp;omega⟩]
    rfl
   refine xb (WR.of_eq rfl (WR.of_eq rfl ⟨by show(1:Nat)<=_;omega,xb (WR.of_eq rfl (WR.of_eq ea (xb (WR.of_eq rfl (WR.of_eq rfl (xapp J1 (by omega) ?_))))))⟩))
   rw[Xe]
   refine⟨ys++[tp6 ⟨{ r.1 with name:=wd (x1/7) n },r.2⟩ q],rs++[⟨{ r.1 with name:=wd (x1/7) n },r.2⟩],g++g3++g4,_,_,rfl,rfl,?_,by simp[ln],⟨hu1,hu2,?_,?_⟩,?_⟩
   ·have kC:KpB hB.length (hB++L3.IO.lst ys::(g++g3++g4)) (hB++L3.IO.lst (ys++[tp6 ⟨{ r.1 with name:=wd (x1/7) n },r.2⟩ q])::(g++g3++g4)):=λ j o hj z=>by
     rw[<- Xe (L3.IO.lst ys),ZC (ZK hj)]
     exact z
    exact(w4.kpb kC).snoc hq' (kC _ _ hq' gq4)
   ·intro s hs
    rw[ZS,Zy] at hs
    rcases hs with hs|rfl
    ·exact D.f s hs
    ·exact⟨f.g1,f.g2,f.l1,f.l2,f.d1,f.d2,f.t1,f.t2,f.ok⟩
   ·rw[ZaJ,D.nm,Zo,Zaa,ZdU,ZaJ,ln]
    rfl
   ·intro z s hs
    rw[ZS,Zy] at hs
    rcases hs with hs|rfl
    ·exact hr z s hs
    ·exact hz (hh z)
  ·rintro _ _ ⟨ys,rs,g,a,b,rfl,rfl,w,ln,D,hr⟩
   rw[Qy] at ln
   have:=xB.len
   exact xret (WR.of_eq rfl ⟨xB.trans (.cons _ _ _),_,_,ys,rs,x1/7,unit,rfl,this,J1,w,D,by omega,hr⟩)
 cases held with
 | false=>exact xiff (truE rfl) (xnil (loop _ _ [] xA gA (by simp) (by simp) (.inl rfl) (λ _=>rfl) _))
 | true =>
  refine xift (truE rfl) (xset (WR.mono (Qh (h:=h++[L3.IO.lst [IV.int 4,IV.int (10^15),IV.int (10^15),IV.int (10^40)]]++[L3.IO.lst []]) (xs:=rngI 0 3) (chk:=λ _=>True) (f:=wOf (x1/5)) ?_ (by rw[Qy];omega) (λ _ _=>trivial) ?_) ?_))
  ·rw[VN]
   refine WR.of_eq (arg1 rfl) ?_
   rw[Xk]
   exact⟨by omega,rfl,rfl,rfl⟩
  ·intro x hx h2 q
   obtain⟨n,hn,rfl⟩:=Zau.mp hx
   rw[VH,show(0+(n:Int))=(n:Int) by omega]
   unfold Jc6
   refine xb (WR.of_eq (arg2 (Q8 rfl rfl (by decide) (by decide)) rfl) (WR.mono (Jto (k:=k+2) (x1/5) n) ?_))
   rintro _ h3 ⟨rfl,x3⟩
   exact⟨by simp[wOf],x3⟩
  ·rintro _ _ ⟨rfl,g,rfl⟩
   have em:(rngI 0 3).map (wOf (x1/5))=((ZF 3).map (wd (x1/5))).map IV.str:=by
    refine Zcc (by rw[Zh,Qy,Zh,Zh,Zb0];rfl) λ i h1 h2=>?_
    rw[ZM,VH,ZM,ZM,Zds]
    simp[wOf]
   rw[em]
   refine loop _ _ ((ZF 3).map (wd (x1/5))) (xA.trans (.cons _ _ _)) J1 (λ x hx=>?_) ?_ (.inr (by simp)) (λ z=>by cases z) _
   ·obtain⟨j,_,rfl⟩:=ZB.mp hx
    exact Jtn _ j
   ·rw[List.Nodup,Zdx]
    refine(ZdI (n:=3)).imp_of_mem λ {a b} ha hb hne e=>hne ?_
    exact Jxo (by have:=Zar.mp ha;omega) (by have:=Zar.mp hb;omega) e
end
end
section
variable {k:Nat}{h h1:IH}{σ:ISt}
theorem J0e {Q:IV->IH->Prop}:WR (Xt σ h) Q=Q (.ref h.length) (h++[.dct []]):=rfl
theorem J0f {P:Pg}{m:Str}{n i:Nat}{o:E1}{a:A1}{kvs:List (Key×IV)}{Q:IV->IH->Prop}{g:IV->List IV->IH->Res IV}(e:o σ h=.ok (.ref i) h1)(hl:h1[i]?=some (.dct kvs))(hg:bmOf "dict" m n=some g):WR (Jn P m n o a σ h) Q=WR (a σ h1) λ vs h2=>WR (g (.ref i) vs h2) Q:=by
 unfold Jn
 rw[e]
 have hi:VE (.ref i) h1=false:=by simp[VE,hl]
 have ht:tyS (.ref i) h1="dict":=by simp[tyS,hl]
 dsimp only
 rw[hi,ht,hg]
 dsimp only
 rw[if_neg Zp]
 unfold eBm
 rw[e,Jq,Vo]
 have:tyOk "dict" (.ref i) h1=true:=by simp[tyOk,hl]
 rw[if_pos this,Jq]
theorem Jrh:bmOf "dict" "setdefault" 2=some VI:=by kernel_rfl
theorem Jwj {i:Nat}{kvs:List (Key×IV)}{x:Str}{v w:IV}{Q:IV->IH->Prop}(hi:h[i]?=some (.dct kvs))(e:valI kvs (.inr x)=some w):WR (VI (.ref i) [.str x,v] h) Q=Q w h:=by
 unfold VI
 simp only[hi,keyI,e]
 rfl
theorem Jwi {i:Nat}{kvs:List (Key×IV)}{x:Str}{v:IV}{Q:IV->IH->Prop}(hi:h[i]?=some (.dct kvs))(e:valI kvs (.inr x)=none)(hl:kvs.length<sizeLine):WR (VI (.ref i) [.str x,v] h) Q=Q v (h.set i (.dct (kvs++[(.inr x,v)]))):=by
 unfold VI
 simp only[hi,keyI,e,hl,if_true]
 rfl
end
theorem Jtm (kvs:List (Key×IV))(k k':Key)(v:IV):valI (kvs++[(k,v)]) k'=match valI kvs k' with
  | some w=>some w
  | none=>if k=k' then some v else none:=by
 induction kvs with
 | nil =>
  by_cases e:k=k'
  ·rw[Zac,QI e,if_pos e];rfl
  ·rw[Zac,Q0 e,if_neg e];rfl
 | cons p r ih =>
  by_cases e:p.1=k'
  ·rw[ZV,QI e,QI e]
  ·rw[ZV,Q0 e,Q0 e,ih]
def has (x:Str)(hs:List Hd):Bool:=hs.any λ a=>decide (a.1=x)
def fstK (hss:List (List Hd))(x:Str):Option Nat:=hss.findIdx? (has x)
def fV (o:Option Nat):IV:=match o with
 | some i=>.int (i:Int)
 | none=>.non
theorem Jr1 (hss:List (List Hd))(hs:List Hd)(x:Str):fstK (hss++[hs]) x=match fstK hss x with
  | some i=>some i
  | none=>if has x hs=true then some hss.length else none:=by
 unfold fstK
 rw[List.findIdx?_append]
 cases hss.findIdx? (has x) with
 | some i=>rfl
 | none =>
  by_cases e:has x hs=true
  ·simp[Zdr,e]
  ·simp[Zdr,e]
theorem Jot (x:Str)(hs:List Hd)(a:Hd):has x (hs++[a])=(has x hs||decide (a.1=x)):=by simp[has]
section
variable {k:Nat}{h:IH}
theorem dls {a:IV}:(([("works",a)]:List (Str×IV))).lookup ("size":Str)=none:=by kernel_rfl
theorem Jl0 {vs:List IV}{D:Nat}(hD:h[D]?=some (.ins "Duty" (dfs vs))):Jc8 (k+1) [.ref D] h=.ok (.int vs.length) h:=by
 refine Jv ?_
 rw[Jl3]
 simp! [Jdy,JY hD,dl0]
def Told (kvs:List (Key×IV))(hss:List (List Hd))(n:Nat)(hs:List Hd):Prop:=∀x,valI kvs (.inr x)=match fstK hss x with
 | some i=>some (.int (i:Int))
 | none=>if has x hs=true then some (.int (n:Int)) else none
theorem Told.next {kvs:List (Key×IV)}{hss:List (List Hd)}{hs:List Hd}{n:Nat}(t:Told kvs hss n hs)(hn:hss.length=n):Told kvs (hss++[hs]) (n+1) []:=λ x=>by
 subst hn
 rw[t x,Jr1]
 cases fstK hss x with
 | some i=>rfl
 | none =>
  by_cases e:has x hs=true
  ·simp only[e,if_true]
  ·simp only[e];rfl
theorem Told.old {kvs:List (Key×IV)}{hss:List (List Hd)}{n:Nat}{hs:List Hd}{a:Hd}{w:IV}(t:Told kvs hss n hs)(e:valI kvs (.inr a.1)=some w):Told kvs hss n (hs++[a]):=λ x=>by
 rw[t x]
 cases ef:fstK hss x with
 | some i=>rfl
 | none =>
  dsimp only
  rw[Jot]
  by_cases ea:a.1=x
  ·have:=t x
   rw[<- ea,e,ea,ef] at this
   dsimp only at this
   by_cases q:has x hs=true
   ·simp[q]
   ·rw[if_neg q] at this
    cases this
  ·simp[ea]
theorem Told.new {kvs:List (Key×IV)}{hss:List (List Hd)}{n:Nat}{hs:List Hd}{a:Hd}(t:Told kvs hss n hs)(e:valI kvs (.inr a.1)=none):Told (kvs++[(.inr a.1,.int (n:Int))]) hss n (hs++[a]):=λ x=>by
 rw[Jtm,t x]
 cases ef:fstK hss x with
 | some i=>rfl
 | none =>
  dsimp only
  rw[Jot]
  by_cases q:has x hs=true
  ·simp[q]
  ·by_cases ea:a.1=x
   ·simp[q,ea]
   ·have:¬((.inr a.1:Key)=.inr x):=λ z=>ea (Sum.inr.inj z)
    simp[q,ea]
theorem Jnm {vs:List IV}{rs:List RH}{D:Nat}(hD:h[D]?=some (.ins "Duty" (dfs vs)))(w:AllH h vs rs)(hl:rs.length<=12)(h6:∀r∈rs,r.2.length<=6) :
  WR (Jez (k+2) [.ref D] h) λ v h'=>∃i kvs,v=.ref i/\h'[i]?=some (.dct kvs)/\(∀x,(valI kvs (.inr x)).getD .non=fV (fstK (rs.map (·.2)) x))/\Ex h h':=by
 have hb:=J0
 have wl:=w.len
 rw[Jnr]
 simp! [Jfe,Jff,J0e]
 rw[VM (i:=D) (h1:=h++[.dct []]) rfl (grow hD) dls (Jfl _)]
 simp! [Jl0 (grow hD)]
 refine⟨by omega,?_⟩
 refine Qs (λ n σ h'=>∃kvs g a b,h'=h++L3.IO.dct kvs::g/\σ=[some (.ref D),some (.ref h.length),a,b]/\kvs.length<=6*n/\Told kvs ((rs.map (·.2)).take n) n []) (λ _ _ _ _=>trivial) ?_ ?_ ⟨[],[],none,none,rfl,rfl,by simp,λ x=>by simp[valI,fstK,has]⟩
 ·rintro n hn _ _ ⟨kvs,g,a,b,rfl,rfl,ln,td⟩
  rw[VH]
  rw[Qy] at hn
  have hn':n<rs.length:=by omega
  have en:(0:Int)+(n:Int)=n:=by omega
  obtain⟨j,ej,gj⟩:=w.at_ n _ _ (Zb (by omega)) (Zb hn')
  have av:atI vs (n:Int)=some (.ref j):=JH (by rw[Zb (by omega),ej])
  have hl6:=h6 _ (Zz hn')
  have hm:n<(rs.map (·.2)).length:=by rw[Zh];exact hn'
  have tk:(rs.map (·.2)).take (n+1)=(rs.map (·.2)).take n++[(rs[n]).2]:=by rw[Zao hm,ZM]
  rw[tk]
  generalize rs[n]=r at gj hl6
  simp! [en,Jev]
  have x1:Ex h (h++L3.IO.dct kvs::g):=.cons _ _ _
  have ed:Jn (pg (k+1)) "work" 1 (Ja 0) (Jb (Ja 2) Jd) [some (IV.ref D),some (IV.ref h.length),some (IV.int (n:Int)),b] (h++L3.IO.dct kvs::g)=.ok (.ref j) (h++L3.IO.dct kvs::g):=by
   refine Jv ?_
   rw[VM (i:=D) (h1:=h++L3.IO.dct kvs::g) rfl (x1.get hD) dlw (Jcm _)]
   simp! [Jg8 (x1.get hD) av]
  rw[VM (i:=j) (h1:=h++L3.IO.dct kvs::g) ed (x1.get gj) flh (Jcn _)]
  simp! [Jhu (x1.get gj),JM,Jj]
  generalize r.2=hs at hl6
  refine Qs (λ m σ h'=>∃kvs' b',h'=h++L3.IO.dct kvs'::(g++[L3.IO.lst (hs.map tupH)])/\σ=[some (.ref D),some (.ref h.length),some (.int (n:Int)),b']/\kvs'.length<=6*n+m/\Told kvs' ((rs.map (·.2)).take n) n (hs.take m)) ?_ ?_ ?_ ⟨kvs,b,by rw[ZQ,ZV],rfl,by omega,td⟩
  ·rintro _ _ _ ⟨kvs',b',rfl,_⟩
   rw[show h++L3.IO.dct kvs'::(g++[L3.IO.lst (hs.map tupH)])=(h++L3.IO.dct kvs'::g)++[L3.IO.lst (hs.map tupH)] by rw[ZQ,ZV],
    show(h++L3.IO.dct kvs::g).length=(h++L3.IO.dct kvs'::g).length by simp]
   exact Jj
  ·rintro m hm _ _ ⟨kvs',b',rfl,rfl,lm,tm⟩
   have hm':m<hs.length:=by simpa using hm
   rw[ZM,Zao hm']
   generalize hs[m]=a at *
   simp! [Jeu]
   rw[J0f (i:=h.length) (h1:=h++L3.IO.dct kvs'::(g++[L3.IO.lst (hs.map tupH)])) rfl J1 Jrh]
   simp! [tupH]
   cases ev:valI kvs' (.inr a.1) with
   | some w' =>
    rw[Jwj J1 ev]
    exact⟨kvs',_,rfl,rfl,by omega,tm.old ev⟩
   | none =>
    rw[Jwi J1 ev (by omega),Xe]
    exact⟨_,_,rfl,rfl,by rw[Zo,Zaa];omega,tm.new ev⟩
  ·rintro _ _ ⟨kvs',b',rfl,rfl,lm,tm⟩
   rw[Zh] at lm tm
   rw[ZaY (Zl _)] at tm
   have ltn:((rs.map (·.2)).take n).length=n:=by rw[ZaN];omega
   exact⟨kvs',_,_,_,rfl,rfl,by omega,tm.next ltn⟩
 ·rintro _ _ ⟨kvs,g,a,b,rfl,rfl,ln,td⟩
  simp! [Jfg]
  refine⟨_,kvs,rfl,J1,λ x=>?_,.cons _ _ _⟩
  have:=td x
  rw[Qy,ZaY (by rw[Zh];omega)] at this
  rw[this]
  cases fstK (rs.map (·.2)) x with
  | some i=>rfl
  | none=>simp[has,fV]
theorem Jkt (kvs:List (Key×IV))(k k':Key)(v:IV):valI (putD kvs k v) k'=if k=k' then some v else valI kvs k':=by
 unfold putD
 have any_iff:∀l:List (Key×IV),(l.any λ kv=>decide (kv.1=k))=(valI l k).isSome:=by
  intro l
  induction l with
  | nil=>rfl
  | cons p r ih =>
   rw[Zci,ih]
   by_cases e:p.1=k
   ·rw[QI e];simp[e]
   ·rw[Q0 e];simp[e]
 split
 ·rename_i ha
  have key:∀l:List (Key×IV),valI (l.map λ kv=>if kv.1=k then(kv.1,v) else kv) k'=if k=k' then(if (valI l k).isSome then some v else none) else valI l k':=by
   intro l
   induction l with
   | nil=>by_cases e:k=k'<;>simp[valI]
   | cons p r ih =>
    rw[Z0]
    by_cases e:p.1=k
    ·rw[if_pos e]
     by_cases e2:k=k'
     ·rw[QI (by rw[<- e2];exact e),if_pos e2,QI e];rfl
     ·rw[Q0 (by rw[e];exact e2),ih,if_neg e2,if_neg e2,Q0 (by rw[e];exact e2)]
    ·rw[if_neg e]
     by_cases e2:p.1=k'
     ·have:¬k=k':=λ z=>e (e2.trans z.symm)
      rw[QI e2,if_neg this,QI e2]
     ·rw[Q0 e2,ih,Q0 e,Q0 e2]
  rw[key,<-any_iff,ha]
  simp
 ·rename_i ha
  have hn:valI kvs k=none:=by
   have:=any_iff kvs
   cases q:valI kvs k with
   | none=>rfl
   | some z=>rw[q] at this;exact absurd this ha
  have key:∀l:List (Key×IV),valI (l++[(k,v)]) k'=match valI l k' with
    | some w=>some w
    | none=>if k=k' then some v else none:=by
   intro l
   induction l with
   | nil =>
    by_cases e:k=k'
    ·rw[Zac,QI e,if_pos e];rfl
    ·rw[Zac,Q0 e,if_neg e];rfl
   | cons p r ih =>
    by_cases e:p.1=k'
    ·rw[ZV,QI e,QI e]
    ·rw[ZV,Q0 e,Q0 e,ih]
  rw[key]
  by_cases e:k=k'
  ·subst e;rw[hn,if_pos rfl]
  ·rw[if_neg e,if_neg e];cases valI kvs k'<;>rfl
theorem Jts {i:Nat}{kvs:List (Key×IV)}{x:Int}{Q:IV->IH->Prop}(hi:h[i]?=some (.dct kvs)):WR (cInD (.int x) (.ref i) h) Q=Q (.bl (valI kvs (.inl x)).isSome) h:=by
 unfold cInD
 simp only[hi,keyI]
 rfl
theorem Jxp {i:Nat}{kvs:List (Key×IV)}{x:Int}{v:IV}{Q:IV->IH->Prop}(hi:h[i]?=some (.dct kvs))(e:valI kvs (.inl x)=some v):WR (QO (.ref i) (.int x) h) Q=Q v h:=by
 unfold QO
 simp only[hi,keyI,e]
 rfl
theorem Jtz {σ:ISt}{N:ISt->IH->Prop}{R:IV->IH->Prop}(o i:E1)(v:IV):WS (gSbD o i v σ h) N R=WR (o σ h) λ ov h1=>WR (i σ h1) λ iv h2=>WS (Ys ov iv v σ h2) N R:=by
 unfold gSbD
 rw[Qr]
 congr 1
 funext ov h1
 rw[Qr]
theorem Jp1 {σ:ISt}{i:Nat}{kvs:List (Key×IV)}{x:Int}{v:IV}{N:ISt->IH->Prop}{R:IV->IH->Prop}(hi:h[i]?=some (.dct kvs))(hl:kvs.length<sizeLine):WS (Ys (.ref i) (.int x) v σ h) N R=N σ (h.set i (.dct (putD kvs (.inl x) v))):=by
 unfold Ys
 simp only[hi,keyI,hl,if_true]
 rfl
end
section
seal L4.run
theorem Jxx {α:Type}{x y z u v w:α}{xs:List α}:atI (x::y::z::u::v::w::xs) 5=some w:=JH (n:=5) rfl
def dH (a:Hd):Zcw:=.tuple [.str a.1,.int a.2.1,.int a.2.2]
def dR (r:RH):Zcw:=.tuple [.str r.1.name,.int r.1.gap,.int r.1.len,.int r.1.due,.int r.1.late,.list (r.2.map dH)]
theorem Jsm {x:Str}(q:IsNm x):Zap (.str x)=true:=by
 simp only[Zap]
 unfold PyData.strOk
 rw[<- Array.all_toList,Zbh]
 intro c hc
 have:=q.2.2 c hc
 simp only[decide_eq_true_eq]
 omega
theorem J1t {hs:List Hd}(q:∀a∈hs,IsNm a.1):Zaq (hs.map dH)=true:=by
 induction hs with
 | nil=>rfl
 | cons a hs ih =>
  have e:Zap (dH a)=true:=by
   have:=Jsm (q a (Z3 ..))
   simp only[dH,Zap,Zaq] at this ⊢
   rw[this]
   rfl
  rw[Z0,Zaq,e,ih λ b hb=>q b (Zm _ hb)]
  rfl
theorem J1u {rs:List RH}(q:∀r∈rs,IsNm r.1.name/\∀a∈r.2,IsNm a.1):Zaq (rs.map dR)=true:=by
 induction rs with
 | nil=>rfl
 | cons r rs ih =>
  have e:Zap (dR r)=true:=by
   have h1:=Jsm (q r (Z3 ..)).1
   have h2:=J1t (q r (Z3 ..)).2
   simp only[dR,Zap,Zaq] at h1 ⊢
   rw[h1,h2]
   rfl
  rw[Z0,Zaq,e,ih λ b hb=>q b (Zm _ hb)]
  rfl
theorem d_hs' {h:IH}{q n:Nat}{hs:List Hd}(e:h[q]?=some (.lst (hs.map tupH))):toD h (n+3) (.ref q)=some (.list (hs.map dH)):=by
 have:∀hs:List Hd,(hs.map tupH).mapM (toD h (n+2))=some (hs.map dH):=by
  intro hs
  induction hs with
  | nil=>rfl
  | cons a r ih=>rw[Z0,ZbW,ih];rfl
 rw[Yv e,this]
 rfl
theorem J3q {h:IH}{lo:Nat}{ys:List IV}{rs:List RH}(w:RowT h lo ys rs):ys.mapM (toD h 5)=some (rs.map dR):=by
 obtain⟨wl,at_⟩:=w
 induction ys generalizing rs with
 | nil=>cases rs with|nil=>rfl|cons _ _=>simp at wl
 | cons y ys ih =>
  cases rs with
  | nil=>simp at wl
  | cons r rs =>
   obtain⟨q,e,_,g⟩:=at_ 0 y r rfl rfl
   have ed:toD h 5 y=some (dR r):=by
    rw[e]
    show((IV.str r.1.name::tp5 r q).mapM (toD h 4)).map Ze3=some (dR r)
    simp only[ZbW,List.mapM_nil,d_hs' (n:=1) g]
    rfl
   rw[ZbW,ed,ih (rs:=rs) (by simpa using wl) λ i y' r' a b=>at_ (i+1) y' r' a b]
   rfl
structure Cm where
 at_:Nat
 come:Int
 late:Int
 len:Int
abbrev tupC (c:Cm):IV:=.tup [.int c.at_,.int c.come,.int c.late,.int c.len]
structure COk (rs:List RH)(c:Cm):Prop where
 at_:c.at_<rs.length
 come:0<=c.come
 l0:0<=c.late
 l1:c.late<=(rs[c.at_]).1.late
 n1:1<=c.len
 n2:c.len<=(rs[c.at_]).1.len
structure Legal (rs:List RH)(cs:List Cm):Prop where
 ok:∀c∈cs,COk rs c
 far:∀(i j:Nat)(a b:Cm),i<j->cs[i]?=some a->cs[j]?=some b->a.at_=b.at_->∀r,rs[a.at_]?=some r->a.come+r.1.gap<=b.come
structure Lst (kvs:List (Key×IV))(cs:List Cm):Prop where
 no:∀n:Nat,valI kvs (.inl (n:Int))=none->∀c∈cs,c.at_≠n
 yes:∀(n:Nat) v,valI kvs (.inl (n:Int))=some v->∃x,v=.int x/\0<=x/\∀c∈cs,c.at_=n->c.come<=x
def gOf (v:IV):IV:=match v with
 | .tup (_::g::_)=>g
 | _=>.non
theorem RowT.mapG {h:IH}{lo:Nat}{ys:List IV}{rs:List RH}(w:RowT h lo ys rs){F:IV->IV}{g:RH->IV}(hf:∀r q,F (tp6 r q)=g r):ys.map F=rs.map g:=by
 have wl:=w.len
 refine Zcc (by simp[wl]) λ i h1 h2=>?_
 rw[Zh] at h1 h2
 rw[ZM,ZM]
 obtain⟨q,e,_,_⟩:=w.at_ i _ _ (Zb h1) (Zb h2)
 rw[e]
 exact hf _ q
structure RI (h h':IH)(cs:List Cm)(kvs:List (Key×IV)):Prop where
 r:h'[h.length]?=some (.lst (cs.map tupC))
 d:h'[h.length+1]?=some (.dct kvs)
 kp:Kp h h'
theorem RI.ex {h h1 h2:IH}{cs:List Cm}{kvs:List (Key×IV)}(R:RI h h1 cs kvs)(x:Ex h1 h2):RI h h2 cs kvs:=⟨x.get R.r,x.get R.d,R.kp.trans x.kp⟩
theorem RI.ex0 {h h1:IH}{cs:List Cm}{kvs:List (Key×IV)}(R:RI h h1 cs kvs):Ex h h1:=Jyn R.kp
section
variable {k:Nat}{h:IH}
theorem Jn4 {S j lo:Nat}{ys:List IV}{rs:List RH}(hS:h[S]?=some (.lst ys))(w:RowT h lo ys rs)(q:∀r∈rs,IsNm r.1.name/\∀a∈r.2,IsNm a.1)(hj:h[j]?=some (.lst [])):cEq (.ref S) (.ref j) h=.ok (.bl rs.isEmpty) h:=by
 have e1:toD h 6 (.ref S)=some (.list (rs.map dR)):=by rw[Yv hS,J3q w];rfl
 have e2:toD h 6 (.ref j)=some (.list []):=by rw[Yv hj];rfl
 have e3:Vb (.ref S) (.ref j) h=some rs.isEmpty:=by
  unfold Vb
  rw[e1,e2]
  dsimp only
  rw[if_pos ⟨by rw[Zap];exact J1u q,by rw[Zap,Zaq]⟩,Zb3]
  cases rs with
  | nil=>rw[Zbk,ZbP];rfl
  | cons a as=>rw[Z0,ZbP];rfl;all_goals intros;simp_all
 unfold cEq
 have e4:Xc (.ref S) (.ref j)=none:=rfl
 rw[e4]
 dsimp only
 rw[e3]
theorem J0l {i:Nat}{ms:List Int}{Q:IV->IH->Prop}(hi:h[i]?=some (.lst (ms.map .int)))(hm:ms≠[]):WR (X2 (.ref i) h) Q=Q (.int (JL (λ i=>ms.getD i 0) ms.length)) h:=by
 unfold X2
 simp only[hi,Vd,hm,if_false]
 rfl
def RwI (h:IH)(C S:Nat)(T:Int)(rs:List RH)(n:Nat)(σ:ISt)(h':IH):Prop:=∃cs kvs a5 a6 a7 a8 a9 a10 a11 a12 a13 a14 a15,RI h h' cs kvs/\σ=[some (.ref C),some (.ref S),some (.ref h.length),some (.ref (h.length+1)),some (.int (3*T)),a5,a6,a7,a8,a9,a10,a11,a12,a13,a14,a15]/\cs.length=n/\kvs.length<=n/\Legal rs cs/\Lst kvs cs
theorem Jvi {k:Nat}{h h1:IH}{S C n:Nat}{ys:List IV}{rs:List RH}{c unit T y:Int}{cs:List Cm}{kvs:List (Key×IV)}{a5 a6 a7 a8 a9 a10 a11 a12 a13 a14 a15:Option IV}{P:IV->IH->Prop}(hS:h[S]?=some (.lst ys)){lo:Nat}(w:RowT h lo ys rs)(D:Dr c unit rs)(pos:0<rs.length)(hn:n<=64)(top:∀r∈rs,r.1.gap<=T)
  (R:RI h h1 cs kvs)(lc:cs.length=n)(lk:kvs.length<=n)(L:Legal rs cs)(Z:Lst kvs cs) :
  WS (Jfn (k+1) [some (.ref C),some (.ref S),some (.ref h.length),some (.ref (h.length+1)),some (.int (3*T)),some (.int y),a6,a7,a8,a9,a10,a11,a12,a13,a14,a15] h1) (RwI h C S T rs (n+1)) P:=by
 have hb:=J0
 have wl:=w.len
 have sl:=JB hS
 refine xseq (xset (xb (WR.of_eq (arg2 rfl rfl) (WR.mono (Jm5 (k:=k) y 6 (by decide)) ?_))))
 rintro _ h2 ⟨X,xs,rfl,_,gX,lx,hx,e2⟩
 have R:=R.ex e2
 match xs,lx,gX,hx with
 | [y0,y1,y2,y3,y4,y5],_,gX,hx =>
 clear hx
 have gX:h2[X]?=some (.lst [.int y0,.int y1,.int y2,.int y3,.int y4,.int y5]):=gX
 have pl':(0:Int)<(ys.length:Int):=by omega
 obtain⟨m,em⟩:∃m:Nat,y0%(ys.length:Int)=m:=⟨(y0%(ys.length:Int)).toNat,by have:=ZH y0 (b:=(ys.length:Int)) (by omega);omega⟩
 have hm':m<rs.length:=by have:=ZD y0 pl';omega
 have er:=Zb hm'
 have f:=D.f _ (Zz hm')
 have tg:=top _ (Zz hm')
 generalize hrr:rs[m]=r at er f tg
 obtain⟨q,ey,_⟩:=w.get er
 have ay:atI ys (m:Int)=some (tp6 r q):=JH ey
 have gS2:=R.kp _ _ hS
 have f1:=f.g1
 have f2:=f.l1
 have f3:=f.t1
 have f4:=f.t2
 have u1:=D.u1
 have g0:0<r.1.gap:=by omega
 have v1:=ZH y1 (b:=r.1.late+1) (by omega)
 have v2:=ZD y1 (b:=r.1.late+1) (by omega)
 have v3:=ZH y3 (b:=r.1.gap) (by omega)
 have v4:=ZD y3 g0
 have v5:=ZH y3 (b:=1+r.1.gap) (by omega)
 have v6:=ZH y5 (b:=r.1.len) (by omega)
 have v7:=ZD y5 (b:=r.1.len) (by omega)
 obtain⟨wt,wt1,ew⟩:=pk (n:=3) (y:=y2) [r.1.late,0,y1%(r.1.late+1)] rfl (by decide)
 obtain⟨sh,sh1,es⟩:=pk (n:=3) (y:=y4) [0,y3%r.1.gap,0-y3%r.1.gap] rfl (by decide)
 obtain⟨mo,mo1,eo⟩:=pk (n:=2) (y:=y4) [0,y3%(1+r.1.gap)] rfl (by decide)
 obtain⟨ll,ll1,el⟩:=pk (n:=3) (y:=y4/6) [r.1.len,r.1.len,1+y5%r.1.len] rfl (by decide)
 simp only[Z4,ZN,or_false] at wt1 sh1 mo1 ll1
 have wt1:0<=wt/\wt<=r.1.late:=by omega
 have sh1:0-r.1.gap<sh/\sh<r.1.gap:=by omega
 have mo1:0<=mo:=by omega
 have ll1:1<=ll/\ll<=r.1.len:=by omega
 clear v1 v2 v3 v4 v5 v6 v7
 refine xseq (xset (WR.of_eq (okc (modE (ixlE rfl rfl gX JX) (lenE rfl gS2) pl') (congrArg IV.int em)) (xseq ((Xl ..).mpr (WR.of_eq (ixlE rfl rfl gS2 ay) (xnx rfl (xseq (xset (WR.of_eq (pkE (arg3 rfl rfl (modE (ixlE rfl rfl gX Qi) (addE rfl rfl) (by omega))) rfl (modE (ixlE rfl rfl (grow gX) Q5) rfl (by decide)) ew) ?_)))))))))
 refine xseq (xset (WR.of_eq (addE (subE rfl rfl) (pkE (arg3 rfl (modE (ixlE rfl rfl (grow gX) Qd) rfl g0) (subE rfl (modE (ixlE rfl rfl (grow gX) Qd) rfl g0))) rfl (modE (ixlE rfl rfl (grow (grow gX)) Va) rfl (by decide)) es)) ?_))
 have x5:Ex h2 (h2++[L3.IO.lst [IV.int r.1.late,IV.int 0,IV.int (y1%(r.1.late+1))]]++[L3.IO.lst [IV.int 0,IV.int (y3%r.1.gap),IV.int (0-y3%r.1.gap)]]):=(Ex.one _ _).trans (.one _ _)
 generalize h2++[L3.IO.lst [IV.int r.1.late,IV.int 0,IV.int (y1%(r.1.late+1))]]++[L3.IO.lst [IV.int 0,IV.int (y3%r.1.gap),IV.int (0-y3%r.1.gap)]]=h5 at x5 ⊢
 have R5:=R.ex x5
 have gX5:=x5.get gX
 have last:∀(h3:IH)(come:Int),Ex h2 h3->0<=come->(∀c∈cs,c.at_=m->c.come+r.1.gap<=come) ->
   WS (Jf (sAsg (Ja 15) (gSbD (Ja 3) (Ja 7))) (JJ (Jn (pg (k+1)) "append" 1 (Ja 2) (Jb (J8 (Jb (Ja 7) (Jb (Ja 15) (Jb (Ja 14) (Jb (Jc Je (Js (Jb (Ja 10) (Jb (Ja 10) (Jb (Jc Jl (eC (.int 1)) (Jc Jw (Jc Je (Ja 6) (eC (.int 5))) (Ja 10))) Jd)))) (Jc Jw (Jc JO (Jc Je (Ja 6) (eC (.int 4))) (eC (.int 6))) (eC (.int 3)))) Jd))))) Jd)))
    [some (.ref C),some (.ref S),some (.ref h.length),some (.ref (h.length+1)),some (.int (3*T)),some (.int y),some (.ref X),some (.int (m:Int)),some (.str r.1.name),some (.int r.1.gap),some (.int r.1.len),some (.int r.1.due),some (.int r.1.late),some (.ref q),some (.int wt),some (.int come)] h3)
    (RwI h C S T rs (n+1)) P:=by
   intro h3 come x3 c0 cf
   have R3:=R.ex x3
   have ld:h.length+1<h3.length:=JB R3.d
   refine xseq ((Xl ..).mpr (WR.of_eq rfl ?_))
   rw[Jtz]
   refine WR.of_eq rfl (WR.of_eq rfl ?_)
   rw[Jp1 R3.d (show kvs.length<sizeLine by omega)]
   generalize hh4:h3.set (h.length+1) (.dct (putD kvs (.inl (m:Int)) (.int come)))=h4
   have kd:KpB (h.length+1) h3 h4:=λ j o hj z=>by rw[<- hh4,ZC (ZK hj)];exact z
   have gd4:h4[h.length+1]?=some (.dct (putD kvs (.inl (m:Int)) (.int come))):=by rw[<- hh4,ZG ld]
   have gr4:=kd _ _ (by omega) R3.r
   have gX4:h4[X]?=some (.lst [.int y0,.int y1,.int y2,.int y3,.int y4,.int y5]):=by
    refine kd _ _ (λ z=>?_) (x3.get gX)
    have:=x3.get gX
    rw[z,R3.d] at this
    cases this
   refine Qt (QJ rfl gr4 Vx (WR.of_eq (arg1 (tupE (arg4 rfl rfl rfl (pkE (arg3 rfl rfl (addE rfl (modE (ixlE rfl rfl gX4 Jxx) rfl (by omega)))) rfl (modE (Q8 (ixlE rfl rfl (grow gX4) Va) rfl (by decide) (by decide)) rfl (by decide)) el)) rfl)) (xapp (grow gr4) (by rw[Zh];omega) ?_)))
   refine⟨cs++[⟨m,come,wt,ll⟩],putD kvs (.inl (m:Int)) (.int come),_,_,_,_,_,_,_,_,_,_,_,⟨?_,?_,?_⟩,rfl,by simp[lc],?_,⟨?_,?_⟩,⟨?_,?_⟩⟩
   ·rw[ZG (by rw[Zo];have:=JB gr4;omega)]
    simp
   ·rw[ZC (by omega)]
    exact grow gd4
   ·intro j o z
    have lj:=JB z
    rw[ZC (by omega)]
    exact grow (kd _ _ (by omega) (R3.kp _ _ z))
   ·unfold putD
    split
    ·simp;omega
    ·simp;omega
   ·intro c' hc'
    rw[ZS,Zy] at hc'
    rcases hc' with hc'|rfl
    ·exact L.ok c' hc'
    ·exact⟨hm',c0,wt1.1,by show wt<=(rs[m]).1.late;rw[hrr];exact wt1.2,ll1.1,by show ll<=(rs[m]).1.len;rw[hrr];exact ll1.2⟩
   ·intro i j a b hij ha hb' eab r' er'
    by_cases hj:j<cs.length
    ·rw[Z9 hj] at hb'
     rw[Z9 (by omega)] at ha
     exact L.far i j a b hij ha hb' eab r' er'
    ·have lj:=(Zk.mp hb').1
     rw[Zo,Zaa] at lj
     obtain rfl:j=cs.length:=by omega
     rw[Z2 (Zl _),Zdh] at hb'
     cases hb'
     rw[Z9 (by omega)] at ha
     have:r'=r:=by
      rw[eab] at er'
      have er':rs[m]?=some r':=er'
      rw[er] at er'
      cases er'
      rfl
     rw[this]
     exact cf a (ZbV ha) eab
   ·intro n' e c' hc'
    rw[Jkt] at e
    split at e
    ·cases e
    ·rename_i hne
     rw[ZS,Zy] at hc'
     rcases hc' with hc'|rfl
     ·exact Z.no n' e c' hc'
     ·exact λ z=>hne (by rw[show m=n' from z])
   ·intro n' v e
    rw[Jkt] at e
    split at e
    ·rename_i heq
     cases e
     have en:(m:Int)=n':=Sum.inl.inj heq
     have en:m=n':=by omega
     refine⟨come,rfl,c0,λ c' hc' ec=>?_⟩
     rw[ZS,Zy] at hc'
     rcases hc' with hc'|rfl
     ·have:=cf c' hc' (by rw[ec,en])
      omega
     ·exact ZaO _
    ·rename_i hne
     obtain⟨x,e1,e2,e3⟩:=Z.yes n' v e
     refine⟨x,e1,e2,λ c' hc' ec=>?_⟩
     rw[ZS,Zy] at hc'
     rcases hc' with hc'|rfl
     ·exact e3 c' hc' ec
     ·exact absurd (by rw[show m=n' from ec]) hne
 cases ev:valI kvs (.inl (m:Int)) with
 | none =>
  have eI:cInD (.int (m:Int)) (.ref (h.length+1)) h5=.ok (.bl false) h5:=Jv (by rw[Jts R5.d,ev];exact⟨rfl,rfl⟩)
  exact xseq (xiff (tofE ((binE rfl rfl).trans eI)) (xnil (last h5 (3*T-wt+sh) x5 (by omega) λ c' hc' z=>absurd z (Z.no m ev c' hc'))))
 | some v =>
  obtain⟨x,rfl,x0,xc⟩:=Z.yes m v ev
  have eI:cInD (.int (m:Int)) (.ref (h.length+1)) h5=.ok (.bl true) h5:=Jv (by rw[Jts R5.d,ev];exact⟨rfl,rfl⟩)
  have eX:QO (.ref (h.length+1)) (.int (m:Int)) h5=.ok (.int x) h5:=Jv (by rw[Jxp R5.d ev];exact⟨rfl,rfl⟩)
  refine xseq (xift (tofE ((binE rfl rfl).trans eI)) (xset (WR.of_eq (addE (addE ((binE rfl rfl).trans eX) rfl) (pkE (arg2 rfl (modE (ixlE rfl rfl gX5 Qd) (addE rfl rfl) (by omega))) rfl (modE (ixlE rfl rfl (grow gX5) Va) rfl (by decide)) eo)) ?_)))
  exact last _ (x+r.1.gap+mo) (x5.trans (.one _ _)) (by omega) λ c' hc' z=>by have:=xc c' hc' z;omega
theorem J2l {S C lo:Nat}{cells:List Int}{ys:List IV}{rs:List RH}{c unit:Int}(hS:h[S]?=some (.lst ys))(w:RowT h lo ys rs)(D:Dr c unit rs)(hr:rs.length<=7)(hC:h[C]?=some (.lst (cells.map .int)))(hc:cells.length<=64) :
  WR (Jgf (k+2) [.ref C,.ref S] h) λ v h'=>∃R cs,v=.ref R/\h.length<=R/\h'[R]?=some (.lst (cs.map tupC))/\Legal rs cs/\cs.length<=cells.length/\Ex h h':=by
 have hb:=J0
 have wl:=w.len
 have G:=D.gd hr
 have nmq:∀r∈rs,IsNm r.1.name/\∀a∈r.2,IsNm a.1:=λ r hr=>⟨(G.f r hr).nm,λ a ha=>((G.f r hr).ok.each a ha).1⟩
 have x1:Ex h (h++[L3.IO.lst []]++[L3.IO.dct []]++[L3.IO.lst []]):=(Ex.one _ _).trans ((Ex.one _ _).trans (.one _ _))
 rw[Jqb]
 refine xfin (xseq (xset (WR.of_eq (lstE rfl rfl) (xseq (xset (WR.of_eq rfl (xseq ?_)))))))
 have e0:=Jn4 (x1.get hS) (w.kp x1.kp) nmq Jj
 cases rs with
 | nil=>exact xift (tofE ((binE rfl (lstE rfl rfl)).trans e0)) (xret (WR.of_eq rfl ⟨_,[],rfl,Zl _,grow (grow Jj),⟨by simp,λ i j a b _ e=>by simp at e⟩,by simp,x1⟩))
 | cons r0 rs0 =>
 have pos:0<(r0::rs0).length:=by simp
 refine xiff (tofE ((binE rfl (lstE rfl rfl)).trans e0)) (xnil (xseq (xset ?_)))
 generalize r0::rs0=rs at *
 have gm:=w.mapG (F:=gOf) (g:=λ r=>IV.int r.1.gap) λ r q=>rfl
 have x1S:=x1.get hS
 refine xb (WR.of_eq rfl (xb (xb (xb ?_))))
 refine WR.mono (Qh (h:=h++[L3.IO.lst []]++[L3.IO.dct []]++[L3.IO.lst []]) (xs:=ys) (chk:=λ h'=>h'[S]?=some (.lst ys)) (f:=gOf) ?_ (by omega) (λ h2 q=>q _ _ x1S) ?_) ?_
 ·rw[JU]
  exact WR.of_eq rfl ((JM _).mpr ⟨_,x1S,rfl,rfl,rfl⟩)
 ·intro v hv h2 q
  obtain⟨n,hn,rfl⟩:=Zau.mp hv
  obtain⟨q,e,_,_⟩:=w.at_ n _ _ (Zb hn) (Zb (show n<rs.length by omega))
  rw[e]
  exact WR.of_eq (ixtE rfl rfl Qi) ⟨rfl,.refl _⟩
 rintro _ _ ⟨rfl,g,rfl⟩
 have em:rs.map (λ r=>IV.int r.1.gap)=(rs.map λ r=>r.1.gap).map IV.int:=by simp
 rw[gm,em]
 have hm:(rs.map λ r=>r.1.gap)≠[]:=λ e=>by
  rw[List.map_eq_nil_iff] at e
  rw[e] at pos
  simp at pos
 have x2:Ex (h++[L3.IO.lst []]++[L3.IO.dct []]++[L3.IO.lst []]) (h++[L3.IO.lst []]++[L3.IO.dct []]++[L3.IO.lst []]++L3.IO.lst ((rs.map λ r=>r.1.gap).map IV.int)::g):=.cons _ _ _
 refine xb (WR.of_eq rfl (WR.of_eq rfl ?_))
 rw[Xj,J0l J1 hm]
 have top:∀r∈rs,r.1.gap<=JL (λ i=>(rs.map λ r=>r.1.gap).getD i 0) (rs.map λ r=>r.1.gap).length:=λ r hr=>by
  obtain⟨j,hj,rfl⟩:=Zau.mp hr
  have:=Jxd (λ i=>(rs.map λ r=>r.1.gap).getD i 0) (rs.map λ r=>r.1.gap).length j (by simpa using hj)
  have e:(rs.map λ r=>r.1.gap).getD j 0=(rs[j]).1.gap:=by rw[Zi,Zt,Zb hj];rfl
  rw[<- e]
  exact this
 generalize JL (λ i=>(rs.map λ r=>r.1.gap).getD i 0) (rs.map λ r=>r.1.gap).length=T at top
 have gR:(h++[L3.IO.lst []]++[L3.IO.dct []]++[L3.IO.lst []]++L3.IO.lst ((rs.map λ r=>r.1.gap).map IV.int)::g)[h.length]?=some (.lst []):=x2.get (grow (grow Jj))
 have gD:(h++[L3.IO.lst []]++[L3.IO.dct []]++[L3.IO.lst []]++L3.IO.lst ((rs.map λ r=>r.1.gap).map IV.int)::g)[(h++[L3.IO.lst []]).length]?=some (.dct []):=x2.get (grow Jj)
 have lD:(h++[L3.IO.lst []]).length=h.length+1:=by simp
 rw[lD] at gD ⊢
 have k2:Kp h (h++[L3.IO.lst []]++[L3.IO.dct []]++[L3.IO.lst []]++L3.IO.lst ((rs.map λ r=>r.1.gap).map IV.int)::g):=(x1.trans x2).kp
 generalize h++[L3.IO.lst []]++[L3.IO.dct []]++[L3.IO.lst []]++L3.IO.lst ((rs.map λ r=>r.1.gap).map IV.int)::g=hA at gR gD k2 ⊢
 refine xmul (.inl (by decide)) (xseq (xfor ?_))
 rw[JU]
 refine WR.of_eq rfl ((JM _).mpr ⟨_,k2 _ _ hC,?_⟩)
 refine Qs (RwI h C S T rs)
  (λ n σ h' ⟨_,_,_,_,_,_,_,_,_,_,_,_,_,R,_⟩=>R.kp _ _ hC) ?_ ?_ ⟨[],[],none,none,none,none,none,none,none,none,none,none,none,⟨gR,gD,k2⟩,rfl,rfl,Zl _,⟨by simp,λ i j a b _ e=>by simp at e⟩,⟨by simp,λ n v e=>by cases e⟩⟩
 ·rintro n hn _ h1 ⟨cs,kvs,a5,a6,a7,a8,a9,a10,a11,a12,a13,a14,a15,R,rfl,lc,lk,L,Z⟩
  rw[Zh] at hn
  rw[ZM]
  exact xnx rfl (Jvi (a5:=a5) hS w D pos (by omega) top R lc lk L Z)
 ·rintro _ h1 ⟨cs,kvs,a5,a6,a7,a8,a9,a10,a11,a12,a13,a14,a15,R,rfl,lc,lk,L,Z⟩
  rw[Zh] at lc
  exact xret (WR.of_eq rfl ⟨_,cs,rfl,Zl _,R.r,L,by omega,R.ex0⟩)
end
end
def dS (v:IV):Zcw:=match v with
 | .str x=>.str x
 | _=>.none
section
variable {k:Nat}{h:IH}
end
def actv (d:Int)(a:Hd):Bool:=decide (a.2.1<d)&&decide (d<a.2.2)
def act (hs:List Hd)(d:Int):List Str:=(hs.filter (actv d)).map (·.1)
def avV (d:Int)(v:IV):Bool:=match v with
 | .tup [.str _,.int s,.int e]=>decide (s<d)&&decide (d<e)
 | _=>false
def frs (v:IV):IV:=match v with
 | .tup (x::_)=>x
 | _=>.non
theorem Jq6 (d:Int):∀hs:List Hd,((hs.map tupH).filter (avV d)).map frs=(act hs d).map IV.str
 | []=>rfl
 | a::hs=>by
  have ih:=Jq6 d hs
  unfold act at *
  rw[Z0]
  by_cases q:actv d a=true
  ·have q':avV d (tupH a)=true:=q
   rw[ZaP q',ZaP q,Z0,Z0,Z0,ih]
   rfl
  ·have q':¬avV d (tupH a)=true:=q
   rw[ZaQ q',ZaQ q,ih]
theorem Jxt (hs:List Hd)(d:Int):(act hs d).length<=hs.length:=by
 unfold act
 rw[Zh]
 exact Za3 ..
theorem Jxu {hs:List Hd}{d:Int}{x:Str}(h:x∈act hs d):∃a∈hs,a.1=x:=by
 unfold act at h
 obtain⟨a,ha,rfl⟩:=ZB.mp h
 exact⟨a,(ZaF.mp ha).1,rfl⟩
theorem Jol (f:Nat->Int):∀(n j:Nat),j<n->JP f n<=f j
 | 0,j,h=>by omega
 | 1,j,h=>by
  have:j=0:=by omega
  subst this
  exact ZaO _
 | n+2,j,h=>by
  rw[Jcr f (by omega:0<n+1)]
  by_cases e:j=n+1
  ·subst e
   split<;>omega
  ·have:=Jol f (n+1) j (by omega)
   split<;>omega
theorem J1v (f:Nat->Int)(b:Int):∀(n:Nat),0<n->(∀j,j<n->b<=f j)->b<=JP f n
 | 0,h,_=>by omega
 | 1,_,q=>q 0 (by omega)
 | n+2,_,q=>by
  rw[Jcr f (by omega:0<n+1)]
  have:=J1v f b (n+1) (by omega) λ j hj=>q j (by omega)
  have:=q (n+1) (by omega)
  split<;>omega
theorem Jri (f:Nat->Int):∀(n:Nat),0<n->∃j,j<n/\JP f n=f j
 | 0,h=>by omega
 | 1,_=>⟨0,by omega,rfl⟩
 | n+2,_=>by
  rw[Jcr f (by omega:0<n+1)]
  obtain⟨j,hj,e⟩:=Jri f (n+1) (by omega)
  split
  ·exact⟨n+1,by omega,rfl⟩
  ·exact⟨j,by omega,e⟩
def hit (zs:List Str)(hs:List Hd):Bool:=hs.any λ b=>zs.any λ z=>decide (z=b.1)
def J5n (hss:List (List Hd))(zs:List Str)(a n:Nat):Nat:=match (hss.take n).findIdx? (hit zs) with
 | some k=>k
 | none=>a
def fZ (hss:List (List Hd))(x:Str):Int:=match fstK hss x with
 | some j=>(j:Int)
 | none=>0
def rkNs (hss:List (List Hd))(zs:List Str)(a:Nat):List Int:=(a:Int)::zs.map (fZ hss)
def rk (hss:List (List Hd))(zs:List Str)(a:Nat):Int:=JP (λ i=>(rkNs hss zs a).getD i 0) (rkNs hss zs a).length
def fstV (hss:List (List Hd))(v:IV):IV:=match v with
 | .str t=>.int (fZ hss t)
 | _=>.non
noncomputable def stT (v:IV):ISt:=match v with
 | .tup [x,y,z]=>[some x,some y,some z]
 | _=>[none,none,none]
section
variable {k:Nat}{h:IH}
theorem Jtw {i:Nat}{ns:List Int}{Q:IV->IH->Prop}(hi:h[i]?=some (.lst (ns.map .int)))(hn:ns≠[]):WR (VY (.ref i) h) Q=Q (.int (JP (λ i=>ns.getD i 0) ns.length)) h:=by
 unfold VY
 simp only[hi,Vd]
 rw[if_neg hn]
 rfl
theorem J0i {i:Nat}{kvs:List (Key×IV)}{x:Str}{v:IV}{Q:IV->IH->Prop}(hi:h[i]?=some (.dct kvs))(e:valI kvs (.inr x)=some v):WR (QO (.ref i) (.str x) h) Q=Q v h:=by
 unfold QO
 simp only[hi,keyI,e]
 rfl
theorem Jm6 {name:Str}{gap len due late d:Int}{hs:List Hd}{w:Nat}(hw:h[w]?=some (.ins "Work" (wfs name gap len due late (hs.map tupH))))(l6:hs.length<=6) :
  WR (Jaq (k+2) [.ref w,.int d] h) λ v h'=>∃i,v=.ref i/\h.length<=i/\h'[i]?=some (.lst ((act hs d).map .str))/\Ex h h':=by
 have hb:=J0
 rw[Jii]
 simp! [Jcd]
 refine WR.mono (Jk0 (h:=h++[L3.IO.lst (hs.map tupH)]) (xs:=hs.map tupH) (chk:=λ h'=>h'[h.length]?=some (.lst (hs.map tupH))) (p:=avV d) (f:=frs) ?_ (by rw[Zh];omega) (λ h2 q=>q _ _ Jj) ?_ ?_) ?_
 ·rw[JU,VM (i:=w) (h1:=h) rfl hw flh (Jcn _)]
  simp! [Jhu hw,JM,Jj]
 ·intro v hv h2 q
  obtain⟨a,_,rfl⟩:=ZB.mp hv
  simp only[Z0,Zbk,Zat,Za5,ZbB]
  simp! [Jbe,tupH,avV,decide_eq_true_eq,decide_eq_false_iff_not]
  exact⟨λ z=>⟨by simp[z],.refl _⟩,λ z=>⟨by simp[z],.refl _⟩⟩
 ·intro v hv _ h2 q
  obtain⟨a,_,rfl⟩:=ZB.mp hv
  simp! [Jbd,tupH,frs]
  exact .refl _
 ·rintro _ _ ⟨rfl,g,rfl⟩
  rw[Jq6]
  exact⟨_,rfl,by rw[Zo];omega,J1,(Ex.one _ _).trans (.cons _ _ _)⟩
theorem Jsq {a i t:Nat}{zs:List Str}{hss:List (List Hd)}{kvs:List (Key×IV)}(gi:h[i]?=some (.lst (zs.map .str)))(gt:h[t]?=some (.dct kvs))(tv:∀x,(valI kvs (.inr x)).getD .non=fV (fstK hss x))(hz:∀z∈zs,fstK hss z≠none)(la:zs.length<=6) :
  WR (Ji2 (k+1) [.int (a:Int),.ref i,.ref t] h) λ v h'=>v=.int (rk hss zs a)/\Ex h h':=by
 have hb:=J0
 rw[Jr2]
 simp! [Jiu,Z7,Zbc]
 refine⟨by omega,?_⟩
 have x3:Ex h (h++[L3.IO.lst [IV.int (a:Int)]]):=.one _ _
 have gA:(h++[L3.IO.lst [IV.int (a:Int)]])[h.length]?=some (.lst ([(a:Int)].map IV.int)):=Jj
 generalize h.length=A at gA
 generalize h++[L3.IO.lst [IV.int (a:Int)]]=h3 at x3 gA
 refine WR.mono (Qh (h:=h3) (xs:=zs.map IV.str) (chk:=λ h'=>h'[i]?=some (.lst (zs.map IV.str))) (f:=fstV hss) ?_ (by rw[Zh];omega) (λ h4 q=>q _ _ (x3.get gi)) ?_) ?_
 ·simp! [JM,x3.get gi]
 ·intro v hv h4 q
  obtain⟨x,hx,rfl⟩:=ZB.mp hv
  have e1:=tv x
  have ne:=hz x hx
  cases ef:fstK hss x with
  | none=>exact absurd ef ne
  | some jj =>
   rw[ef] at e1
   have e2:valI kvs (.inr x)=some (.int (jj:Int)):=by
    cases ev:valI kvs (.inr x) with
    | none=>rw[ev] at e1;cases e1
    | some v=>rw[ev] at e1;rw[show v=.int (jj:Int) from e1]
   simp only[Z0,Zbk,Zat,Za5,ZbB]
   simp! [Jfk]
   rw[J0i (q _ _ (x3.get gt)) e2]
   exact⟨by simp only[fstV,fZ,ef],.refl _⟩
 ·rintro _ _ ⟨rfl,g,rfl⟩
  have em:(zs.map IV.str).map (fstV hss)=(zs.map (fZ hss)).map IV.int:=by
   rw[Za7,Za7]
   rfl
  rw[em]
  have x4:Ex h3 (h3++L3.IO.lst ((zs.map (fZ hss)).map IV.int)::g):=.cons _ _ _
  simp! [Jkx,x4.get gA,J1,Zh,Z7,Zbc]
  refine⟨by omega,?_⟩
  rw[<- ZaJ]
  rw[show[(a:Int)]++zs.map (fZ hss)=rkNs hss zs a from rfl,Jtw (ns:=rkNs hss zs a) Jj (by simp[rkNs])]
  exact⟨rfl,(x3.trans x4).trans (.one _ _)⟩
theorem Jxs {rs:List RH}{a:Nat}(ha:a<rs.length){d:Int}:∀z∈act (rs[a]).2 d,fstK (rs.map (·.2)) z≠none:=λ z q=>by
 obtain⟨b,hb',rfl⟩:=Jxu q
 intro e
 unfold fstK at e
 rw[Zdw] at e
 have:=e (rs[a]).2 (ZB.mpr ⟨rs[a],Zz ha,rfl⟩)
 unfold has at this
 have t2:((rs[a]).2.any λ x=>decide (x.1=b.1))=true:=ZdG.mpr ⟨b,hb',by simp⟩
 rw[t2] at this
 cases this
abbrev ofs (D T:Nat):List (Str×IV):=[("duty",.ref D),("tops",.ref T)]
abbrev ofs1 (D:Nat):List (Str×IV):=[("duty",.ref D)]
theorem op0 {a:IV}:putI "duty" a ([]:List (Str×IV))=([("duty",a)]:List (Str×IV)):=by kernel_rfl
theorem op1 {a b:IV}:putI "tops" b ([("duty",a)]:List (Str×IV))=([("duty",a),("tops",b)]:List (Str×IV)):=by kernel_rfl
theorem ol0 {D T:Nat}:(ofs D T).lookup ("duty":Str)=some (.ref D):=by kernel_rfl
theorem ol1 {D T:Nat}:(ofs D T).lookup ("tops":Str)=some (.ref T):=by kernel_rfl
theorem olr {D T:Nat}:(ofs D T).lookup ("rank_of":Str)=none:=by kernel_rfl
theorem olh {D T:Nat}:(ofs D T).lookup ("holds":Str)=none:=by kernel_rfl
def IsOr (h:IH)(kind:Int)(O:Nat)(rs:List RH):Prop:=∃D,IsDu h D rs/\∃T kvs,h[O]?=some (.ins "ByRank" (ofs D T))/\h[T]?=some (.dct kvs)/\∀x,(valI kvs (.inr x)).getD .non=fV (fstK (rs.map (·.2)) x)
theorem IsOr.kp {h h':IH}{kind:Int}{O:Nat}{rs:List RH}(k:Kp h h')(o:IsOr h kind O rs):IsOr h' kind O rs:=by
 obtain⟨D,d,T,kvs,b,c,e⟩:=o
 exact⟨D,d.kp k,T,kvs,k _ _ b,k _ _ c,e⟩
theorem Jqq {c:Str}{O D:Nat}(hO:h[O]?=some (.ins c [])):Jb5 (k+1) [.ref O,.ref D] h=.ok .non (h.set O (.ins c (ofs1 D))):=by
 refine Jv ?_
 rw[Jj8]
 simp! [Jc2,VQ]
 refine⟨_,_,_,rfl,hO,by decide,?_⟩
 rw[op0]
theorem Js4 {D:Nat}{rs:List RH}(d:IsDu h D rs)(hl:rs.length<=12)(h6:∀r∈rs,r.2.length<=6):WR (Jao (k+4) [.ref h.length,.ref D] (h++[.ins "ByRank" []])) λ v h'=>v=.non/\Ex h h'/\IsOr h' 0 h.length rs:=by
 rw[Jid]
 simp! [Jb6,Jb7,Jqq (k:=k+2) (h:=h++[.ins "ByRank" []]) Jj,Xd,VQ]
 have x1:Ex h (h++[L3.IO.ins "ByRank" (ofs1 D)]):=.one _ _
 have d1:=d.kp x1.kp
 obtain⟨vs,gD,w⟩:=id d1
 refine WR.mono (Jnm (k:=k+1) gD w hl h6) ?_
 rintro _ _ ⟨t,kvs,rfl,gt,tv,g,rfl⟩
 refine⟨_,_,_,rfl,grow Jj,by show(1:Nat)<1000;decide,?_⟩
 rw[op1]
 have e:(h++[L3.IO.ins "ByRank" (ofs1 D)]++g).set h.length (.ins "ByRank" (ofs D t))=h++.ins "ByRank" (ofs D t)::g:=by
  rw[ZQ,ZV,Zac,Xe]
 rw[e]
 have kb:KpB h.length (h++[L3.IO.ins "ByRank" (ofs1 D)]++g) (h++L3.IO.ins "ByRank" (ofs D t)::g):=λ j o hj z=>by
  rw[<- e,ZC (ZK hj)]
  exact z
 have ht:t≠h.length:=λ z=>by
  rw[z] at gt
  have:(h++[L3.IO.ins "ByRank" (ofs1 D)]++g)[h.length]?=some (.ins "ByRank" (ofs1 D)):=grow Jj
  rw[this] at gt
  cases gt
 exact⟨.cons _ _ _,D,d.kp (Ex.cons _ _ _).kp,t,kvs,J1,kb _ _ ht gt,tv⟩
end
section
seal L4.run L4.WS
section
variable {k:Nat}{h:IH}
theorem argC {σ:ISt}{h1 h2:IH}{a:E1}{b:A1}{x:IV}{xs:List IV}(ea:a σ h=.ok x h1)(eb:b σ h1=.ok xs h2):Jb a b σ h=.ok (x::xs) h2:=by
 show(a σ h).bind (λ x h1=>(b σ h1).bind λ xs h2=>.ok (x::xs) h2)=_
 rw[ea]
 show(b σ h1).bind _=_
 rw[eb]
 rfl
theorem wkE {vs:List IV}{D j:Nat}{n:Int}{o e:E1}{σ:ISt}(hD:h[D]?=some (.ins "Duty" (dfs vs)))(eo:o σ h=.ok (.ref D) h)(ee:e σ h=.ok (.int n) h)(av:atI vs n=some (.ref j)):Jn (pg (k+1)) "work" 1 o (Jb e Jd) σ h=.ok (.ref j) h:=dotE eo hD dlw (Jcm _) (arg1 ee) (Jg8 hD av)
theorem Jrj {O D T:Nat}{rs:List RH}{kvs:List (Key×IV)}{c:Cm}{d:Int}(hd:IsDu h D rs)(gO:h[O]?=some (.ins "ByRank" (ofs D T)))(gT:h[T]?=some (.dct kvs))(tv:∀x,(valI kvs (.inr x)).getD .non=fV (fstK (rs.map (·.2)) x))(ha:c.at_<rs.length)(l6:∀r∈rs,r.2.length<=6) :
  WR (Jal (k+3) [.ref O,tupC c,.int d] h) λ v h'=>v=.int (rk (rs.map (·.2)) (act (rs[c.at_]).2 d) c.at_)/\Ex h h':=by
 obtain⟨vs,gD,w⟩:=hd
 obtain⟨j,ej,gj⟩:=w.get (Zb ha)
 have av:atI vs (c.at_:Int)=some (.ref j):=JH ej
 have hz:=Jxs ha (d:=d)
 have l:=l6 _ (Zz ha)
 generalize rs[c.at_]=r at gj hz l
 rw[Je6]
 refine xfin (xret (xb (xb ?_)))
 refine WR.of_eq (ixtE rfl rfl JX) (xb (xb (xb (WR.of_eq (arg2 (wkE gD (fldE rfl gO ol0) (ixtE rfl rfl JX) av) rfl) (WR.mono (Jm6 (k:=k) gj l) ?_)))))
 rintro _ h1 ⟨i,rfl,li,gi,x1⟩
 have la:=Jxt r.2 d
 refine xb (WR.of_eq (arg1 (fldE rfl (x1.get gO) ol1)) (WR.of_eq rfl (WR.of_eq rfl (WR.mono (Jsq (k:=k+1) gi (x1.get gT) tv hz (by omega)) ?_))))
 rintro _ h2 ⟨rfl,x2⟩
 exact⟨rfl,x1.trans x2⟩
theorem Jlt {O D T:Nat}{rs:List RH}{c:Cm}{d:Int}(hd:IsDu h D rs)(gO:h[O]?=some (.ins "ByRank" (ofs D T)))(ha:c.at_<rs.length)(l6:∀r∈rs,r.2.length<=6) :
  WR (Jba (k+3) [.ref O,tupC c,.int d] h) λ v h'=>v=.bl (!(act (rs[c.at_]).2 d).isEmpty)/\Ex h h':=by
 obtain⟨vs,gD,w⟩:=hd
 obtain⟨j,ej,gj⟩:=w.get (Zb ha)
 have av:atI vs (c.at_:Int)=some (.ref j):=JH ej
 have l:=l6 _ (Zz ha)
 generalize rs[c.at_]=r at gj l
 rw[Jhc]
 obtain⟨_,h1,e1,i,rfl,li,gi,x1⟩:=(Jm6 (k:=k) (d:=d) gj l).eq
 refine xfin (xret (WR.of_eq ((binE (lenE (Qj (arg2 (wkE gD (fldE rfl gO ol0) (ixtE rfl rfl JX) av) rfl) e1) gi) rfl).trans rfl) ⟨?_,x1⟩))
 rw[Zh]
 cases act r.2 d<;>simp
def XX (kind:Int)(rs:List RH)(c:Cm)(d:Int):Int:=rk (rs.map (·.2)) (act (rs.getD c.at_ rd).2 d) c.at_
def Xp (kind:Int)(rs:List RH)(c:Cm)(d:Int):Bool:=!(act (rs.getD c.at_ rd).2 d).isEmpty
theorem VV {rs:List RH}{n:Nat}(hn:n<rs.length):rs.getD n rd=rs[n]:=by rw[Zi,Zb hn];rfl
theorem Js0 {kind:Int}{O:Nat}{rs:List RH}(o:IsOr h kind O rs):∃Du,IsDu h Du rs/\∀(e:E1) (σ:ISt),e σ h=.ok (.ref O) h->Jo "duty" e σ h=.ok (.ref Du) h:=by
 obtain⟨D,hd,T,kvs,gO,_⟩:=o
 exact⟨D,hd,λ e σ he=>fldE he gO ol0⟩
theorem Jp4 {kind:Int}{O:Nat}{rs:List RH}{c:Cm}{d:Int}{oe e1 e2:E1}{σ:ISt}(o:IsOr h kind O rs)(ho:oe σ h=.ok (.ref O) h)(h1:e1 σ h=.ok (tupC c) h)(h2:e2 σ h=.ok (.int d) h)(ha:c.at_<rs.length)(l6:∀r∈rs,r.2.length<=6) :
  WR (Jn (pg (k+3)) "rank_of" 2 oe (Jb e1 (Jb e2 Jd)) σ h) λ v h'=>v=.int (XX kind rs c d)/\Ex h h':=by
 obtain⟨D,hd,T,kvs,gO,gT,tv⟩:=o
 refine XR ho gO olr (Je5 _) (WR.of_eq (arg2 h1 h2) (WR.mono (Jrj (k:=k) hd gO gT tv ha l6) ?_))
 rintro _ h3 ⟨rfl,x3⟩
 exact⟨by rw[XX,VV ha],x3⟩
theorem Jna {kind:Int}{O:Nat}{rs:List RH}{c:Cm}{d:Int}{oe e1 e2:E1}{σ:ISt}(o:IsOr h kind O rs)(ho:oe σ h=.ok (.ref O) h)(h1:e1 σ h=.ok (tupC c) h)(h2:e2 σ h=.ok (.int d) h)(ha:c.at_<rs.length)(l6:∀r∈rs,r.2.length<=6) :
  WR (Jn (pg (k+3)) "holds" 2 oe (Jb e1 (Jb e2 Jd)) σ h) λ v h'=>v=.bl (Xp kind rs c d)/\Ex h h':=by
 obtain⟨D,hd,T,kvs,gO,gT,tv⟩:=o
 refine XR ho gO olh (Jg7 _) (WR.of_eq (arg2 h1 h2) (WR.mono (Jlt (k:=k) hd gO ha l6) ?_))
 rintro _ h3 ⟨rfl,x3⟩
 exact⟨by rw[Xp,VV ha],x3⟩
end
end
def cd:Cm:=⟨0,0,0,0⟩
def keyN (kind:Int)(rs:List RH)(cs:List Cm)(ds:List Int)(n:Nat):List Int:=[XX kind rs (cs.getD n cd) (ds.getD n 0),if Xp kind rs (cs.getD n cd) (ds.getD n 0)=true then 0 else 1,(n:Int)]
def keyV (kind:Int)(rs:List RH)(cs:List Cm)(ds:List Int)(v:IV):List Int:=match v with
 | .int x=>keyN kind rs cs ds x.toNat
 | _=>[0,0,0]
theorem Jw2:∀{a b:List Int},a.length=b.length->ltL a b=false->ltL b a=false->a=b
 | [],[],_,_,_=>rfl
 | a::as,b::bs,l,h1,h2=>by
  unfold ltL at h1 h2
  by_cases e:a=b
  ·subst e
   rw[if_pos rfl] at h1 h2
   rw[Jw2 (by simpa using l) h1 h2]
  ·rw[if_neg e,decide_eq_false_iff_not] at h1
   rw[if_neg (ZK e),decide_eq_false_iff_not] at h2
   omega
 | [],_::_,l,_,_=>by simp at l
 | _::_,[],l,_,_=>by simp at l
section
variable {k:Nat}{h:IH}
theorem J0d {xs ys:List IV}{Q:IV->IH->Prop}(hx:xs≠[])(hy:ys≠[])(hl:xs.length+ys.length<=sizeLine):WR (Jl (.tup xs) (.tup ys) h) Q=Q (.tup (xs++ys)) h:=by
 unfold Jl
 dsimp only
 rw[if_pos ⟨hx,hy,hl⟩]
 rfl
theorem ols {D T:Nat}:(ofs D T).lookup ("standing":Str)=none:=by kernel_rfl
theorem olp {D T:Nat}:(ofs D T).lookup ("pick":Str)=none:=by kernel_rfl
abbrev stv (kind:Int)(rs:List RH)(c:Cm)(d:Int):IV:=.tup [.int (XX kind rs c d),.int (if Xp kind rs c d=true then 0 else 1)]
theorem Joc {kind:Int}{O:Nat}{rs:List RH}{c:Cm}{d:Int}(o:IsOr h kind O rs)(ha:c.at_<rs.length)(l6:∀r∈rs,r.2.length<=6) :
  WR (Jam (k+4) [.ref O,tupC c,.int d] h) λ v h'=>v=stv kind rs c d/\Ex h h':=by
 have hb:=J0
 rw[Je7]
 dsimp! [Ja4]
 refine WR.mono (Jp4 (k:=k) (c:=c) (d:=d) o rfl rfl rfl ha l6) ?_
 rintro _ h1 ⟨rfl,x1⟩
 try simp(implicitDefEqProofs:=false) only[YM,YL,Jk6,YN,YK,YO,Jk7,YJ,Xl,Jpz,Jk5,Jp0,XQ,Qr,Jq,Vo,Qe,Yd,Jub,Vn,Jwl,Jpl,Jwh,Jwb,YH,Jpy,Jk2,Jk3,Y6,Jky,Jf9,YI,YE,Jkz,VO,Jv5,Xj,Jpo,Jgb,Jgc,VP,Y9,Y4,Jpx,Jps,YG,Y7,YF,V5,Y5,Jwe,Jwc,Jwa,Jv9,Jv8,Jwf,Jpn,Jpt,Jpm,Jk4,Jpu,Y8,Jwg,JU,VN,Xk,Jk1,Jpp,Jpr,Jpq,Jpw,Jga,Krz,Ksz,Kvz,Ktz,Kuz]
 refine WR.mono (Jna (k:=k) (c:=c) (d:=d) (o.kp x1.kp) rfl rfl rfl ha l6) ?_
 rintro _ h2 ⟨rfl,x2⟩
 have x:=x1.trans x2
 simp! [Z7,Zbc,stv]
 cases Xp kind rs c d with
 | true=>exact⟨λ _=>⟨by omega,rfl,x⟩,λ z=>by cases z⟩
 | false=>exact⟨(λ z=>by cases z),λ _=>⟨by omega,rfl,x⟩⟩
theorem Jhv {kind:Int}{O:Nat}{rs:List RH}{c:Cm}{d:Int}{oe e1 e2:E1}{σ:ISt}(o:IsOr h kind O rs)(ho:oe σ h=.ok (.ref O) h)(h1:e1 σ h=.ok (tupC c) h)(h2:e2 σ h=.ok (.int d) h)(ha:c.at_<rs.length)(l6:∀r∈rs,r.2.length<=6) :
  WR (Jn (pg (k+4)) "standing" 2 oe (Jb e1 (Jb e2 Jd)) σ h) λ v h'=>v=stv kind rs c d/\Ex h h':=by
 have so:=Joc (k:=k) (d:=d) o ha l6
 obtain⟨D,hd,T,kvs,gO,gT,tv⟩:=o
 rw[VM (i:=O) (h1:=h) ho gO ols (Jer _)]
 dsimp! [h1,h2]
 exact so
theorem Jzo {kind:Int}{O R W N:Nat}{rs:List RH}{cs:List Cm}{ps:List Nat}{ds:List Int}(h0:h[0]?=some (.tab "Order.pick"))(o:IsOr h kind O rs)(l6:∀r∈rs,r.2.length<=6)(hc:∀c∈cs,c.at_<rs.length)
  (gR:h[R]?=some (.lst (cs.map tupC)))(gW:h[W]?=some (.lst (ps.map λ p:Nat=>.int p)))(gN:h[N]?=some (.lst (ds.map .int)))(ld:ds.length=cs.length)(ne:ps≠[])(hp:∀p∈ps,p<cs.length) :
  WR (Ja2 (k+5) [.ref O,.ref R,.ref W,.ref N] h) λ v h'=>∃p∈ps,v=.int (p:Int)/\(∀p'∈ps,ltL (keyN kind rs cs ds p') (keyN kind rs cs ds p)=false)/\Ex h h':=by
 have hb:=J0
 rw[Jj9]
 dsimp! [Jc3]
 rw[J0m h0 rfl]
 refine WR.mono (Jtu (kf:=keyV kind rs cs ds) (n:=3) gW (by simpa using ne) ?_ ?_) ?_
 ·intro y hy h1 x1
  obtain⟨p,hp',rfl⟩:=ZB.mp hy
  have lp:=hp p hp'
  have ac:atI (cs.map tupC) (p:Int)=some (tupC cs[p]):=JH (by rw[Zt,Zb lp];rfl)
  have ad:atI (ds.map IV.int) (p:Int)=some (.int (ds[p]'(by omega))):=JH (by rw[Zt,Zb];rfl)
  have ek:keyV kind rs cs ds (.int (p:Int))=[XX kind rs cs[p] (ds[p]'(by omega)),if Xp kind rs cs[p] (ds[p]'(by omega))=true then 0 else 1,(p:Int)]:=by
   show keyN kind rs cs ds (Zeo (p:Int))=_
   rw[ZaW]
   unfold keyN
   rw[Zi,Zi,Zb lp,Zb (show p<ds.length by omega)]
   rfl
  have hc':=hc _ (Zz lp)
  rw[ek]
  generalize cs[p]=c at ac hc'
  generalize ds[p]'(by omega)=d at ad
  simp only[Z0,Zbk,Zat,Za5,ZbB]
  generalize hσ:([some (.int (p:Int)),some (.ref N),some (.ref R),some (.ref O)]:ISt)=σ
  have e1:Jc Je (Ja 2) (Ja 0) σ h1=.ok (tupC c) h1:=Jv (by subst hσ;simp! [Jtt,x1.get gR,ac])
  have e2:Jc Je (Ja 1) (Ja 0) σ h1=.ok (.int d) h1:=Jv (by subst hσ;simp! [Jtt,x1.get gN,ad])
  dsimp! [Jb2]
  refine WR.mono (Jhv (k:=k) (o.kp x1.kp) (by subst hσ;rfl) e1 e2 hc' l6) ?_
  rintro _ h2 ⟨rfl,x2⟩
  subst hσ
  simp! [stv,Z7,Zbc]
  refine⟨by omega,?_⟩
  rw[J0d (by simp) (by simp) (by simp;omega)]
  exact⟨rfl,x2⟩
 ·intro y hy
  obtain⟨p,hp',rfl⟩:=ZB.mp hy
  rfl
 ·rintro v h1 ⟨hv,le,x1⟩
  obtain⟨p,hp',rfl⟩:=ZB.mp hv
  refine⟨p,hp',rfl,λ p' q=>?_,x1⟩
  have:=le _ (ZB.mpr ⟨p',q,rfl⟩)
  simpa only[keyV,ZaW] using this
theorem Jp3 {kind:Int}{O:Nat}{rs:List RH}{oe:E1}{a:A1}{σ:ISt}{v1 v2 v3:IV}{P:IV->IH->Prop}(o:IsOr h kind O rs)(ho:oe σ h=.ok (.ref O) h)(h1:a σ h=.ok [v1,v2,v3] h)(q:WR (Ja2 k [.ref O,v1,v2,v3] h) P) :
  WR (Jn (pg k) "pick" 3 oe a σ h) P:=by
 obtain⟨D,hd,T,kvs,gO,gT,tv⟩:=o
 rw[VM (i:=O) (h1:=h) ho gO olp (Jib _),h1]
 dsimp! [YL]
 exact q
end
section
seal L4.run L4.WS
def rdC (c:Cm):Int:=c.come+c.late
section
variable {k:Nat}{h:IH}
theorem chL {σ:ISt}{h1 h2 h3:IH}{a b c:E1}{i j l:Int}(ea:a σ h=.ok (.int i) h1)(eb:b σ h1=.ok (.int j) h2)(ec:c σ h2=.ok (.int l) h3)(t1:i<=j)(t2:j<=l):JR cLe cLe a b c σ h=.ok (.bl true) h3:=by
 unfold JR
 rw[ea]
 dsimp only[Res.bind]
 rw[eb]
 show(match IV.bl (decide (i<=j)) with|.bl true=>_|.bl false=>_|_=>_)=_
 rw[decide_eq_true t1]
 show(c σ h2).bind _=_
 rw[ec]
 show Res.ok (IV.bl (decide (j<=l))) h3=_
 rw[decide_eq_true t2]
theorem Jus {D:Nat}{rs:List RH}{c:Cm}(hd:IsDu h D rs)(ok:COk rs c):WR (Jdb (k+3) [.ref D,tupC c] h) λ v h'=>v=.bl true/\Ex h h':=by
 have hb:=J0
 obtain⟨vs,hD,w⟩:=hd
 have wl:=w.len
 obtain⟨a,b,c,d⟩:=c
 obtain⟨q1,q2,q3,q4,q5,q6⟩:=ok
 have q1:a<rs.length:=q1
 obtain⟨j,ev,gj⟩:=w.get (Zb q1)
 have av:=JH ev
 have q4:c<=(rs[a]).1.late:=q4
 have q6:d<=(rs[a]).1.len:=q6
 generalize rs[a]=r at gj q4 q6
 rw[Jl7]
 refine xfin (xseq (xiff rfl (xnil (xseq ?_))))
 obtain⟨_,_,ec,rfl,g,rfl⟩:=(Qh (it:=Ju (Ja 1)) (e:=Ja0 (k+2)) (js:=[]) (σ:=[some (.ref D),some (tupC ⟨a,b,c,d⟩),none]) (h0:=h) (h:=h) (xs:=[IV.int (a:Int),IV.int b,IV.int c,IV.int d]) (chk:=λ _=>True) (f:=λ _=>.bl true) ⟨rfl,rfl,rfl⟩ (by simp;omega) (λ _ _=>trivial) (by
  intro v hv h2 q
  obtain⟨i,rfl⟩:∃i,v=.int i:=by
   simp only[Z4,ZN,or_false] at hv
   rcases hv with rfl|rfl|rfl|rfl<;>exact⟨_,rfl⟩
  unfold Ja0
  exact WR.of_eq (Qj (arg1 rfl) (Jfm _)) ⟨rfl,.refl _⟩)).eq
 refine xiff (notE (c:=true) (truE ((cbE (arg1 ec)).trans (all_map (f:=λ _=>true) J1)))) (xnil ?_)
 have x1:Ex h (h++L3.IO.lst ([IV.int (a:Int),IV.int b,IV.int c,IV.int d].map λ _=>.bl true)::g):=.cons _ _ _
 generalize h++L3.IO.lst ([IV.int (a:Int),IV.int b,IV.int c,IV.int d].map λ _=>.bl true)::g=h1 at x1
 have D1:=x1.get hD
 refine xseq (xiff (orF (notE (tofE (chT rfl (ixtE rfl rfl JX) (dotE rfl D1 dls (Jfl _) rfl (Jl0 D1)) (Int.natCast_nonneg a) (by rw[wl];omega)))) (okc (ltE (ixtE rfl rfl Qi) rfl) (decide_eq_false (Int.not_lt.mpr q2)))) (xnil (xseq (xset (WR.of_eq (wkE D1 rfl (ixtE rfl rfl JX) av) ?_)))))
 exact xret (WR.of_eq (J3t (chL rfl (ixtE rfl rfl Q5) (fldE rfl (x1.get gj) fl4) q3 q4) (chL rfl (ixtE rfl rfl Qd) (fldE rfl (x1.get gj) fl2) q5 q6)) ⟨rfl,x1⟩)
theorem Jyp {D R:Nat}{rs:List RH}{cs:List Cm}(hd:IsDu h D rs)(gR:h[R]?=some (.lst (cs.map tupC)))(L:Legal rs cs)(hl:cs.length<=1000) :
  WR (Jbi (k+4) [.ref D,.ref R] h) λ v h'=>v=.non/\Ex h h':=by
 have hb:=J0
 obtain⟨vs,hD,w⟩:=id hd
 rw[Jie]
 refine xfin (xseq (xset (WR.of_eq rfl (xseq (xfor ?_)))))
 rw[VN]
 refine WR.of_eq (arg1 rfl) ((Jtr _).mpr ⟨_,grow gR,?_⟩)
 refine Qs (λ n σ h'=>∃kvs g a b c,h'=h++L3.IO.dct kvs::g/\σ=[some (.ref D),some (.ref R),some (.ref h.length),a,b,c]/\kvs.length<=n/\∀(a:Nat) v,valI kvs (.inl (a:Int))=some v->∃i c,i<n/\cs[i]?=some c/\c.at_=a/\v=.int c.come) ?_ ?_ ?_ ⟨[],[],none,none,none,rfl,rfl,Zl _,λ a v e=>by cases e⟩
 ·rintro _ _ _ ⟨kvs,g,a,b,c,rfl,_⟩
  exact grow gR
 ·rintro n hn _ _ ⟨kvs,g,a,b,c,rfl,rfl,ln,td⟩
  rw[Jrx]
  have hc:n<cs.length:=by simpa [Xv] using hn
  have x1:Ex h (h++L3.IO.dct kvs::g):=.cons _ _ _
  rw[ZM]
  have ec:cs[n]?=some cs[n]:=Zb hc
  have ok:=L.ok _ (Zz hc)
  generalize cs[n]=ci at ec ok
  obtain⟨_,_,e2,rfl,g2,rfl⟩:=(Jus (k:=k) (c:=ci) (hd.kp x1.kp) ok).eq
  refine xnx rfl (xseq (xiff (notE (truE (Qj (arg2 rfl rfl) e2))) (xnil (xseq (xset (WR.of_eq (ixtE rfl rfl JX) (xseq ?_)))))))
  have eh:h++L3.IO.dct kvs::g++g2=h++L3.IO.dct kvs::(g++g2):=by rw[ZQ,ZV]
  rw[eh]
  have x2:Ex h (h++L3.IO.dct kvs::(g++g2)):=.cons _ _ _
  have hat:=ok.at_
  have er:=Zb hat
  obtain⟨j,ev,gj⟩:=w.get er
  have av:=JH ev
  generalize rs[ci.at_]=r at er gj
  have fin:∀{σ:ISt}(a b c),σ=[some (.ref D),some (.ref R),some (.ref h.length),a,b,c]->∃kvs_1 g_1 a b c,List.set (h++L3.IO.dct kvs::(g++g2)) h.length (L3.IO.dct (putD kvs (.inl (ci.at_:Int)) (.int ci.come)))=h++L3.IO.dct kvs_1::g_1/\σ=[some (.ref D),some (.ref R),some (.ref h.length),a,b,c]/\kvs_1.length<=n+1/\∀(a:Nat) v,valI kvs_1 (.inl (a:Int))=some v->∃i c,i<n+1/\cs[i]?=some c/\c.at_=a/\v=.int c.come:=by
   intro σ a b c hσ
   refine⟨_,_,_,_,_,Xe _ _ _,hσ,?_,λ a v e=>?_⟩
   ·unfold putD
    split
    ·rw[Zh];omega
    ·rw[Zo,Zaa];omega
   ·rw[Jkt] at e
    split at e
    ·rename_i z
     cases e
     exact⟨n,ci,by omega,ec,by have:=Sum.inl.inj z;omega,rfl⟩
    ·obtain⟨i,c,h1,h2⟩:=td a v e
     exact⟨i,c,by omega,h2⟩
  have key:∀{σ:ISt}(a b:Option IV),σ=[some (.ref D),some (.ref R),some (.ref h.length),a,some (tupC ci),some (.int (ci.at_:Int))]->∀P,WS (sAsg (Jc Je (Ja 4) (eC (.int 1))) (gSbD (Ja 2) (Ja 5)) σ (h++L3.IO.dct kvs::(g++g2))) (λ σ h'=>∃kvs g a b c,h'=h++L3.IO.dct kvs::g/\σ=[some (.ref D),some (.ref R),some (.ref h.length),a,b,c]/\kvs.length<=n+1/\∀(a:Nat) v,valI kvs (.inl (a:Int))=some v->∃i c,i<n+1/\cs[i]?=some c/\c.at_=a/\v=.int c.come) P:=by
   rintro σ a b rfl P
   refine(Xl ..).mpr (WR.of_eq (ixtE rfl rfl Qi) ?_)
   rw[Jtz]
   refine WR.of_eq rfl (WR.of_eq rfl ?_)
   rw[Jp1 (J1 (h:=h)) (show kvs.length<sizeLine by omega)]
   exact fin _ _ _ rfl
  have ei:∀{σ:ISt}(a b:Option IV),σ=[some (.ref D),some (.ref R),some (.ref h.length),a,some (tupC ci),some (.int (ci.at_:Int))]->Jg asB (Jc cInD (Ja 5) (Ja 2)) σ (h++L3.IO.dct kvs::(g++g2))=.ok (valI kvs (.inl (ci.at_:Int))).isSome (h++L3.IO.dct kvs::(g++g2)):=by
   rintro σ a b rfl
   exact tofE ((binE rfl rfl).trans (Jv (by rw[Jts J1];exact⟨rfl,rfl⟩)))
  cases el:valI kvs (.inl (ci.at_:Int)) with
  | none=>exact xiff (andF ((ei _ none rfl).trans (by rw[el];rfl))) (xnil (key _ none rfl _))
  | some l =>
   obtain⟨i,c0,hi,e0,ea,rfl⟩:=td _ _ el
   have far:=L.far i n c0 ci hi e0 ec ea r (by rw[ea];exact er)
   exact xiff (andT ((ei _ none rfl).trans (by rw[el];rfl)) (okc (ltE (subE (ixtE rfl rfl Qi) ((binE rfl rfl).trans (Jv (by rw[Jxp J1 el];exact⟨rfl,rfl⟩)))) (fldE (wkE (x2.get hD) rfl rfl av) (x2.get gj) fl1)) (decide_eq_false (by omega)))) (xnil (key _ none rfl _))
 ·rintro _ _ ⟨kvs,g,a,b,c,rfl,rfl,_⟩
  exact xret (WR.of_eq rfl ⟨rfl,.cons _ _ _⟩)
theorem J0t {D R:Nat}{rs:List RH}{cs:List Cm}(hd:IsDu h D rs)(gR:h[R]?=some (.lst (cs.map tupC)))(L:Legal rs cs)(hl:cs.length<=200) :
  WR (Jgd (k+5) [.ref D,.ref R] h) λ v h'=>v=.non/\Ex h h':=by
 rw[Jp8]
 refine xfin (xseq (xiff (okc (gtE (lenE rfl gR) rfl) (decide_eq_false (by rw[Zh];omega))) (xnil (xseq (xset (xb (WR.of_eq (arg2 rfl rfl) (WR.mono (Jyp (k:=k) hd gR L (by omega)) ?_))))))))
 rintro _ h1 ⟨rfl,x1⟩
 exact xiff rfl (xnil ⟨rfl,x1⟩)
theorem Jo4 {c:Cm}:Ji3 (k+1) [tupC c] h=.ok (.int (rdC c)) h:=Jv (by rw[Jug];exact xfin (xret (WR.of_eq (addE (ixtE rfl rfl Qi) (ixtE rfl rfl Q5)) ⟨rfl,rfl⟩)))
end
end
theorem Jp2 {t:T1}{b:S1}{σ:ISt}{h:IH}{N:ISt->IH->Prop}{R:IV->IH->Prop}(I:Nat->ISt->IH->Prop)
  (turn:∀m σ h,I m σ h->WR (t σ h) λ c h1=>(c=true->∃m',m=m'+1/\WS (b σ h1) (I m') R)/\(c=false->N σ h1)){m:Nat}(hm:m<1000000)(start:I m σ h):WS (Xb t b σ h) N R:=by
 have key:∀(n m:Nat)(σ:ISt)(h:IH),m<n->I m σ h->WS (V4 t b n σ h) N R:=by
  intro n
  induction n with
  | zero=>intro m σ h hn _;omega
  | succ n ih =>
   intro m σ h hn hI
   obtain⟨c,h1,e,q1,q2⟩:=(turn m σ h hI).eq
   unfold V4
   rw[e]
   cases c with
   | false=>exact q2 rfl
   | true =>
    obtain⟨m',rfl,w⟩:=q1 rfl
    simp only[if_true]
    cases eb:b σ h1 with
    | next σ2 h2=>rw[eb] at w;exact ih m' σ2 h2 (by omega) w
    | ret v h2=>rw[eb] at w;exact w
    | _=>rw[eb] at w;exact w.elim
 have et:XL=1000000:=by unfold XL;rfl
 unfold Xb
 exact key _ m σ h (by rw[et];exact hm) start
structure Bs where
 ds:List Int
 lr:List Nat
 wa:List Nat
 t:Int
 sr:List (Nat×Int×Int)
def rdN (cs:List Cm)(p:Nat):Int:=rdC (cs.getD p cd)
def lnN (cs:List Cm)(p:Nat):Int:=(cs.getD p cd).len
def hsN (rs:List RH)(cs:List Cm)(p:Nat):List Hd:=(rs.getD (cs.getD p cd).at_ rd).2
def pops (cs:List Cm)(t:Int):List Nat->List Nat->List Nat×List Nat
 | [],wa=>([],wa)
 | p::lr,wa=>if rdN cs p<=t then pops cs t lr (wa++[p]) else(p::lr,wa)
def tIn (cs:List Cm)(s:Bs):Int:=match s.wa,s.lr with
 | [],p::_=>if rdN cs p>s.t then rdN cs p else s.t
 | _,_=>s.t
def letM (cs:List Cm)(s:Bs):Bs:=⟨s.ds,(pops cs (tIn cs s) s.lr s.wa).1,(pops cs (tIn cs s) s.lr s.wa).2,tIn cs s,s.sr⟩
def Vr (kind:Int)(rs:List RH)(cs:List Cm)(ds:List Int)(wa:List Nat)(p:Nat):Prop:=p∈wa/\∀q∈wa,ltL (keyN kind rs cs ds q) (keyN kind rs cs ds p)=false
def X7 (kind:Int)(rs:List RH)(cs:List Cm)(ds:List Int)(wa:List Nat):Nat:=(wa.find? λ p=>wa.all λ q=>!ltL (keyN kind rs cs ds q) (keyN kind rs cs ds p)).getD 0
theorem Vr.uniq {kind:Int}{rs:List RH}{cs:List Cm}{ds:List Int}{wa:List Nat}{p q:Nat}(a:Vr kind rs cs ds wa p)(b:Vr kind rs cs ds wa q):p=q:=by
 have:=Jw2 (a:=keyN kind rs cs ds p) (b:=keyN kind rs cs ds q) rfl (b.2 p a.1) (a.2 q b.1)
 simp only[keyN,Zdc,and_true] at this
 omega
theorem Vr.eq {kind:Int}{rs:List RH}{cs:List Cm}{ds:List Int}{wa:List Nat}{p:Nat}(a:Vr kind rs cs ds wa p):X7 kind rs cs ds wa=p:=by
 unfold X7
 cases e:wa.find? λ p=>wa.all λ q=>!ltL (keyN kind rs cs ds q) (keyN kind rs cs ds p) with
 | none =>
  have:=List.find?_eq_none.mp e p a.1
  simp only[Zbh,ZaC,Bool.not_eq_true] at this
  exact absurd a.2 this
 | some q =>
  have h1:=List.find?_some e
  simp only[Zbh,ZaC] at h1
  exact Vr.uniq ⟨List.mem_of_find?_eq_some e,h1⟩ a
def QR (hs:List Hd)(d len:Int):List Int:=len::(hs.filter λ a=>decide (d<a.2.2)).map (·.2.2)
def Vk (hs:List Hd)(d len:Int):Int:=JP (λ i=>(QR hs d len).getD i 0) (QR hs d len).length
def Qc (rs:List RH)(cs:List Cm)(s:Bs)(p:Nat):Int:=match s.lr with
 | []=>Vk (hsN rs cs p) (s.ds.getD p 0) (lnN cs p)-s.ds.getD p 0
 | q::_=>if rdN cs q-s.t<Vk (hsN rs cs p) (s.ds.getD p 0) (lnN cs p)-s.ds.getD p 0 then rdN cs q-s.t else Vk (hsN rs cs p) (s.ds.getD p 0) (lnN cs p)-s.ds.getD p 0
def Vm (p:Nat)(t u:Int):List (Nat×Int×Int)->List (Nat×Int×Int)
 | []=>[(p,t,u)]
 | a::r=>if a.1=p then(p,a.2.1,u)::r else(p,t,u)::a::r
def doM (rs:List RH)(cs:List Cm)(s:Bs)(p:Nat)(n:Int):Bs:=⟨s.ds.set p (s.ds.getD p 0+n),s.lr,if s.ds.getD p 0+n=lnN cs p then s.wa.erase p else s.wa,s.t+n,Vm p s.t (s.t+n) s.sr⟩
def goM (kind:Int)(rs:List RH)(cs:List Cm)(s:Bs):Bs:=doM rs cs s (X7 kind rs cs s.ds s.wa) (Qc rs cs s (X7 kind rs cs s.ds s.wa))
def Qz (kind:Int)(rs:List RH)(cs:List Cm)(s:Bs):Bs:=goM kind rs cs (letM cs s)
def runM (kind:Int)(rs:List RH)(cs:List Cm):Nat->Bs->Bs
 | 0,s=>s
 | m+1,s=>if s.lr=[]/\s.wa=[] then s else runM kind rs cs m (Qz kind rs cs s)
def lr0 (cs:List Cm):List Nat:=(ordK (cs.map rdC).reverse cs.length).map λ i=>cs.length-1-i
def s0 (cs:List Cm):Bs:=⟨cs.map λ _=>0,lr0 cs,[],0,[]⟩
def finM (kind:Int)(rs:List RH)(cs:List Cm):Bs:=runM kind rs cs (8*cs.length) (s0 cs)
theorem Jpe (hs:List Hd)(d len:Int):Vk hs d len=len∨∃a∈hs,d<a.2.2/\Vk hs d len=a.2.2:=by
 obtain⟨j,hj,e⟩:=Jri (λ i=>(QR hs d len).getD i 0) (QR hs d len).length (by simp[QR])
 unfold Vk
 rw[e]
 cases j with
 | zero=>exact .inl rfl
 | succ j =>
  refine .inr ?_
  have hj':j<(hs.filter λ a=>decide (d<a.2.2)).length:=by simpa [QR] using hj
  have m:=Zz hj'
  rw[ZaF] at m
  refine⟨_,m.1,of_decide_eq_true m.2,?_⟩
  simp[QR,Zi,Zb hj']
theorem Jtf (hs:List Hd)(d len:Int):Vk hs d len<=len:=Jol (λ i=>(QR hs d len).getD i 0) _ 0 (by simp[QR])
theorem Jz6 {hs:List Hd}{d len:Int}(h:d<len):d<Vk hs d len:=by
 rcases Jpe hs d len with e|⟨a,_,l,e⟩<;>omega
structure Wf (cs:List Cm)(s:Bs):Prop where
 ld:s.ds.length=cs.length
 mem:∀p∈s.lr++s.wa,p<cs.length
 nd:(s.lr++s.wa).Nodup
 srt:s.lr.Pairwise λ p q=>rdN cs p<=rdN cs q
 z:∀p∈s.lr++s.wa,0<=s.ds.getD p 0/\s.ds.getD p 0<lnN cs p
 dn:∀p,p<cs.length->p∉s.lr++s.wa->s.ds.getD p 0=lnN cs p
 z0:∀p∈s.lr,s.ds.getD p 0=0
 rw:∀p∈s.wa,rdN cs p<=s.t
theorem Jho (cs:List Cm)(t:Int):∀(lr wa:List Nat),((pops cs t lr wa).1++(pops cs t lr wa).2).Perm (lr++wa)
 | [],wa=>.refl _
 | p::lr,wa=>by
  unfold pops
  split
  ·refine(Jho cs t lr (wa++[p])).trans ?_
   rw[<- ZQ]
   exact List.perm_append_singleton p (lr++wa)
  ·exact .refl _
theorem X9 (cs:List Cm)(t:Int):∀(lr wa:List Nat),∃a,lr=a++(pops cs t lr wa).1/\(pops cs t lr wa).2=wa++a/\(∀p∈a,rdN cs p<=t)/\∀q r,(pops cs t lr wa).1=q::r->t<rdN cs q
 | [],wa=>⟨[],rfl,by simp[pops],by simp,by simp[pops]⟩
 | p::lr,wa=>by
  unfold pops
  split
  ·rename_i c
   obtain⟨a,e1,e2,e3,e4⟩:=X9 cs t lr (wa++[p])
   exact⟨p::a,congrArg (p:: ·) e1,by rw[e2];simp,λ q hq=>by rcases Z4.mp hq with rfl|hq;exact c;exact e3 q hq,e4⟩
  ·rename_i c
   exact⟨[],rfl,by simp,by simp,λ q r e=>by cases e;omega⟩
theorem Jti (cs:List Cm)(s:Bs):s.t<=tIn cs s:=by
 unfold tIn
 split
 ·split<;>omega
 ·omega
theorem Wf.let {cs:List Cm}{s:Bs}(w:Wf cs s):Wf cs (letM cs s):=by
 obtain⟨a,e1,e2,e3,e4⟩:=X9 cs (tIn cs s) s.lr s.wa
 have pm:=Jho cs (tIn cs s) s.lr s.wa
 have tg:=Jti cs s
 refine⟨w.ld,λ p hp=>w.mem p (pm.mem_iff.mp hp),pm.nodup_iff.mpr w.nd,?_,λ p hp=>w.z p (pm.mem_iff.mp hp),λ p l hp=>w.dn p l λ z=>hp (pm.mem_iff.mpr z),λ p hp=>w.z0 p ?_,λ p hp=>?_⟩
 ·have:=w.srt
  rw[e1] at this
  exact(ZcW.mp this).2.1
 ·rw[e1]
  exact Zj _ hp
 ·have hp:p∈(pops cs (tIn cs s) s.lr s.wa).2:=hp
  rw[e2] at hp
  rcases ZS.mp hp with hp|hp
  ·have:=w.rw p hp
   exact ZbI this tg
  ·exact e3 p hp
theorem Jso {cs:List Cm}{s:Bs}(ne:¬(s.lr=[]/\s.wa=[])):(letM cs s).wa≠[]:=by
 obtain⟨a,e1,e2,e3,e4⟩:=X9 cs (tIn cs s) s.lr s.wa
 intro e
 have e:(pops cs (tIn cs s) s.lr s.wa).2=[]:=e
 rw[e2] at e
 obtain⟨ew,ea⟩:=List.append_eq_nil_iff.mp e
 cases el:s.lr with
 | nil=>exact ne ⟨el,ew⟩
 | cons p r =>
  have:=e4 p r (by rw[<- el];simpa [ea] using e1.symm)
  have ht:tIn cs s=if rdN cs p>s.t then rdN cs p else s.t:=by unfold tIn;rw[ew,el]
  rw[ht] at this
  split at this<;>omega
theorem Jwz {cs:List Cm}{s:Bs}(w:Wf cs s):∀q∈(letM cs s).lr,(letM cs s).t<rdN cs q:=by
 obtain⟨a,e1,e2,e3,e4⟩:=X9 cs (tIn cs s) s.lr s.wa
 have ws:=w.let.srt
 show ∀q∈(pops cs (tIn cs s) s.lr s.wa).1,tIn cs s<rdN cs q
 have ws:((pops cs (tIn cs s) s.lr s.wa).1).Pairwise _:=ws
 cases e:(pops cs (tIn cs s) s.lr s.wa).1 with
 | nil=>simp
 | cons p r =>
  have:=e4 p r e
  rw[e] at ws
  intro q hq
  rcases Z4.mp hq with rfl|hq
  ·exact this
  ·have:=(Zcy.mp ws).1 q hq
   omega
theorem Jht {rs:List RH}{cs:List Cm}{s:Bs}{p:Nat}(gt:∀q∈s.lr,s.t<rdN cs q)(l:s.ds.getD p 0<lnN cs p):0<Qc rs cs s p/\s.ds.getD p 0+Qc rs cs s p<=Vk (hsN rs cs p) (s.ds.getD p 0) (lnN cs p):=by
 have:=Jz6 (hs:=hsN rs cs p) l
 unfold Qc
 split
 ·omega
 ·rename_i q r e
  have:=gt q (by rw[e];simp)
  split<;>omega
theorem Yg {α:Type}{l:List α}{i j:Nat}{x z:α}:(l.set i x).getD j z=if i=j/\j<l.length then x else l.getD j z:=by
 simp only[Zi,List.getElem?_set]
 by_cases e:i=j
 ·subst e
  by_cases l':i<l.length
  ·simp[l']
  ·simp[l',Zbg (ZcL l')]
 ·simp[e]
theorem Wf.do {rs:List RH}{cs:List Cm}{s:Bs}(w:Wf cs s){p:Nat}(hp:p∈s.wa){n:Int}(n0:0<n)(nl:s.ds.getD p 0+n<=lnN cs p):Wf cs (doM rs cs s p n):=by
 have lp:=w.mem p (Zj _ hp)
 have sub:(s.lr++(doM rs cs s p n).wa).Sublist (s.lr++s.wa):=by
  refine List.Sublist.append_left ?_ _
  show List.Sublist (if _ then _ else _) _
  split
  ·exact List.erase_sublist
  ·exact List.Sublist.refl _
 have nl':∀q∈s.lr,q≠p:=λ q hq e=>(ZcW.mp w.nd).2.2 q hq p hp e
 have nw:s.wa.Nodup:=(ZcW.mp w.nd).2.1
 have g:∀q,(doM rs cs s p n).ds.getD q 0=if p=q then s.ds.getD p 0+n else s.ds.getD q 0:=λ q=>by
  show(s.ds.set p _).getD q 0=_
  rw[Yg]
  by_cases e:p=q
  ·subst e;rw[if_pos ⟨rfl,by rw[w.ld];exact lp⟩,if_pos rfl]
  ·rw[if_neg λ z=>e z.1,if_neg e]
 refine⟨by show(s.ds.set _ _).length=_;rw[Zbn];exact w.ld,λ q hq=>w.mem q (sub.subset hq),w.nd.sublist sub,w.srt,λ q hq=>?_,λ q lq hq=>?_,λ q hq=>?_,λ q hq=>?_⟩
 ·have:=w.z q (sub.subset hq)
  rw[g]
  split
  ·rename_i e
   subst e
   refine⟨by omega,?_⟩
   rcases ZS.mp hq with hq|hq
   ·exact absurd rfl (nl' p hq)
   ·have hq:p∈if s.ds.getD p 0+n=lnN cs p then s.wa.erase p else s.wa:=hq
    split at hq
    ·exact absurd hq (List.Nodup.not_mem_erase nw)
    ·omega
  ·exact this
 ·rw[g]
  split
  ·rename_i e
   subst e
   have hq:p∉s.lr++if s.ds.getD p 0+n=lnN cs p then s.wa.erase p else s.wa:=hq
   split at hq
   ·assumption
   ·exact absurd (Zj _ hp) hq
  ·rename_i ne
   refine w.dn q lq λ z=>hq ?_
   show q∈s.lr++if s.ds.getD p 0+n=lnN cs p then s.wa.erase p else s.wa
   split
   ·rcases ZS.mp z with z|z
    ·exact Zam _ z
    ·exact Zj _ ((List.mem_erase_of_ne (ZK ne)).mpr z)
   ·exact z
 ·rw[g,if_neg (ZK (nl' q hq))]
  exact w.z0 q hq
 ·have:=w.rw q (by
   have hq:q∈if s.ds.getD p 0+n=lnN cs p then s.wa.erase p else s.wa:=hq
   split at hq
   ·exact List.mem_of_mem_erase hq
   ·exact hq)
  show _<=s.t+n
  omega
theorem Jn3 {kind:Int}{rs:List RH}{cs:List Cm}{ds:List Int}:∀{wa:List Nat},wa≠[]->∃p,Vr kind rs cs ds wa p
 | [],h=>absurd rfl h
 | [p],_=>⟨p,by simp,λ q hq=>by rw[Zy.mp hq];exact Yj _⟩
 | p::q::r,_=>by
  obtain⟨m,hm,lm⟩:=Jn3 (kind:=kind) (rs:=rs) (cs:=cs) (ds:=ds) (wa:=q::r) (by simp)
  cases c:ltL (keyN kind rs cs ds p) (keyN kind rs cs ds m) with
  | true =>
   refine⟨p,by simp,λ x hx=>?_⟩
   rcases Z4.mp hx with rfl|hx
   ·exact Yj _
   ·cases z:ltL (keyN kind rs cs ds x) (keyN kind rs cs ds p) with
    | false=>rfl
    | true=>exact absurd (Jhk z c) (by rw[lm x hx];exact Zp)
  | false =>
   refine⟨m,Zm _ hm,λ x hx=>?_⟩
   rcases Z4.mp hx with rfl|hx
   ·exact c
   ·exact lm x hx
def VB (rs:List RH)(cs:List Cm)(ds:List Int)(p:Nat):Nat:=((hsN rs cs p).filter λ a=>decide (ds.getD p 0<a.2.2)).length
def mea (rs:List RH)(cs:List Cm)(s:Bs):Nat:=(s.lr++s.wa).length+((ZF cs.length).map (VB rs cs s.ds)).sum+(s.lr.filter λ p=>decide (s.t<rdN cs p)).length
theorem Ye {α:Type}{f g:α->Bool}:∀{l:List α},(∀x∈l,f x=true->g x=true)->(l.filter f).length<=(l.filter g).length
 | [],_=>by simp
 | x::l,h=>by
  have ih:=Ye (l:=l) λ y hy=>h y (Zm _ hy)
  have:=h x (by simp)
  simp only[ZcN]
  split
  ·rename_i c
   rw[if_pos (this c)]
   simpa using ih
  ·split
   ·simp only[Z7];omega
   ·exact ih
theorem Jnq {α:Type}{f g:α->Bool}{a:α}:∀{l:List α},a∈l->f a=false->g a=true->(∀x∈l,f x=true->g x=true)->(l.filter f).length<(l.filter g).length
 | x::l,ha,fa,ga,h=>by
  have le:=Ye (l:=l) λ y hy=>h y (Zm _ hy)
  have hx:=h x (by simp)
  rcases Z4.mp ha with rfl|ha
  ·simp only[ZcN,fa,ga,if_true,ZU,if_false,Z7];omega
  ·have ih:=Jnq ha fa ga λ y hy=>h y (Zm _ hy)
   simp only[ZcN]
   split
   ·rename_i c
    rw[if_pos (hx c)]
    simpa using ih
   ·split
    ·simp only[Z7];omega
    ·exact ih
theorem Jpa {f g:Nat->Nat}:∀{l:List Nat},(∀x∈l,f x<=g x)->(l.map f).sum<=(l.map g).sum
 | [],_=>Zl _
 | x::l,h=>by
  have:=h x (by simp)
  have:=Jpa (l:=l) λ y hy=>h y (Zm _ hy)
  simp only[Z0,Zd3]
  omega
theorem Jw8 {f g:Nat->Nat}{a:Nat}:∀{l:List Nat},a∈l->f a<g a->(∀x∈l,f x<=g x)->(l.map f).sum<(l.map g).sum
 | x::l,ha,la,h=>by
  have hx:=h x (by simp)
  have le:=Jpa (l:=l) λ y hy=>h y (Zm _ hy)
  simp only[Z0,Zd3]
  rcases Z4.mp ha with rfl|ha
  ·omega
  ·have:=Jw8 ha la λ y hy=>h y (Zm _ hy)
   omega
theorem Jzb (rs:List RH)(cs:List Cm)(s:Bs):mea rs cs (letM cs s)<=mea rs cs s:=by
 obtain⟨a,e1,e2,e3,e4⟩:=X9 cs (tIn cs s) s.lr s.wa
 have pm:=(Jho cs (tIn cs s) s.lr s.wa).length_eq
 have tg:=Jti cs s
 show((pops cs (tIn cs s) s.lr s.wa).1++(pops cs (tIn cs s) s.lr s.wa).2).length+_+((pops cs (tIn cs s) s.lr s.wa).1.filter λ p=>decide (tIn cs s<rdN cs p)).length<=_
 rw[pm]
 unfold mea
 have h1:=Ye (f:=λ p=>decide (tIn cs s<rdN cs p)) (g:=λ p=>decide (s.t<rdN cs p)) (l:=(pops cs (tIn cs s) s.lr s.wa).1) λ x _ c=>decide_eq_true (ZbJ tg (of_decide_eq_true c))
 have h2:(s.lr.filter λ p=>decide (s.t<rdN cs p)).length=(a.filter λ p=>decide (s.t<rdN cs p)).length+((pops cs (tIn cs s) s.lr s.wa).1.filter λ p=>decide (s.t<rdN cs p)).length:=by
  conv=>lhs;rw[e1]
  rw[Zdt,Zo]
 have h3:((ZF cs.length).map (VB rs cs (letM cs s).ds)).sum=((ZF cs.length).map (VB rs cs s.ds)).sum:=rfl
 omega
theorem J10 {rs:List RH}{cs:List Cm}{s:Bs}(w:Wf cs s)(gt:∀q∈s.lr,s.t<rdN cs q){p:Nat}(hp:p∈s.wa):mea rs cs (doM rs cs s p (Qc rs cs s p))<mea rs cs s:=by
 have lp:=w.mem p (Zj _ hp)
 obtain⟨n0,nl⟩:=Jht (rs:=rs) gt (w.z p (Zj _ hp)).2
 have sl:=Jtf (hsN rs cs p) (s.ds.getD p 0) (lnN cs p)
 have hn:∀n,n=Qc rs cs s p->0<n/\s.ds.getD p 0+n<=lnN cs p:=λ n e=>by rw[e];exact⟨n0,by omega⟩
 have cases3:(s.ds.getD p 0+Qc rs cs s p=lnN cs p)∨(∃a∈hsN rs cs p,s.ds.getD p 0<a.2.2/\s.ds.getD p 0+Qc rs cs s p=a.2.2)∨∃q∈s.lr,s.t+Qc rs cs s p=rdN cs q:=by
  unfold Qc
  have:=Jpe (hsN rs cs p) (s.ds.getD p 0) (lnN cs p)
  split
  ·rcases this with e|⟨a,ha,l,e⟩
   ·exact .inl (by omega)
   ·exact .inr (.inl ⟨a,ha,l,by omega⟩)
  ·rename_i q r e
   split
   ·exact .inr (.inr ⟨q,by rw[e];simp,by omega⟩)
   ·rcases this with e|⟨a,ha,l,e⟩
    ·exact .inl (by omega)
    ·exact .inr (.inl ⟨a,ha,l,by omega⟩)
 generalize Qc rs cs s p=n at n0 nl cases3
 have gd:∀q,(s.ds.set p (s.ds.getD p 0+n)).getD q 0=if p=q then s.ds.getD p 0+n else s.ds.getD q 0:=λ q=>by
  rw[Yg]
  by_cases e:p=q
  ·subst e;rw[if_pos ⟨rfl,by rw[w.ld];exact lp⟩,if_pos rfl]
  ·rw[if_neg λ z=>e z.1,if_neg e]
 have m2:∀q∈ZF cs.length,VB rs cs (s.ds.set p (s.ds.getD p 0+n)) q<=VB rs cs s.ds q:=λ q _=>Ye λ x _ c=>by
  have c:=of_decide_eq_true c
  rw[gd] at c
  refine decide_eq_true ?_
  split at c
  ·rename_i e;subst e;omega
  ·exact c
 have m3:∀x∈s.lr,decide (s.t+n<rdN cs x)=true->decide (s.t<rdN cs x)=true:=λ x _ c=>decide_eq_true (by have:=of_decide_eq_true c;omega)
 have l2:=Jpa m2
 have l3:=Ye m3
 have lw:(s.lr++if s.ds.getD p 0+n=lnN cs p then s.wa.erase p else s.wa).length<=(s.lr++s.wa).length:=by
  rw[Zo,Zo]
  split
  ·have:=Zd4 hp
   omega
  ·omega
 show(s.lr++if s.ds.getD p 0+n=lnN cs p then s.wa.erase p else s.wa).length+((ZF cs.length).map (VB rs cs (s.ds.set p (s.ds.getD p 0+n)))).sum+(s.lr.filter λ x=>decide (s.t+n<rdN cs x)).length<(s.lr++s.wa).length+((ZF cs.length).map (VB rs cs s.ds)).sum+(s.lr.filter λ x=>decide (s.t<rdN cs x)).length
 rcases cases3 with e|⟨a,ha,la,e⟩|⟨q,hq,e⟩
 ·rw[if_pos e,Zo,Zo]
  have:=Zd4 hp
  have:=List.length_pos_of_mem hp
  omega
 ·have:=Jw8 (Zar.mpr lp) (Jnq (a:=a) (f:=λ a=>decide ((s.ds.set p (s.ds.getD p 0+n)).getD p 0<a.2.2)) (g:=λ a=>decide (s.ds.getD p 0<a.2.2)) ha (decide_eq_false (by rw[gd,if_pos rfl];omega)) (decide_eq_true la) λ x _ c=>by
   have c:=of_decide_eq_true c
   rw[gd,if_pos rfl] at c
   exact decide_eq_true (by omega)) m2
  omega
 ·have:=Jnq (a:=q) (f:=λ x=>decide (s.t+n<rdN cs x)) (g:=λ x=>decide (s.t<rdN cs x)) hq (decide_eq_false (by omega)) (decide_eq_true (gt q hq)) m3
  omega
section
seal L4.run
abbrev nI (n:Nat):IV:=.int (n:Int)
abbrev tupS (a:Nat×Int×Int):IV:=.tup [.int (a.1:Int),.int a.2.1,.int a.2.2]
def bfs (O R D L W:Nat)(t:Int)(S:Nat):List (Str×IV):=[("order",.ref O),("row",.ref R),("dones",.ref D),("later",.ref L),("waiting",.ref W),("turn",.int t),("stretches",.ref S)]
section
variable {O R D L W S:Nat}{t u:Int}
theorem bf0:(bfs O R D L W t S).lookup ("order":Str)=some (.ref O):=by kernel_rfl
theorem bf1:(bfs O R D L W t S).lookup ("row":Str)=some (.ref R):=by kernel_rfl
theorem bf2:(bfs O R D L W t S).lookup ("dones":Str)=some (.ref D):=by kernel_rfl
theorem bf3:(bfs O R D L W t S).lookup ("later":Str)=some (.ref L):=by kernel_rfl
theorem bf4:(bfs O R D L W t S).lookup ("waiting":Str)=some (.ref W):=by kernel_rfl
theorem bf5:(bfs O R D L W t S).lookup ("turn":Str)=some (.int t):=by kernel_rfl
theorem bf6:(bfs O R D L W t S).lookup ("stretches":Str)=some (.ref S):=by kernel_rfl
theorem bn0:(bfs O R D L W t S).lookup ("next_ready":Str)=none:=by kernel_rfl
theorem bn1:(bfs O R D L W t S).lookup ("let_in":Str)=none:=by kernel_rfl
theorem bn2:(bfs O R D L W t S).lookup ("turns_for":Str)=none:=by kernel_rfl
theorem bn3:(bfs O R D L W t S).lookup ("tell":Str)=none:=by kernel_rfl
theorem bn4:(bfs O R D L W t S).lookup ("go_on":Str)=none:=by kernel_rfl
theorem bft:putI "turn" (.int u) (bfs O R D L W t S)=bfs O R D L W u S:=by kernel_rfl
end
structure Bg (h0:IH)(kind:Int)(rs:List RH)(cs:List Cm)(O R:Nat):Prop where
 o:IsOr h0 kind O rs
 r:h0[R]?=some (.lst (cs.map tupC))
 c:∀c∈cs,c.at_<rs.length
 l6:∀r∈rs,r.2.length<=6
 p1:h0[0]?=some (.tab "Order.pick")
 n:cs.length<=200
structure Bn (h0 h:IH)(B O R D L W S:Nat)(s:Bs):Prop where
 x:Ex h0 h
 ap:h0.length<=B/\B<D/\D<L/\L<W/\W<S
 b:h[B]?=some (.ins "Bench" (bfs O R D L W s.t S))
 d:h[D]?=some (.lst (s.ds.map .int))
 l:h[L]?=some (.lst (s.lr.reverse.map nI))
 w:h[W]?=some (.lst (s.wa.map nI))
 s:h[S]?=some (.lst (s.sr.reverse.map tupS))
theorem Vc {h0 h:IH}{i:Nat}{o:IO}(x:Ex h0 h)(l:h0.length<=i):Ex h0 (h.set i o):=by
 obtain⟨g,rfl⟩:=x
 exact⟨g.set (i-h0.length) o,by rw[ZcG _ _ l]⟩
theorem J6 {h:IH}{i j:Nat}{o o':IO}(e:h[j]?=some o)(n:i≠j):(h.set i o')[j]?=some o:=by rw[ZC n];exact e
theorem QF {h:IH}{i:Nat}{o o':IO}(e:h[i]?=some o):(h.set i o')[i]?=some o':=ZG (JB e)
section
variable {h0 h h':IH}{B O R D L W S:Nat}{s:Bs}
theorem Bn.ex (b:Bn h0 h B O R D L W S s)(x:Ex h h'):Bn h0 h' B O R D L W S s:=⟨b.x.trans x,b.ap,x.get b.b,x.get b.d,x.get b.l,x.get b.w,x.get b.s⟩
theorem Bn.setT (b:Bn h0 h B O R D L W S s)(u:Int):Bn h0 (h.set B (.ins "Bench" (bfs O R D L W u S))) B O R D L W S ⟨s.ds,s.lr,s.wa,u,s.sr⟩ :=
 have ap:=b.ap
 ⟨Vc b.x (by omega),ap,QF b.b,J6 b.d (by omega),J6 b.l (by omega),J6 b.w (by omega),J6 b.s (by omega)⟩
theorem Bn.setD (b:Bn h0 h B O R D L W S s)(ds:List Int):Bn h0 (h.set D (.lst (ds.map .int))) B O R D L W S ⟨ds,s.lr,s.wa,s.t,s.sr⟩ :=
 have ap:=b.ap
 ⟨Vc b.x (by omega),ap,J6 b.b (by omega),QF b.d,J6 b.l (by omega),J6 b.w (by omega),J6 b.s (by omega)⟩
theorem Bn.setL (b:Bn h0 h B O R D L W S s)(lr:List Nat):Bn h0 (h.set L (.lst (lr.reverse.map nI))) B O R D L W S ⟨s.ds,lr,s.wa,s.t,s.sr⟩ :=
 have ap:=b.ap
 ⟨Vc b.x (by omega),ap,J6 b.b (by omega),J6 b.d (by omega),QF b.l,J6 b.w (by omega),J6 b.s (by omega)⟩
theorem Bn.setW (b:Bn h0 h B O R D L W S s)(wa:List Nat):Bn h0 (h.set W (.lst (wa.map nI))) B O R D L W S ⟨s.ds,s.lr,wa,s.t,s.sr⟩ :=
 have ap:=b.ap
 ⟨Vc b.x (by omega),ap,J6 b.b (by omega),J6 b.d (by omega),J6 b.l (by omega),QF b.w,J6 b.s (by omega)⟩
theorem Bn.setS (b:Bn h0 h B O R D L W S s)(sr:List (Nat×Int×Int)):Bn h0 (h.set S (.lst (sr.reverse.map tupS))) B O R D L W S ⟨s.ds,s.lr,s.wa,s.t,sr⟩ :=
 have ap:=b.ap
 ⟨Vc b.x (by omega),ap,J6 b.b (by omega),J6 b.d (by omega),J6 b.l (by omega),J6 b.w (by omega),QF b.s⟩
end
theorem Jrd {α:Type}{f:α->IV}{p:α}{lr:List α}:atI ((p::lr).reverse.map f) (-1)=some (f p):=by
 have e:(-1+((lr.length:Int)+1)).toNat=lr.length:=by omega
 have l:(1:Int)<=(lr.length:Int)+1:=by omega
 simp[atI,ixN,e,l]
theorem VS {cs:List Cm}{p:Nat}(lp:p<cs.length):atI (cs.map tupC) (p:Int)=some (tupC (cs.getD p cd)):=JH (by rw[Zt,Zi,Zb lp];rfl)
theorem Jxy {ds:List Int}{p:Nat}(lp:p<ds.length):atI (ds.map IV.int) (p:Int)=some (.int (ds.getD p 0)):=JH (by rw[Zt,Zi,Zb lp];rfl)
section
variable {k:Nat}{h0 h:IH}{kind:Int}{rs:List RH}{cs:List Cm}{B O R D L W S:Nat}{s:Bs}{P:IV->IH->Prop}
theorem J4c (g:Bg h0 kind rs cs O R)(b:Bn h0 h B O R D L W S s){p:Nat}{lr:List Nat}(e:s.lr=p::lr)(lp:p<cs.length):Jae (k+2) [.ref B] h=.ok (.int (rdN cs p)) h:=by
 have bl:=b.l
 rw[e] at bl
 refine Jv ?_
 rw[Jdo]
 exact xfin (xret (WR.of_eq (Qj (arg1 (ixlE (fldE rfl b.b bf1) (ixlE (fldE rfl b.b bf3) rfl bl Jrd) (b.x.get g.r) (VS lp))) Jo4) ⟨rfl,rfl⟩))
theorem nrE {Pn:List (Option IV)}(g:Bg h0 kind rs cs O R)(b:Bn h0 h B O R D L W S s){p:Nat}{lr:List Nat}(e:s.lr=p::lr)(lp:p<cs.length):Jn (pg (k+2)) "next_ready" 0 (Ja 0) Jd (some (.ref B)::Pn) h=.ok (.int (rdN cs p)) h :=
 dotE rfl b.b bn0 (Jdn _) rfl (J4c g b e lp)
theorem Js1 {cs:List Cm}{t:Int}{p:Nat}{lr wa:List Nat}:pops cs t (p::lr) wa=if rdN cs p<=t then pops cs t lr (wa++[p]) else(p::lr,wa):=rfl
theorem Jw0 (g:Bg h0 kind rs cs O R)(ml:∀p∈s.lr,p<cs.length)(hl:s.lr.length+s.wa.length<=1000)(b:Bn h0 h B O R D L W S s) :
  WS (Jb1 (k+2) [some (.ref B)] h) (λ _ h'=>Bn h0 h' B O R D L W S ⟨s.ds,(pops cs s.t s.lr s.wa).1,(pops cs s.t s.lr s.wa).2,s.t,s.sr⟩) P:=by
 have hb:=J0
 refine Jp2 (λ m σ h'=>∃lr wa,σ=[some (.ref B)]/\Bn h0 h' B O R D L W S ⟨s.ds,lr,wa,s.t,s.sr⟩/\lr.length=m/\lr.length+wa.length<=1000/\(∀p∈lr,p<cs.length)/\pops cs s.t lr wa=pops cs s.t s.lr s.wa) ?_ (show s.lr.length<1000000 by omega) ⟨s.lr,s.wa,rfl,b,rfl,hl,ml,rfl⟩
 rintro m _ h1 ⟨lr,wa,rfl,b,lm,l2,ml,ep⟩
 refine J3f (WR.of_eq (gtE (lenE (fldE rfl b.b bf3) b.l) rfl) (xdec (λ c=>?_) λ c=>?_))
 ·cases lr with
  | nil=>exact absurd c (by simp)
  | cons p lr =>
   rw[Js1] at ep
   refine WR.of_eq (leE (nrE g b rfl (ml p (by simp))) (fldE rfl b.b bf5)) (xdec (λ c=>?_) λ c=>?_)
   ·refine⟨lr.length,by simpa using lm.symm,?_⟩
    refine Qt (QJ (fldE rfl b.b bf4) b.w Vx (xb (QJ (fldE rfl b.b bf3) b.l Jrf (WR.of_eq rfl (xpop (y:=nI p) b.l (by simp) ?_)))))
    have e:(((p::lr).reverse.map nI).dropLast)=lr.reverse.map nI:=by simp
    rw[e]
    have b1:=b.setL lr
    refine xb (WR.of_eq rfl (WR.of_eq rfl (xapp b1.w (by simp at l2 ⊢;omega) ⟨lr,wa++[p],rfl,?_,rfl,by simp at l2 ⊢;omega,λ q hq=>ml q (Zm _ hq),by rw[<- ep,if_pos c]⟩)))
    have:=b1.setW (wa++[p])
    rw[ZaJ] at this
    exact this
   ·rw[if_neg c] at ep
    rw[<- ep]
    exact b
 ·cases lr with
  | nil=>exact⟨(λ z=>by cases z),λ _=>by rw[<- ep];exact b⟩
  | cons p lr=>exact absurd (by simp) c
theorem J4b (g:Bg h0 kind rs cs O R)(ml:∀p∈s.lr,p<cs.length)(hl:s.lr.length+s.wa.length<=1000)(ne:¬(s.lr=[]/\s.wa=[]))(b:Bn h0 h B O R D L W S s) :
  WR (Ja9 (k+3) [.ref B] h) λ v h'=>v=.non/\Bn h0 h' B O R D L W S (letM cs s):=by
 rw[Jhb]
 refine xfin (xseq (xifd (eqE (lenE (fldE rfl b.b bf4) b.w) rfl) (λ c=>?_) λ c=>?_))
 ·have ew:s.wa=[]:=Zc2.mp (by simpa using c)
  cases el:s.lr with
  | nil=>exact absurd ⟨el,ew⟩ ne
  | cons p lr =>
   have et:tIn cs s=if rdN cs p>s.t then rdN cs p else s.t:=by unfold tIn;rw[ew,el]
   refine Vp (maxE (fldE rfl b.b bf5) (nrE g b el (ml p (by rw[el];simp)))) rfl b.b (by show(7:Nat)<1000;decide) ?_
   rw[bft]
   have b1:=b.setT (if rdN cs p>s.t then rdN cs p else s.t)
   refine WS.mono (Jw0 (s:=⟨s.ds,s.lr,s.wa,if rdN cs p>s.t then rdN cs p else s.t,s.sr⟩) g ml hl b1) (λ _ h' q=>⟨rfl,?_⟩) λ _ _ z=>z
   unfold letM
   rw[et]
   exact q
 ·have et:tIn cs s=s.t:=by
   unfold tIn
   split
   ·rename_i e _
    rw[e] at c
    exact absurd rfl c
   ·rfl
  refine xnil (WS.mono (Jw0 g ml hl b) (λ _ h' q=>⟨rfl,?_⟩) λ _ _ z=>z)
  unfold letM
  rw[et]
  exact q
end
end
section
seal L4.run
def enP (d:Int):IV->Bool
 | .tup [_,_,.int e]=>decide (d<e)
 | _=>false
def enF:IV->IV
 | .tup [_,_,e]=>e
 | _=>.non
theorem J0x (hs:List Hd)(d:Int):((hs.map tupH).filter (enP d)).map enF=((hs.filter λ a=>decide (d<a.2.2)).map (·.2.2)).map .int:=by
 induction hs with
 | nil=>rfl
 | cons a hs ih =>
  simp only[Z0,ZcN]
  rw[show enP d (tupH a)=decide (d<a.2.2) from rfl]
  split
  ·simp only[Z0,ih];rfl
  ·exact ih
section
variable {k:Nat}{h0 h:IH}{kind:Int}{rs:List RH}{cs:List Cm}{B O R D L W S:Nat}{s:Bs}{P:IV->IH->Prop}
theorem J4d {name:Str}{gap ln due late d len:Int}{hs:List Hd}{w:Nat}(hw:h[w]?=some (.ins "Work" (wfs name gap ln due late (hs.map tupH))))(l6:hs.length<=6) :
  WR (Jdf (k+2) [.ref w,.int d,.int len] h) λ v h'=>v=.int (Vk hs d len)/\Ex h h':=by
 have hb:=J0
 rw[Jmb]
 have x1:Ex h (h++[.lst [.int len]]):=.one _ _
 refine xfin (xret (xb (xb (xb (xlst (WR.of_eq (arg1 rfl) ⟨by simp;omega,xb ?_⟩))))))
 refine WR.mono (Jk0 (h:=h++[.lst [.int len]]++[.lst (hs.map tupH)]) (xs:=hs.map tupH) (chk:=λ h'=>h'[(h++[L3.IO.lst [IV.int len]]).length]?=some (.lst (hs.map tupH))) (p:=enP d) (f:=enF) ?_ (by rw[Zh];omega) (λ h2 q=>q _ _ Jj) ?_ ?_) ?_
 ·rw[JU]
  exact WR.of_eq (dotE rfl (x1.get hw) flh (Jcn _) rfl (Jhu (x1.get hw))) ((JM _).mpr ⟨_,Jj,rfl,rfl,rfl⟩)
 ·intro v hv h2 q
  obtain⟨a,_,rfl⟩:=ZB.mp hv
  exact WR.of_eq (gtE (ixtE rfl rfl Q5) rfl) ⟨rfl,.refl _⟩
 ·intro v hv _ h2 q
  obtain⟨a,_,rfl⟩:=ZB.mp hv
  exact WR.of_eq (ixtE rfl rfl Q5) ⟨rfl,.refl _⟩
 ·rintro _ _ ⟨rfl,g,rfl⟩
  rw[J0x]
  have lf:=Za3 (λ a:Hd=>decide (d<a.2.2)) hs
  have x2:Ex (h++[.lst [.int len]]) (h++[.lst [.int len]]++[.lst (hs.map tupH)]++.lst (((hs.filter λ a=>decide (d<a.2.2)).map (·.2.2)).map .int)::g):=(Ex.one _ _).trans (.cons _ _ _)
  refine(Jkx ..).mpr ⟨_,x2.get Jj,_,J1,by simp;omega,?_⟩
  refine xb (WR.of_eq rfl (WR.of_eq rfl ?_))
  rw[Xj,show[IV.int len]++((hs.filter λ a=>decide (d<a.2.2)).map (·.2.2)).map .int=(QR hs d len).map .int from rfl,Jtw Jj (by simp[QR])]
  exact⟨rfl,(x1.trans x2).trans (.one _ _)⟩
theorem J48 (g:Bg h0 kind rs cs O R)(ml:∀p∈s.lr,p<cs.length)(b:Bn h0 h B O R D L W S s){p:Nat}(lp:p<cs.length)(ld:s.ds.length=cs.length) :
  WR (Jag (k+3) [.ref B,nI p] h) λ v h'=>v=.int (Qc rs cs s p)/\Ex h h':=by
 obtain⟨Du,⟨vs,gD,w⟩,fd⟩:=Js0 (g.o.kp b.x.kp)
 have ca:(cs.getD p cd).at_<rs.length:=g.c _ (by rw[Zi,Zb lp];exact Zz lp)
 have l6:=g.l6 _ (Zz ca)
 obtain⟨j,ej,gj⟩:=w.get (Zb ca)
 have av:atI vs ((cs.getD p cd).at_:Int)=some (.ref j):=JH ej
 have hh:hsN rs cs p=(rs[(cs.getD p cd).at_]).2:=by unfold hsN;rw[VV ca]
 rw[<- hh] at l6
 rw[Jes]
 refine xfin (xseq (xset (WR.of_eq (ixlE (fldE rfl b.b bf1) rfl (b.x.get g.r) (VS lp)) (xseq (xset (WR.of_eq (ixlE (fldE rfl b.b bf2) rfl b.d (Jxy (by omega))) ?_))))))
 refine xseq (xset (xb (xb (xb (WR.of_eq (dotE (fd _ _ (fldE rfl b.b bf0)) gD dlw (Jcm _) (arg1 (ixtE rfl rfl JX)) (Jg8 gD av)) (xb (WR.of_eq (arg2 rfl (ixtE rfl rfl Qd)) (WR.of_eq rfl ?_))))))))
 have gj:h[j]?=some (.ins "Work" (wfs _ _ _ _ _ ((rs[(cs.getD p cd).at_]).2.map tupH))):=gj
 rw[<- hh] at gj
 refine WR.mono (J4d (k:=k) gj l6) ?_
 rintro _ h1 ⟨rfl,x1⟩
 have b1:=b.ex x1
 refine xb (WR.of_eq rfl (WR.of_eq rfl (xseq (xifd (gtE (lenE (fldE rfl b1.b bf3) b1.l) rfl) (λ c=>?_) λ c=>?_))))
 ·cases el:s.lr with
  | nil=>rw[el] at c;exact absurd c (by simp)
  | cons q lr =>
   refine xset (WR.of_eq (minE rfl (subE (nrE g b1 el (ml q (by rw[el];simp))) (fldE rfl b1.b bf5))) (xret (WR.of_eq rfl ⟨?_,x1⟩)))
   unfold Qc
   rw[el]
   rfl
 ·refine xnil (xret (WR.of_eq rfl ⟨?_,x1⟩))
  have el:s.lr=[]:=by
   cases el:s.lr with
   | nil=>rfl
   | cons q lr=>rw[el] at c;exact absurd (by simp) c
  unfold Qc
  rw[el]
  rfl
theorem J47 (b:Bn h0 h B O R D L W S s){p:Nat}{u:Int}(sl:s.sr.length<100000):WR (Jb4 (k+1) [.ref B,nI p,.int u] h) λ v h'=>v=.non/\Bn h0 h' B O R D L W S ⟨s.ds,s.lr,s.wa,s.t,Vm p s.t u s.sr⟩:=by
 have hb:=J0
 have fin:∀{h1:IH}{bg:Int}{r:List (Nat×Int×Int)},Bn h0 h1 B O R D L W S ⟨s.ds,s.lr,s.wa,s.t,r⟩->r.length<=s.sr.length->Vm p s.t u s.sr=(p,bg,u)::r ->
   WS (Jc1 k [some (.ref B),some (nI p),some (.int u),some (.int bg)] h1) (λ _ h'=>IV.non=.non/\Bn h0 h' B O R D L W S ⟨s.ds,s.lr,s.wa,s.t,Vm p s.t u s.sr⟩) λ v h'=>v=.non/\Bn h0 h' B O R D L W S ⟨s.ds,s.lr,s.wa,s.t,Vm p s.t u s.sr⟩:=by
  intro h1 bg r b1 lr et
  refine Qt (QJ (fldE rfl b1.b bf6) b1.s Vx (xb (xtup (xb (WR.of_eq rfl (xb (WR.of_eq (arg2 rfl rfl) (WR.of_eq rfl ⟨by simp;omega,xb (WR.of_eq rfl (WR.of_eq rfl (xapp b1.s (by simp;omega) ⟨rfl,?_⟩)))⟩))))))))
  have:=b1.setS ((p,bg,u)::r)
  rw[Zbw,ZaJ] at this
  rw[et]
  exact this
 rw[Jj7]
 refine xfin (xseq (xset (WR.of_eq (fldE rfl b.b bf5) (xseq (xif (J3f (WR.of_eq (gtE (lenE (fldE rfl b.b bf6) b.s) rfl) (xdec (λ c=>?_) λ c=>?_))))))))
 ·cases es:s.sr with
  | nil=>rw[es] at c;exact absurd c (by simp)
  | cons a r =>
   have bs:=b.s
   rw[es] at bs
   refine WR.of_eq (eqE (ixtE (ixlE (fldE rfl b.b bf6) rfl bs Jrd) rfl JX) rfl) (xdec (λ c=>?_) λ c=>?_)
   ·refine xset (xb (QJ (fldE rfl b.b bf6) bs Jrf (WR.of_eq rfl (xpop (y:=tupS a) bs (by simp) (xb (WR.of_eq rfl (xixt Qi ?_)))))))
    have e:((a::r).reverse.map tupS).dropLast=r.reverse.map tupS:=by simp
    rw[e]
    rw[<- es]
    refine fin (r:=r) (b.setS r) (by rw[es];simp) ?_
    rw[es]
    exact if_pos (by omega)
   ·refine xnil ?_
    rw[<- es]
    refine fin (r:=s.sr) b (Zl _) ?_
    rw[es]
    exact if_neg λ z=>c (by rw[z])
 ·refine⟨(λ z=>by cases z),λ _=>xnil (fin (r:=s.sr) b (Zl _) ?_)⟩
  cases es:s.sr with
  | nil=>rfl
  | cons a r=>rw[es] at c;exact absurd (by simp) c
theorem Jst {α β:Type}{f:α->β}:∀(l:List α)(j:Nat),(l.map f).eraseIdx j=(l.eraseIdx j).map f
 | [],_=>rfl
 | _::_,0=>rfl
 | a::l,j+1=>congrArg (f a:: ·) (Jst l j)
theorem Jry {wa:List Nat}{p j:Nat}(e:(wa.map λ n:Nat=>(n:Int)).findIdx? (· ==(p:Int))=some j):wa.eraseIdx j=wa.erase p:=by
 rw[List.findIdx?_map] at e
 have e:wa.findIdx? (· ==p)=some j:=by
  rw[<- e]
  congr 1
  funext x
  show(x==p)=((x:Int)==(p:Int))
  rw[Zcp,beq_iff_eq,beq_iff_eq]
  omega
 rw[List.erase_eq_eraseIdx,show List.idxOf? p wa=some j from e]
theorem J3x (g:Bg h0 kind rs cs O R)(w:Wf cs s)(ne:¬(s.lr=[]/\s.wa=[]))(sl:s.sr.length<100000)(b:Bn h0 h B O R D L W S s):WR (Jbg (k+6) [.ref B] h) λ v h'=>v=.non/\Bn h0 h' B O R D L W S (Qz kind rs cs s):=by
 have ll:(s.lr++s.wa).length<=cs.length:=by
  have:=w.nd.length_le_of_subset (l₂:=ZF cs.length) λ p hp=>Zar.mpr (w.mem p hp)
  rwa [Zb0] at this
 rw[Zo] at ll
 have cn:=g.n
 have w1:=w.let
 have n1:=Jso (cs:=cs) ne
 rw[Jic]
 refine xfin (xseq (Qt (XR rfl b.b bn1 (Jg6 _) (WR.of_eq rfl (WR.mono (J4b (k:=k+2) g (λ p hp=>w.mem p (Zam _ hp)) (by omega) ne b) ?_)))))
 rintro _ h1 ⟨rfl,b1⟩
 have o1:=g.o.kp b1.x.kp
 unfold Qz
 have hsl:(letM cs s).sr.length<100000:=sl
 generalize letM cs s=s1 at *
 refine xseq (xset (Jp3 o1 (fldE rfl b1.b bf0) (by rw[show ∀(a b c:E1)(σ:ISt),Jb a (Jb b (Jb c Jd)) σ h1=(a σ h1).bind λ x h1=>((Jb b (Jb c Jd)) σ h1).bind λ xs h2=>.ok (x::xs) h2 from λ _ _ _ _=>rfl,fldE rfl b1.b bf1];exact congrArg (λ r=>Res.bind r _) (arg2 (fldE rfl b1.b bf4) (fldE rfl b1.b bf2))) (WR.mono (Jzo (k:=k) (b1.x.get g.p1) o1 g.l6 g.c (b1.x.get g.r) b1.w b1.d w1.ld n1 λ p hp=>w1.mem p (Zj _ hp)) ?_)))
 rintro _ h2 ⟨p,hp,rfl,lm,x2⟩
 have ep:=Vr.eq ⟨hp,lm⟩
 have lp:=w1.mem p (Zj _ hp)
 have ld:=w1.ld
 have b2:=b1.ex x2
 refine xseq (xset (XR rfl b2.b bn2 (Jeq _) (WR.of_eq (arg1 rfl) (WR.mono (J48 (k:=k+2) g (λ q hq=>w1.mem q (Zam _ hq)) b2 lp ld) ?_))))
 rintro _ h3 ⟨rfl,x3⟩
 have b3:=b2.ex x3
 unfold goM
 rw[ep]
 generalize Qc rs cs s1 p=n
 refine xseq (Qt (XR rfl b3.b bn3 (Jj4 _) (WR.of_eq (arg2 rfl (addE (fldE rfl b3.b bf5) rfl)) (WR.mono (J47 (k:=k+4) b3 hsl) ?_))))
 rintro _ h4 ⟨rfl,b4⟩
 refine xseq (J5i rfl b4.b bf5 rfl b4.b (by show(7:Nat)<1000;decide) ?_)
 rw[bft]
 have b5:Bn h0 _ B O R D L W S ⟨s1.ds,s1.lr,s1.wa,s1.t+n,Vm p s1.t (s1.t+n) s1.sr⟩:=b4.setT (s1.t+n)
 refine xseq (J5j (fldE rfl b5.b bf2) rfl b5.d (Jxy (by show p<s1.ds.length;omega)) (by omega) rfl b5.d (j:=p) (by rw[Zh];simp[ixN];omega) ?_)
 have b6:Bn h0 _ B O R D L W S ⟨s1.ds.set p (s1.ds.getD p 0+n),s1.lr,s1.wa,s1.t+n,Vm p s1.t (s1.t+n) s1.sr⟩:=b5.setD (s1.ds.set p (s1.ds.getD p 0+n))
 rw[<- List.map_set]
 refine xifd (eqE (ixlE (fldE rfl b6.b bf2) rfl b6.d (Jxy (by rw[Zbn];omega))) (ixtE (ixlE (fldE rfl b6.b bf1) rfl (b6.x.get g.r) (VS lp)) rfl Qd)) (λ c=>?_) λ c=>?_
 ·rw[Yg,if_pos ⟨rfl,by omega⟩] at c
  have eN:s1.wa.map nI=(s1.wa.map λ n:Nat=>(n:Int)).map .int:=by rw[Za7];rfl
  have gw:=b6.w
  obtain⟨j,hj⟩:∃j,(s1.wa.map λ n:Nat=>(n:Int)).findIdx? (· ==(p:Int))=some j:=by
   cases z:(s1.wa.map λ n:Nat=>(n:Int)).findIdx? (· ==(p:Int)) with
   | none =>
    have:=Zdw.mp z p (ZB.mpr ⟨p,hp,rfl⟩)
    simp at this
   | some j=>exact⟨j,rfl⟩
  refine Qt (QJ (fldE rfl b6.b bf4) gw Jrg (WR.of_eq (arg1 rfl) (xrem (ns:=s1.wa.map λ n:Nat=>(n:Int)) (by rw[<- eN];exact gw) hj ⟨rfl,?_⟩)))
  have b7:=b6.setW (s1.wa.erase p)
  unfold doM
  rw[if_pos (show _=lnN cs p from c),<-eN,Jst,Jry hj]
  exact b7
 ·rw[Yg,if_pos ⟨rfl,by omega⟩] at c
  refine xnil ⟨rfl,?_⟩
  unfold doM
  rw[if_neg (show ¬_=lnN cs p from c)]
  exact b6
end
end
section
seal L4.run
section
variable {O R D L W S:Nat}
theorem bp0:putI "order" (.ref O) ([]:List (Str×IV))=(bfs O 0 0 0 0 0 0).take 1:=by kernel_rfl
theorem bp1:putI "row" (.ref R) ((bfs O 0 0 0 0 0 0).take 1)=(bfs O R 0 0 0 0 0).take 2:=by kernel_rfl
theorem bp2:putI "dones" (.ref D) ((bfs O R 0 0 0 0 0).take 2)=(bfs O R D 0 0 0 0).take 3:=by kernel_rfl
theorem bp3:putI "later" (.ref L) ((bfs O R D 0 0 0 0).take 3)=(bfs O R D L 0 0 0).take 4:=by kernel_rfl
theorem bp4:putI "waiting" (.ref W) ((bfs O R D L 0 0 0).take 4)=(bfs O R D L W 0 0).take 5:=by kernel_rfl
theorem bp5:putI "turn" (.int 0) ((bfs O R D L W 0 0).take 5)=(bfs O R D L W 0 0).take 6:=by kernel_rfl
theorem bp6:putI "stretches" (.ref S) ((bfs O R D L W 0 0).take 6)=bfs O R D L W 0 S:=by kernel_rfl
end
theorem Jsi {mk:IV->IH->Res IV}{kf:IV->Int}{h:IH}:∀{ys:List IV}{ks:List Int},(∀y∈ys,mk y h=.ok (.int (kf y)) h)->QA mk ys ks h=.ok (ks++ys.map kf) h
 | [],ks,_=>by simp[QA]
 | y::ys,ks,q=>by
  unfold QA
  rw[q y (by simp)]
  show QA mk ys (ks++[kf y]) h=_
  rw[Jsi λ z hz=>q z (Zm _ hz)]
  simp
theorem Jw1 {cs:List Cm}:∀p∈lr0 cs,p<cs.length:=λ p hp=>by
 obtain⟨i,hi,rfl⟩:=ZB.mp hp
 have:=Yp _ i hi
 omega
theorem J1x (cs:List Cm):(ordK (cs.map rdC).reverse cs.length).map (λ i=>(rngI 0 (cs.length:Int)).reverse.getD i .non)=(lr0 cs).map nI:=by
 unfold lr0
 rw[Za7]
 refine Zdf λ i hi=>?_
 have li:=Yp _ i hi
 rw[XB]
 have l2:i<(((ZF cs.length).map λ k=>((k:Nat):Int)).map IV.int).reverse.length:=by simpa using li
 show List.getD (((ZF (Zeo (cs.length:Int))).map λ k=>((k:Nat):Int)).map IV.int).reverse i .non=IV.int ((cs.length-1-i:Nat):Int)
 rw[ZaW,Zi,Zb l2,ZcX]
 simp
theorem Joz (cs:List Cm):(lr0 cs).Perm (ZF cs.length):=by
 by_cases n0:cs.length=0
 ·unfold lr0
  rw[n0,Jf4]
  exact .refl _
 have:=(Jhn (cs.map rdC).reverse (Nat.pos_of_ne_zero n0)).map λ i=>cs.length-1-i
 refine this.trans ?_
 have e:(ZF cs.length).map (λ i=>cs.length-1-i)=(ZF cs.length).reverse:=by
  refine Zcc (by simp) λ i h1 h2=>?_
  simp[ZcX]
 rw[e]
 exact List.reverse_perm _
theorem Jy9 (cs:List Cm):(lr0 cs).Pairwise λ p q=>rdN cs p<=rdN cs q:=by
 unfold lr0
 rw[Zdx]
 refine(Ju9 (cs.map rdC).reverse cs.length).imp_of_mem λ {i j} hi hj h=>?_
 have li:=Yp _ i hi
 have lj:=Yp _ j hj
 have e:∀i,i<cs.length->(cs.map rdC).reverse.getD i 0=rdN cs (cs.length-1-i):=λ i li=>by
  have l2:i<(cs.map rdC).reverse.length:=by simpa using li
  unfold rdN
  rw[Zi,Zb l2,ZcX,Zi,Zb (show cs.length-1-i<cs.length by omega)]
  simp
 rwa [e i li,e j lj] at h
theorem wf0 {cs:List Cm}(l1:∀c∈cs,1<=c.len):Wf cs (s0 cs):=by
 have zr:∀p,((s0 cs).ds.getD p 0:Int)=0:=λ p=>by
  show(cs.map λ _=>(0:Int)).getD p 0=0
  rw[Zi,Zt]
  cases cs[p]?<;>rfl
 have pm:=Joz cs
 refine⟨by simp[s0],λ p hp=>?_,?_,Jy9 cs,λ p hp=>?_,λ p lp hp=>?_,λ p hp=>zr p,λ p hp=>?_⟩
 ·rw[show(s0 cs).lr++(s0 cs).wa=lr0 cs from Zak _] at hp
  exact Jw1 p hp
 ·rw[show(s0 cs).lr++(s0 cs).wa=lr0 cs from Zak _]
  exact pm.nodup_iff.mpr ZdI
 ·rw[show(s0 cs).lr++(s0 cs).wa=lr0 cs from Zak _] at hp
  have lp:=Jw1 p hp
  rw[zr]
  have:1<=lnN cs p:=l1 _ (by rw[Zi,Zb lp];exact Zz lp)
  omega
 ·rw[show(s0 cs).lr++(s0 cs).wa=lr0 cs from Zak _] at hp
  exact absurd (pm.mem_iff.mpr (Zar.mpr lp)) hp
 ·cases hp
theorem Wf.step {kind:Int}{rs:List RH}{cs:List Cm}{s:Bs}(w:Wf cs s)(ne:¬(s.lr=[]/\s.wa=[])):Wf cs (Qz kind rs cs s)/\mea rs cs (Qz kind rs cs s)<mea rs cs s:=by
 have w1:=w.let
 have gt:=Jwz w
 have le:=Jzb rs cs s
 obtain⟨p,ip⟩:=Jn3 (kind:=kind) (rs:=rs) (cs:=cs) (ds:=(letM cs s).ds) (Jso (cs:=cs) ne)
 unfold Qz goM
 rw[ip.eq]
 obtain⟨a,b⟩:=Jht (rs:=rs) gt (w1.z p (Zj _ ip.1)).2
 have sl:=Jtf (hsN rs cs p) ((letM cs s).ds.getD p 0) (lnN cs p)
 exact⟨w1.do ip.1 a (by omega),ZE (J10 w1 gt ip.1) le⟩
theorem Jpg (p:Nat)(t u:Int)(sr:List (Nat×Int×Int)):(Vm p t u sr).length<=sr.length+1:=by
 unfold Vm
 split
 ·simp
 ·split<;>simp
theorem Jo6 {kind:Int}{rs:List RH}{cs:List Cm}{m:Nat}{s:Bs}(h:s.lr=[]/\s.wa=[]):runM kind rs cs m s=s:=by
 cases m with
 | zero=>rfl
 | succ m=>exact if_pos h
theorem mea0 {rs:List RH}{cs:List Cm}(l6:∀r∈rs,r.2.length<=6)(hc:∀c∈cs,c.at_<rs.length):mea rs cs (s0 cs)<=8*cs.length:=by
 have e1:((ZF cs.length).map (VB rs cs (s0 cs).ds)).sum<=((ZF cs.length).map λ _=>6).sum:=Jpa λ p hp=>by
  have lp:=Zar.mp hp
  have ca:(cs.getD p cd).at_<rs.length:=hc _ (by rw[Zi,Zb lp];exact Zz lp)
  have:=l6 _ (Zz ca)
  refine ZO (Za3 _ _) ?_
  unfold hsN
  rw[VV ca]
  exact this
 have e2:=Za3 (λ p=>decide ((s0 cs).t<rdN cs p)) (s0 cs).lr
 have e3:(s0 cs).lr.length=cs.length:=by have:=(Joz cs).length_eq;rwa [Zb0] at this
 have e4:((s0 cs).lr++(s0 cs).wa).length=cs.length:=by rw[show(s0 cs).lr++(s0 cs).wa=(s0 cs).lr from Zak _];exact e3
 rw[List.map_const',List.sum_replicate_nat,Zb0] at e1
 unfold mea
 omega
theorem Jyo {kind:Int}{rs:List RH}{cs:List Cm}:(finM kind rs cs).sr.length<=8*cs.length:=by
 have:∀(m:Nat)(s:Bs),(runM kind rs cs m s).sr.length<=s.sr.length+m:=by
  intro m
  induction m with
  | zero=>intro s;exact Zl _
  | succ m ih =>
   intro s
   unfold runM
   split
   ·omega
   ·have h1:=ih (Qz kind rs cs s)
    have h2:(Qz kind rs cs s).sr.length<=s.sr.length+1:=Jpg _ _ _ _
    omega
 have:=this (8*cs.length) (s0 cs)
 have e:(s0 cs).sr.length=0:=rfl
 unfold finM
 omega
theorem ds0 (cs:List Cm)(p:Nat):(s0 cs).ds.getD p 0=0:=by
 show(cs.map λ _=>(0:Int)).getD p 0=0
 rw[Zi,Zt]
 cases cs[p]?<;>rfl
def lenF:IV->IV
 | .tup [_,_,_,d]=>d
 | _=>.non
section
variable {k:Nat}{h:IH}{kind:Int}{rs:List RH}{cs:List Cm}{O R:Nat}
theorem Jy4 (g:Bg h kind rs cs O R)(t0:h[1]?=some (.tab "Bench.__init__"))(n64:cs.length<64):WR (Jb3 (k+2) [.ref h.length,.ref O,.ref R] (h++[.ins "Bench" []])) λ v h'=>v=.non/\∃D L W S,Bn h h' h.length O R D L W S (s0 cs):=by
 have hb:=J0
 rw[Jj6]
 refine xfin (xseq (Vp rfl rfl Jj (by decide) ?_))
 rw[bp0,Xd]
 refine xseq (Vp rfl rfl Jj (by show(1:Nat)<1000;decide) ?_)
 rw[bp1,Xd]
 have x1:Ex h (h++[.ins "Bench" ((bfs O R 0 0 0 0 0).take 2)]):=.one _ _
 have g1:(h++[L3.IO.ins "Bench" ((bfs O R 0 0 0 0 0).take 2)])[h.length]?=some (.ins "Bench" ((bfs O R 0 0 0 0 0).take 2)):=Jj
 generalize h++[L3.IO.ins "Bench" ((bfs O R 0 0 0 0 0).take 2)]=h1 at x1 g1
 refine xseq ?_
 rw[VQ]
 refine WR.mono (Qh (h:=h1) (xs:=cs.map tupC) (chk:=λ h'=>h'[R]?=some (.lst (cs.map tupC))) (f:=λ _=>.int 0) ?_ (by rw[Zh];omega) (λ h2 q=>q _ _ (x1.get g.r)) λ v hv h2 q=>WR.of_eq rfl ⟨rfl,.refl _⟩) ?_
 ·rw[JU]
  exact WR.of_eq rfl ((JM _).mpr ⟨_,x1.get g.r,rfl,rfl,rfl⟩)
 rintro _ _ ⟨rfl,gg,rfl⟩
 have lt1:=JB g1
 refine WR.of_eq rfl ⟨_,_,_,rfl,grow g1,by show(2:Nat)<1000;decide,?_⟩
 rw[bp2]
 have x2:=Vc (i:=h.length) (o:=.ins "Bench" ((bfs O R h1.length 0 0 0 0).take 3)) (x1.trans (Ex.cons h1 (.lst ((cs.map tupC).map λ _=>.int 0)) gg)) (Zl _)
 have g2:=QF (o':=.ins "Bench" ((bfs O R h1.length 0 0 0 0).take 3)) (grow g1 (g:=.lst ((cs.map tupC).map λ _=>.int 0)::gg))
 have d2:=J6 (i:=h.length) (o':=.ins "Bench" ((bfs O R h1.length 0 0 0 0).take 3)) (J1 (h:=h1) (o:=.lst ((cs.map tupC).map λ _=>.int 0)) (g:=gg)) (by omega)
 generalize h1.length=D at *
 generalize (h1++L3.IO.lst ((cs.map tupC).map λ _=>.int 0)::gg).set h.length (.ins "Bench" ((bfs O R D 0 0 0 0).take 3))=h2 at x2 g2 d2
 have ks:QA (λ v h'=>Xq (k+1) [some v,some (.ref R)] h') (rngI 0 (cs.length:Int)) [] h2=.ok (cs.map rdC) h2:=by
  have:=Jsi (mk:=λ v h'=>Xq (k+1) [some v,some (.ref R)] h') (kf:=λ v=>match v with|.int p=>rdN cs p.toNat|_=>0) (h:=h2) (ys:=rngI 0 (cs.length:Int)) (ks:=[]) λ y hy=>by
   rw[XB,ZaW,Za7] at hy
   obtain⟨p,hp,rfl⟩:=ZB.mp hy
   have lp:=Zar.mp hp
   show Xq (k+1) [some (nI p),some (.ref R)] h2=.ok (.int (rdN cs (Zeo (p:Int)))) h2
   rw[ZaW]
   exact Qj (arg1 (ixlE rfl rfl (x2.get g.r) (VS lp))) Jo4
  rw[this,Zac,XB,ZaW,Za7,Za7]
  congr 1
  refine Zcc (by simp) λ i h1 h2=>?_
  have li:i<cs.length:=by simpa using h2
  simp only[ZM,Zds,Function.comp,ZaW,rdN]
  rw[Zi,Zb li]
  rfl
 have es:Yc "Bench.__init__" 1 [2] (Jb (eCB (on1 lenI) (Jb (Ja 2) Jd)) Jd) (Xq (k+1)) [some (.ref h.length),some (.ref O),some (.ref R)] h2=.ok (.ref h2.length) (h2++[.lst ((lr0 cs).reverse.map nI)]):=by
  unfold Yc
  rw[arg1 (lenE rfl (x2.get g.r)),Zh]
  show(match [IV.int (cs.length:Int)],h2[1]? with|[.int n],some (.tab q')=>_|_,_=>_)=_
  rw[x2.get t0]
  show(if _ then _ else _)=_
  rw[if_pos ⟨rfl,by omega,by omega⟩]
  show(QA (λ v h'=>Xq (k+1) [some v,some (.ref R)] h') (rngI 0 (cs.length:Int)) [] h2).bind _=_
  rw[ks]
  show Yt true (rngI 0 (cs.length:Int)).reverse (cs.map rdC).reverse h2=_
  unfold Yt
  rw[show(rngI 0 (cs.length:Int)).reverse.length=cs.length by rw[Zb6,XB];simp,J1x,List.map_reverse]
  rfl
 refine xseq (Vp es rfl (grow g2) (by show(3:Nat)<1000;decide) ?_)
 rw[bp3]
 have lt2:=JB d2
 have x3:=Vc (i:=h.length) (o:=.ins "Bench" ((bfs O R D h2.length 0 0 0).take 4)) (x2.trans (Ex.one h2 (.lst ((lr0 cs).reverse.map nI)))) (Zl _)
 have g3:=QF (o':=.ins "Bench" ((bfs O R D h2.length 0 0 0).take 4)) (grow g2 (g:=[.lst ((lr0 cs).reverse.map nI)]))
 have d3:=J6 (i:=h.length) (o':=.ins "Bench" ((bfs O R D h2.length 0 0 0).take 4)) (grow d2 (g:=[.lst ((lr0 cs).reverse.map nI)])) (by omega)
 have l3:=J6 (i:=h.length) (o':=.ins "Bench" ((bfs O R D h2.length 0 0 0).take 4)) (Jj (h:=h2) (o:=.lst ((lr0 cs).reverse.map nI))) (by omega)
 generalize h2.length=L at *
 generalize (h2++[L3.IO.lst ((lr0 cs).reverse.map nI)]).set h.length (.ins "Bench" ((bfs O R D L 0 0 0).take 4))=h3 at x3 g3 d3 l3
 have lt3:=JB l3
 refine xseq ?_
 rw[VQ]
 refine xlst (WR.of_eq rfl ⟨ZT _,WR.of_eq rfl ⟨_,_,_,rfl,grow g3,by show(4:Nat)<1000;decide,?_⟩⟩)
 rw[bp4]
 refine xseq (Vp rfl rfl (QF (grow g3)) (by show(5:Nat)<1000;decide) ?_)
 rw[bp5,ZdS]
 unfold Jc0
 rw[VQ]
 refine xlst (WR.of_eq rfl ⟨ZT _,WR.of_eq rfl ⟨_,_,_,rfl,grow (QF (grow g3)),by show(6:Nat)<1000;decide,rfl,?_⟩⟩)
 rw[bp6]
 have sw:=Jj (h:=h3) (o:=.lst [])
 have lw:=JB sw
 rw[Zo,Zaa] at lw
 have ln:(List.set (h3++[L3.IO.lst []]) h.length (.ins "Bench" ((bfs O R D L h3.length 0 0).take 6))).length=h3.length+1:=by rw[Zbn,Zo,Zaa]
 refine⟨D,L,h3.length,_,Vc ((Vc (x3.trans (.one _ _)) (Zl _)).trans (.one _ _)) (Zl _),⟨Zl _,by omega,by omega,by omega,by omega⟩,QF (grow (QF (grow g3))),J6 (grow (J6 (grow ?_) (by omega))) (by omega),J6 (grow (J6 (grow l3) (by omega))) (by omega),J6 (grow (J6 sw (by omega))) (by omega),J6 Jj (by omega)⟩
 rw[d3]
 simp[s0]
theorem J2m (g:Bg h kind rs cs O R)(t0:h[1]?=some (.tab "Bench.__init__"))(L:Legal rs cs)(n64:cs.length<64) :
  WR (Jxq (k+7) [.ref O,.ref R] h) λ v h'=>∃j,v=.ref j/\h.length<=j/\h'[j]?=some (.lst ((finM kind rs cs).sr.reverse.map tupS))/\Ex h h':=by
 obtain⟨Du,du,fd⟩:=Js0 g.o
 have w0:Wf cs (s0 cs):=wf0 λ c hc=>(L.ok c hc).n1
 rw[J03]
 refine xfin (xseq (Qt (xb (WR.of_eq (arg2 (fd _ _ rfl) rfl) (WR.mono (J0t (k:=k+1) du g.r L g.n) ?_)))))
 rintro _ h1 ⟨rfl,x1⟩
 have g1:Bg h1 kind rs cs O R:=⟨g.o.kp x1.kp,x1.get g.r,g.c,g.l6,x1.get g.p1,g.n⟩
 refine xseq (xset ?_)
 rw[VO]
 refine WR.of_eq (arg2 rfl rfl) (WR.mono (Jy4 (k:=k+4) g1 (x1.get t0) n64) ?_)
 rintro _ h2 ⟨rfl,D,La,W,S,b0⟩
 refine⟨rfl,xseq ?_⟩
 have m0:=mea0 g.l6 g.c
 have cn:=g.n
 refine Jp2 (λ m σ h'=>∃s,σ=[some (.ref O),some (.ref R),some (.ref h1.length)]/\Bn h1 h' h1.length O R D La W S s/\Wf cs s/\mea rs cs s<=m/\s.sr.length+m<=8*cs.length/\runM kind rs cs m s=finM kind rs cs) ?_ (show 8*cs.length<1000000 by omega) ⟨s0 cs,rfl,b0,w0,m0,by simp[s0],rfl⟩
 rintro m _ h3 ⟨s,rfl,b,w,lm,ls,er⟩
 refine WR.of_eq (gtE (addE (lenE (fldE rfl b.b bf3) b.l) (lenE (fldE rfl b.b bf4) b.w)) rfl) (xdec (λ c=>?_) λ c=>?_)
 ·have ne:¬(s.lr=[]/\s.wa=[]):=λ ⟨a,z⟩=>by rw[a,z] at c;exact absurd c (by simp)
  obtain⟨w1,lt⟩:=w.step (kind:=kind) (rs:=rs) ne
  cases m with
  | zero=>omega
  | succ m =>
   refine⟨m,rfl,Qt (XR rfl b.b bn4 (Jia _) (WR.of_eq rfl (WR.mono (J3x (k:=k) g1 w ne (by omega) b) ?_)))⟩
   rintro _ h4 ⟨rfl,b4⟩
   refine⟨_,rfl,b4,w1,by omega,?_,?_⟩
   ·have:=Jpg (X7 kind rs cs (letM cs s).ds (letM cs s).wa) (letM cs s).t ((letM cs s).t+Qc rs cs (letM cs s) (X7 kind rs cs (letM cs s).ds (letM cs s).wa)) s.sr
    have:(Qz kind rs cs s).sr.length<=s.sr.length+1:=this
    omega
   ·rw[<- er]
    exact(if_neg ne).symm
 ·have ne:s.lr=[]/\s.wa=[]:=by
   simp only[Zh,Zb6] at c
   exact⟨Zc2.mp (by omega),Zc2.mp (by omega)⟩
  rw[Jo6 ne] at er
  refine xret (WR.of_eq (fldE rfl b.b bf6) ⟨S,rfl,?_,?_,x1.trans b.x⟩)
  ·have:=b.ap
   have:=JB b0.b
   obtain⟨gg,rfl⟩:=x1
   rw[Zo] at *
   omega
  ·rw[<- er]
   exact b.s
end
end
def gI (v:IV):Zcw:=match v with
 | .int x=>.int x
 | .tup xs=>.tuple (xs.map λ v=>match v with|.int x=>.int x|_=>.none)
 | _=>.none
section
variable {k:Nat}{h:IH}
end
abbrev St3:=Nat×Int×Int
def sumP (p:Nat)(l:List St3):Int:=(l.map λ a=>if a.1=p then a.2.2-a.2.1 else 0).sum
theorem Vl {p:Nat}{a:St3}{l:List St3}:sumP p (a::l)=(if a.1=p then a.2.2-a.2.1 else 0)+sumP p l:=by simp[sumP]
theorem Jkr {p:Nat}{l m:List St3}:sumP p (l++m)=sumP p l+sumP p m:=by simp[sumP]
theorem Jf8 {p:Nat}:sumP p ([]:List St3)=0:=rfl
theorem Jks {p:Nat}:∀{l:List St3},sumP p l.reverse=sumP p l
 | []=>rfl
 | a::l=>by
  rw[Zbw,Jkr,Jks,Vl,Vl,Jf8]
  omega
theorem Jvh {hss:List (List Hd)}{zs:List Str}{a:Nat}:rk hss zs a<=a:=Jol (λ i=>(rkNs hss zs a).getD i 0) _ 0 (by simp[rkNs])
theorem J4x {hss:List (List Hd)}{zs:List Str}{a:Nat}{z:Str}(hz:z∈zs):rk hss zs a<=fZ hss z:=by
 obtain⟨i,hi,rfl⟩:=Zau.mp hz
 have e:(rkNs hss zs a).getD (i+1) 0=fZ hss zs[i]:=by simp[rkNs,hi]
 unfold rk
 rw[<- e]
 exact Jol (λ i=>(rkNs hss zs a).getD i 0) (rkNs hss zs a).length (i+1) (by simp[rkNs,hi])
theorem J3u {hss:List (List Hd)}{a:Nat}(ha:a<hss.length){b:Hd}(hb:b∈hss[a]):fZ hss b.1<=a:=by
 unfold fZ
 cases e:fstK hss b.1 with
 | none=>exact Int.natCast_nonneg a
 | some j =>
  obtain⟨_,_,q⟩:=Zc3.mp e
  show(j:Int)<=a
  by_cases l:a<j
  ·exact absurd (ZdG.mpr ⟨b,hb,decide_eq_true rfl⟩) (q a l)
  ·omega
def atN (cs:List Cm)(p:Nat):Int:=((cs.getD p cd).at_:Int)
def acN (rs:List RH)(cs:List Cm)(ds:List Int)(p:Nat):List Str:=act (hsN rs cs p) (ds.getD p 0)
def rkN (rs:List RH)(cs:List Cm)(ds:List Int)(p:Nat):Int:=rk (rs.map (·.2)) (acN rs cs ds p) (cs.getD p cd).at_
theorem J0p {rs:List RH}{cs:List Cm}{ds:List Int}{p:Nat}{x:Hd}(hx:x∈hsN rs cs p)(h1:x.2.1<ds.getD p 0)(h2:ds.getD p 0<x.2.2):x.1∈acN rs cs ds p:=ZB.mpr ⟨x,ZaF.mpr ⟨hx,by show(decide _&&decide _)=true;rw[decide_eq_true h1,decide_eq_true h2];rfl⟩,rfl⟩
theorem Jwm {rs:List RH}{cs:List Cm}{ds:List Int}{p:Nat}(h0:∀x∈hsN rs cs p,0<=x.2.1)(ne:acN rs cs ds p≠[]):0<ds.getD p 0:=by
 obtain⟨z,hz⟩:=List.exists_mem_of_ne_nil _ ne
 obtain⟨a,ha,_⟩:=ZB.mp hz
 have:=(ZaF.mp ha).2
 have h0:=h0 a (ZaF.mp ha).1
 simp only[actv,Zn,decide_eq_true_eq] at this
 omega
theorem Jzn {kind:Int}{rs:List RH}{cs:List Cm}{ds:List Int}{wa:List Nat}{p q:Nat}(ip:Vr kind rs cs ds wa p)(hq:q∈wa):rkN rs cs ds p<=rkN rs cs ds q/\(rkN rs cs ds q=rkN rs cs ds p->acN rs cs ds p=[]->acN rs cs ds q=[]):=by
 have h:=ip.2 q hq
 change ltL [rkN rs cs ds q,if (!(acN rs cs ds q).isEmpty)=true then 0 else 1,(q:Int)] [rkN rs cs ds p,if (!(acN rs cs ds p).isEmpty)=true then 0 else 1,(p:Int)]=false at h
 unfold ltL at h
 by_cases e:rkN rs cs ds q=rkN rs cs ds p
 ·refine⟨by omega,λ _ a=>?_⟩
  rw[if_pos e,a] at h
  cases b:acN rs cs ds q with
  | nil=>rfl
  | cons z l =>
   rw[b] at h
   cases h
 ·rw[if_neg e,decide_eq_false_iff_not] at h
  exact⟨by omega,λ z=>absurd z e⟩
def Iv (rs:List RH)(cs:List Cm)(ds:List Int):Prop:=∀p q,p<cs.length->q<cs.length->p≠q->ds.getD p 0<lnN cs p->ds.getD q 0<lnN cs q->acN rs cs ds p≠[]->acN rs cs ds q≠[]->atN cs p<rkN rs cs ds q∨atN cs q<rkN rs cs ds p
def Tw (rs:List RH)(cs:List Cm):List St3->Prop
 | []=>True
 | a::r=>(∀q,q<cs.length->q≠a.1->sumP q r<lnN cs q->∀x∈hsN rs cs q,x.2.1<sumP q r->sumP q r<x.2.2->∀y∈hsN rs cs a.1,y.1≠x.1)/\Tw rs cs r
structure Sv (rs:List RH)(cs:List Cm)(s:Bs):Prop where
 tl:∀a r,s.sr=a::r->a.2.2=s.t
 ea:∀a∈s.sr,a.1<cs.length/\a.2.1<a.2.2/\0<s.ds.getD a.1 0
 pw:s.sr.Pairwise λ a b=>b.2.2<=a.2.1
 sm:∀p,p<cs.length->sumP p s.sr=s.ds.getD p 0
 iv:Iv rs cs s.ds
 tw:Tw rs cs s.sr
theorem Sv.step {kind:Int}{rs:List RH}{cs:List Cm}{s:Bs}(c0:∀p,p<cs.length->(cs.getD p cd).at_<rs.length)(h0:∀p,p<cs.length->∀x∈hsN rs cs p,0<=x.2.1)(w:Wf cs s)(ne:¬(s.lr=[]/\s.wa=[]))(v:Sv rs cs s):Sv rs cs (Qz kind rs cs s):=by
 have w1:=w.let
 have gt:=Jwz w
 have tg:=Jti cs s
 obtain⟨p,ip⟩:=Jn3 (kind:=kind) (rs:=rs) (cs:=cs) (ds:=(letM cs s).ds) (Jso (cs:=cs) ne)
 have hp:=ip.1
 unfold Qz goM
 rw[ip.eq]
 have zp:=w1.z p (Zj _ hp)
 have lp:=w1.mem p (Zj _ hp)
 obtain⟨n0,_⟩:=Jht (rs:=rs) gt zp.2
 generalize Qc rs cs (letM cs s) p=n at n0
 have zp:0<=s.ds.getD p 0/\_:=zp
 have ld:=w.ld
 have gd:∀q,(doM rs cs (letM cs s) p n).ds.getD q 0=if p=q then s.ds.getD p 0+n else s.ds.getD q 0:=λ q=>by
  show(s.ds.set p _).getD q 0=_
  rw[Yg]
  by_cases e:p=q
  ·subst e;rw[if_pos ⟨rfl,by omega⟩,if_pos rfl];rfl
  ·rw[if_neg λ z=>e z.1,if_neg e]
 have K:∀q,q<cs.length->p≠q->s.ds.getD q 0<lnN cs q->acN rs cs s.ds q≠[]->atN cs p<rkN rs cs s.ds q:=λ q lq nq lt aq=>by
  have dq:=Jwm (h0 q lq) aq
  have hq:q∈(letM cs s).wa:=by
   by_cases m:q∈(letM cs s).lr++(letM cs s).wa
   ·rcases ZS.mp m with m|m
    ·have:s.ds.getD q 0=0:=w1.z0 q m
     omega
    ·exact m
   ·have:s.ds.getD q 0=_:=w1.dn q lq m
    omega
  obtain⟨le,fl⟩:rkN rs cs s.ds p<=rkN rs cs s.ds q/\_:=Jzn ip hq
  by_cases ap:acN rs cs s.ds p=[]
  ·have e:rkN rs cs s.ds p=atN cs p:=by
    unfold rkN
    rw[ap]
    rfl
   by_cases eq:rkN rs cs s.ds q=rkN rs cs s.ds p
   ·exact absurd (fl eq ap) aq
   ·omega
  ·rcases v.iv p q lp lq nq zp.2 lt ap aq with z|z
   ·exact z
   ·have:rkN rs cs s.ds q<=atN cs q:=Jvh
    omega
 have same:∀a r,s.sr=a::r->a.1=p->a.2.2=tIn cs s:=λ a r e z=>by
  have h1:=v.tl a r e
  have h2:=(v.ea a (by rw[e];simp)).2.2
  rw[z] at h2
  rw[h1]
  unfold tIn
  split
  ·rename_i ew el
   obtain⟨b,e1,e2,_⟩:=X9 cs (tIn cs s) s.lr s.wa
   have hp:p∈(pops cs (tIn cs s) s.lr s.wa).2:=hp
   rw[e2,ew,Zac] at hp
   have:=w.z0 p (by rw[e1];exact Zam _ hp)
   omega
  ·rfl
 obtain⟨b,r,es,sub,b1,pr,bl,sp,sq,tr⟩:∃b r,Vm p (tIn cs s) (tIn cs s+n) s.sr=(p,b,tIn cs s+n)::r/\(∀c∈r,c∈s.sr)/\b<=tIn cs s/\r.Pairwise (λ a b=>b.2.2<=a.2.1)/\(∀c∈r,c.2.2<=b)/\sumP p r+(tIn cs s-b)=sumP p s.sr/\(∀q,p≠q->sumP q r=sumP q s.sr)/\Tw rs cs r:=by
  have pw:=v.pw
  have tw:=v.tw
  have tl:=v.tl
  cases e:s.sr with
  | nil=>exact⟨_,[],rfl,λ _ h=>h,ZaO _,.nil,(λ _ h=>by cases h),by omega,λ _ _=>rfl,trivial⟩
  | cons a r =>
   rw[e] at pw tw
   obtain⟨p1,p2⟩:=Zcy.mp pw
   have t1:=tl a r e
   have ha:=(v.ea a (by rw[e];simp)).2.1
   by_cases z:a.1=p
   ·have sa:=same a r e z
    refine⟨a.2.1,r,if_pos z,λ _ h=>Zm _ h,by omega,p2,p1,by rw[Vl,if_pos z];omega,λ q nq=>by rw[Vl,if_neg (by rw[z];exact nq)];omega,tw.2⟩
   ·refine⟨_,a::r,if_neg z,λ _ h=>h,ZaO _,pw,λ c hc=>?_,by omega,λ _ _=>rfl,tw⟩
    rcases Z4.mp hc with rfl|hc
    ·omega
    ·have:=p1 c hc
     omega
 have es:(doM rs cs (letM cs s) p n).sr=(p,b,tIn cs s+n)::r:=es
 have sm:=v.sm
 have sp:=sm p lp▸sp
 have ac:∀q,p≠q->acN rs cs (doM rs cs (letM cs s) p n).ds q=acN rs cs s.ds q:=λ q nq=>by
  unfold acN
  rw[gd,if_neg nq]
 have kr:∀q,p≠q->rkN rs cs (doM rs cs (letM cs s) p n).ds q=rkN rs cs s.ds q:=λ q nq=>by
  unfold rkN
  rw[ac q nq]
 refine⟨λ a r' z=>?_,λ a ha=>?_,by rw[es];exact Zcy.mpr ⟨bl,pr⟩,λ q lq=>?_,λ x y lx ly nxy dx dy ax ay=>?_,?_⟩
 ·rw[es] at z
  cases z
  rfl
 ·rw[es] at ha
  rcases Z4.mp ha with rfl|ha
  ·exact⟨lp,by show b<tIn cs s+n;omega,by rw[gd,if_pos rfl];omega⟩
  ·have:=v.ea a (sub a ha)
   refine⟨this.1,this.2.1,?_⟩
   rw[gd]
   split<;>omega
 ·rw[es,gd,Vl]
  by_cases z:p=q
  ·subst z
   rw[if_pos rfl,if_pos rfl]
   show tIn cs s+n-b+_=_
   omega
  ·rw[if_neg z,if_neg z,sq q z,sm q lq]
   omega
 ·rw[gd] at dx dy
  by_cases z:p=x
  ·subst z
   rw[if_neg nxy] at dy
   rw[ac y nxy] at ay
   rw[kr y nxy]
   exact .inl (K y ly nxy dy ay)
  ·rw[if_neg z] at dx
   rw[ac x z] at ax
   rw[kr x z]
   by_cases z2:p=y
   ·subst z2
    exact .inr (K x lx z dx ax)
   ·rw[if_neg z2] at dy
    rw[ac y z2] at ay
    rw[kr y z2]
    exact v.iv x y lx ly nxy dx dy ax ay
 ·rw[es]
  refine⟨λ q lq nq l1 x hx l2 l3 y hy e=>?_,tr⟩
  have nq:=ZK nq
  rw[sq q nq,sm q lq] at l1 l2 l3
  have m:=J0p hx l2 l3
  have k:=K q lq nq l1 (List.ne_nil_of_mem m)
  have h1:rkN rs cs s.ds q<=fZ (rs.map (·.2)) x.1:=J4x m
  have hc:=c0 p lp
  have hy:y∈(rs.getD (cs.getD p cd).at_ rd).2:=hy
  rw[VV hc] at hy
  have h2:=J3u (hss:=rs.map (·.2)) (a:=(cs.getD p cd).at_) (by rw[Zh];exact hc) (b:=y) (by rw[ZM];exact hy)
  rw[e] at h2
  unfold atN at k
  omega
theorem Js8 {kind:Int}{rs:List RH}{cs:List Cm}(I:Bs->Prop)(step:∀s,Wf cs s->¬(s.lr=[]/\s.wa=[])->I s->I (Qz kind rs cs s)):∀(m:Nat)(s:Bs),Wf cs s->mea rs cs s<=m->I s->Wf cs (runM kind rs cs m s)/\(runM kind rs cs m s).lr=[]/\(runM kind rs cs m s).wa=[]/\I (runM kind rs cs m s)
 | m,s,w,lm,i=>by
  by_cases ne:s.lr=[]/\s.wa=[]
  ·rw[Jo6 ne]
   exact⟨w,ne.1,ne.2,i⟩
  ·obtain⟨w1,lt⟩:=w.step (kind:=kind) (rs:=rs) ne
   cases m with
   | zero=>omega
   | succ m =>
    rw[show runM kind rs cs (m+1) s=runM kind rs cs m (Qz kind rs cs s) from if_neg ne]
    exact Js8 I step m _ w1 (by omega) (step s w ne i)
def pcs (q:Nat)(l:List St3):List (Int×Int):=(l.filter λ a=>decide (a.1=q)).map (·.2)
def JT:List (Int×Int)->Int->Int
 | [],_=>0
 | a::l,n=>if n<a.2-a.1 then a.1+n else JT l (n-(a.2-a.1))
theorem Yx {q:Nat}:∀(l:List St3)(n:Int),0<=n->n<sumP q l->∃i a,l[i]?=some a/\a.1=q/\sumP q (l.take i)<=n/\n<sumP q (l.take i)+(a.2.2-a.2.1)/\JT (pcs q l) n=a.2.1+(n-sumP q (l.take i))
 | [],n,h0,h1=>by rw[Jf8] at h1;omega
 | a::l,n,h0,h1=>by
  rw[Vl] at h1
  by_cases z:a.1=q
  ·have e:pcs q (a::l)=a.2::pcs q l:=by unfold pcs;rw[ZaP (p:=λ a:St3=>decide (a.1=q)) (decide_eq_true z)];rfl
   rw[if_pos z] at h1
   rw[e,JT]
   by_cases lt:n<a.2.2-a.2.1
   ·refine⟨0,a,rfl,z,?_,?_,?_⟩
    ·exact h0
    ·rw[Zeh,Jf8];omega
    ·rw[if_pos lt,Zeh,Jf8];omega
   ·obtain⟨i,b,e1,e2,e3,e4,e5⟩:=Yx (q:=q) l (n-(a.2.2-a.2.1)) (by omega) (by omega)
    refine⟨i+1,b,e1,e2,?_,?_,?_⟩
    all_goals rw[Zcf,Vl,if_pos z]
    ·omega
    ·omega
    ·rw[if_neg lt,e5];omega
  ·have e:pcs q (a::l)=pcs q l:=by unfold pcs;rw[ZaQ (by simpa using z)]
   rw[if_neg z] at h1
   obtain⟨i,b,e1,e2,e3,e4,e5⟩:=Yx (q:=q) l n h0 (by omega)
   refine⟨i+1,b,e1,e2,?_,?_,?_⟩
   all_goals rw[Zcf,Vl,if_neg z]
   ·omega
   ·omega
   ·rw[e,e5];omega
theorem Jxa {q:Nat}:∀{l:List St3},(∀a∈l,a.2.1<a.2.2)->0<=sumP q l
 | [],_=>ZaO _
 | a::l,h=>by
  have:=Jxa (q:=q) λ b hb=>h b (Zm _ hb)
  have:=h a Z3
  rw[Vl]
  split<;>omega
theorem Jpf {q:Nat}{l:List St3}(h:∀a∈l,a.2.1<a.2.2){i j:Nat}(le:i<=j):sumP q (l.take i)<=sumP q (l.take j):=by
 have e:=List.take_append_drop i (l.take j)
 rw[List.take_take,ZdV le] at e
 rw[<- e,Jkr]
 have:=Jxa (q:=q) (l:=(l.take j).drop i) λ a ha=>h a (List.mem_of_mem_take (ZcV ha))
 omega
theorem Jv2 {l:List St3}{n p:Nat}{a:St3}(e:l[n]?=some a):sumP p (l.take (n+1))=sumP p (l.take n)+(if a.1=p then a.2.2-a.2.1 else 0):=by
 have hn:=(Zk.mp e).1
 rw[Zao hn,Jkr,(Zk.mp e).2]
 simp[sumP]
structure Fw (rs:List RH)(cs:List Cm)(ss:List St3):Prop where
 lt:∀a∈ss,a.1<cs.length
 ps:∀a∈ss,a.2.1<a.2.2
 pw:∀(i j:Nat)(a b:St3),i<j->ss[i]?=some a->ss[j]?=some b->a.2.2<=b.2.1
 sm:∀p,p<cs.length->sumP p ss=lnN cs p
 tw:∀(i:Nat)(a:St3),ss[i]?=some a->∀q,q<cs.length->q≠a.1->sumP q (ss.take i)<lnN cs q->∀x∈hsN rs cs q,x.2.1<sumP q (ss.take i)->sumP q (ss.take i)<x.2.2->∀y∈hsN rs cs a.1,y.1≠x.1
def VF (cs:List Cm)(q:Nat)(x:Hd):Int:=if lnN cs q<x.2.2 then lnN cs q else x.2.2
theorem Fw.half {rs:List RH}{cs:List Cm}{ss:List St3}(f:Fw rs cs ss)(h0:∀p,p<cs.length->∀x∈hsN rs cs p,0<=x.2.1/\x.2.1<x.2.2){p q:Nat}(lp:p<cs.length)(lq:q<cs.length)(ne:p≠q){x y:Hd}(hx:x∈hsN rs cs p)(hy:y∈hsN rs cs q)(e:x.1=y.1)(dx:x.2.1<lnN cs p)(dy:y.2.1<lnN cs q)
  (b1:JT (pcs q ss) y.2.1<=JT (pcs p ss) x.2.1)(b2:JT (pcs p ss) x.2.1<JT (pcs q ss) (VF cs q y-1)+1):False:=by
 have x0:=h0 p lp x hx
 have y0:=h0 q lq y hy
 have sp:=f.sm p lp
 have sq:=f.sm q lq
 have ly:VF cs q y<=lnN cs q/\VF cs q y<=y.2.2/\y.2.1<VF cs q y:=by
  unfold VF
  split<;>omega
 obtain⟨i,a,ea,ap,a1,a2,a3⟩:=Yx (q:=p) ss x.2.1 x0.1 (by omega)
 obtain⟨j,b,eb,bq,b3,b4,b5⟩:=Yx (q:=q) ss y.2.1 y0.1 (by omega)
 obtain⟨l,c,ec,cq,c1,c2,c3⟩:=Yx (q:=q) ss (VF cs q y-1) (by omega) (by omega)
 have ji:j<i:=by
  rcases Nat.lt_trichotomy j i with h|h|h
  ·exact h
  ·rw[h,ea] at eb
   cases eb
   exact absurd (ap.symm.trans bq) ne
  ·have:=f.pw i j a b h ea eb
   omega
 have il:i<l:=by
  rcases Nat.lt_trichotomy i l with h|h|h
  ·exact h
  ·rw[<- h,ea] at ec
   cases ec
   exact absurd (ap.symm.trans cq) ne
  ·have:=f.pw l i c a h ec ea
   omega
 have m1:=Jpf (q:=q) f.ps (show j+1<=i from ji)
 have m2:=Jpf (q:=q) f.ps (ZbF il)
 rw[Jv2 eb,if_pos bq] at m1
 exact f.tw i a ea q lq (λ z=>ne (by rw[z,ap])) (by omega) y hy (by omega) (by omega) x (by rw[ap];exact hx) e
theorem Fw.two {rs:List RH}{cs:List Cm}{ss:List St3}(f:Fw rs cs ss)(h0:∀p,p<cs.length->∀x∈hsN rs cs p,0<=x.2.1/\x.2.1<x.2.2){p q:Nat}(lp:p<cs.length)(lq:q<cs.length)(ne:p≠q){x y:Hd}(hx:x∈hsN rs cs p)(hy:y∈hsN rs cs q)(e:x.1=y.1)(dx:x.2.1<lnN cs p)(dy:y.2.1<lnN cs q)
  (b1:JT (pcs p ss) x.2.1<JT (pcs q ss) (VF cs q y-1)+1)(b2:JT (pcs q ss) y.2.1<JT (pcs p ss) (VF cs p x-1)+1):False:=by
 rcases Int.le_total (JT (pcs q ss) y.2.1) (JT (pcs p ss) x.2.1) with h|h
 ·exact f.half h0 lp lq ne hx hy e dx dy h b1
 ·exact f.half h0 lq lp (ZK ne) hy hx e.symm dy dx h b2
theorem Tw.at {rs:List RH}{cs:List Cm}:∀{l:List St3},Tw rs cs l->∀{i:Nat}{a:St3},l[i]?=some a->∀q,q<cs.length->q≠a.1->sumP q (l.drop (i+1))<lnN cs q->∀x∈hsN rs cs q,x.2.1<sumP q (l.drop (i+1))->sumP q (l.drop (i+1))<x.2.2->∀y∈hsN rs cs a.1,y.1≠x.1
 | [],_,_,_,e=>by cases e
 | b::l,t,0,a,e=>by
  cases e
  exact t.1
 | b::l,t,i+1,a,e=>Tw.at (l:=l) t.2 (i:=i) e
theorem J0y {kind:Int}{rs:List RH}{cs:List Cm}(L:Legal rs cs)(six:∀r∈rs,r.2.length<=6)(h0:∀p,p<cs.length->∀x∈hsN rs cs p,0<=x.2.1):Fw rs cs (finM kind rs cs).sr.reverse:=by
 have cm:∀p,p<cs.length->cs.getD p cd∈cs:=λ p lp=>by rw[Zi,Zb lp];exact Zz lp
 have i0:Iv rs cs (s0 cs).ds:=λ p q lp lq _ _ _ ap _=>by
  have:=Jwm (h0 p lp) ap
  rw[ds0] at this
  omega
 have ri:=Js8 (kind:=kind) (rs:=rs) (cs:=cs) (Sv rs cs) (λ s w ne v=>v.step (λ p lp=>(L.ok _ (cm p lp)).at_) h0 w ne) (8*cs.length) (s0 cs) (wf0 λ c hc=>(L.ok c hc).n1) (mea0 six λ c hc=>(L.ok c hc).at_) ⟨(λ a r e=>by cases e),(λ a ha=>by cases ha),.nil,(λ p lp=>(ds0 cs p).symm),i0,trivial⟩
 obtain⟨wf,el,ew,sv⟩:=ri
 change Wf cs (finM kind rs cs) at wf
 change (finM kind rs cs).lr=[] at el
 change (finM kind rs cs).wa=[] at ew
 change Sv rs cs (finM kind rs cs) at sv
 generalize finM kind rs cs=fm at *
 refine⟨λ a ha=>(sv.ea a (List.mem_reverse.mp ha)).1,λ a ha=>(sv.ea a (List.mem_reverse.mp ha)).2.1,λ i j a b ij ea eb=>?_,λ p lp=>?_,λ i a ea q=>?_⟩
 ·have pw:=List.pairwise_reverse.mpr sv.pw
  obtain⟨hi,rfl⟩:=Zk.mp ea
  obtain⟨hj,rfl⟩:=Zk.mp eb
  exact Zce.mp pw i j hi hj ij
 ·rw[Jks,sv.sm p lp,wf.dn p lp (by rw[el,ew];simp)]
 ·have hi:=(Zk.mp ea).1
  rw[Zb6] at hi
  rw[List.getElem?_reverse hi] at ea
  have:=sv.tw.at ea q
  rw[show fm.sr.length-1-i+1=fm.sr.length-i by omega] at this
  rw[List.take_reverse,Jks]
  exact this
section
seal L4.run L4.WS
def Xa (a:Int×Int):IV:=.tup [.int a.1,.int a.2]
section
variable {k:Nat}{h:IH}
theorem Jtl {j:Nat}{ps:List (Int×Int)}{n:Int}(g:h[j]?=some (.lst (ps.map Xa))):Jap (k+1) [.ref j,.int n] h=.ok (.int (JT ps n)) h:=by
 refine Jv ?_
 rw[Jih]
 refine xfin (xseq (xfor ?_))
 rw[JU]
 refine WR.of_eq rfl ((JM _).mpr ⟨_,g,?_⟩)
 refine Qs (λ i σ h'=>h=h'/\∃m a b,σ=[some (.ref j),some (.int m),a,b]/\JT (ps.drop i) m=JT ps n) (λ _ _ _ ⟨e,_⟩=>e▸g) ?_ ?_ ⟨rfl,n,none,none,rfl,rfl⟩
 ·rintro i hi _ _ ⟨rfl,m,a,b,rfl,e⟩
  have hi:i<ps.length:=by simpa using hi
  rw[Za8 hi,JT] at e
  rw[ZM]
  generalize ps[i]=x at e
  refine xnx rfl (xseq (xifd (ltE rfl (subE rfl rfl)) (λ l=>?_) λ l=>?_))
  ·rw[if_pos l] at e
   exact xret (WR.of_eq (addE rfl rfl) ⟨by rw[e],rfl⟩)
  ·rw[if_neg l] at e
   exact xnil (xset (WR.of_eq (subE rfl (subE rfl rfl)) ⟨rfl,_,_,_,rfl,e⟩))
 ·rintro _ _ ⟨rfl,m,a,b,rfl,e⟩
  rw[Zh,ZdE] at e
  exact xret (WR.of_eq rfl ⟨by rw[<- e];rfl,rfl⟩)
def J05 (len:Int)(ps:List (Int×Int))(a:Hd):Hd:=(a.1,JT ps a.2.1,JT ps ((if len<a.2.2 then len else a.2.2)-1)+1)
def Qm (len:Int)(ps:List (Int×Int))(hs:List Hd):List Hd:=(hs.filter λ a=>decide (a.2.1<len)).map (J05 len ps)
theorem Jmf {len:Int}{ps:List (Int×Int)}{hs:List Hd}:(Qm len ps hs).length<=hs.length:=by
 unfold Qm
 rw[Zh]
 exact Za3 ..
theorem Jys {c:Cm}{i j:Nat}{hs:List Hd}{ps:List (Int×Int)}(gi:h[i]?=some (.lst (hs.map tupH)))(gj:h[j]?=some (.lst (ps.map Xa)))(l6:hs.length<=6):Je1 (k+2) [.ref i,tupC c,.ref j] h=.ok (.ref h.length) (h++[.lst ((Qm c.len ps hs).map tupH)]):=by
 have hb:=J0
 refine Jv ?_
 rw[Jnu]
 refine xfin (xseq (xset (WR.of_eq rfl (xseq (xfor ?_)))))
 rw[JU]
 refine WR.of_eq rfl ((JM _).mpr ⟨_,grow gi,?_⟩)
 refine Qs (λ n σ h'=>(∃a b d e,σ=[some (.ref i),some (tupC c),some (.ref j),some (.ref h.length),a,b,d,e])/\h'=h++[.lst ((Qm c.len ps (hs.take n)).map tupH)]) (λ _ _ _ ⟨_,e⟩=>by rw[e];exact grow gi) ?_ ?_ ⟨⟨none,none,none,none,rfl⟩,rfl⟩
 ·rintro n hn _ _ ⟨⟨a,b,d,e,rfl⟩,rfl⟩
  have hn:n<hs.length:=by simpa using hn
  have l1:=Jmf (len:=c.len) (ps:=ps) (hs:=hs.take n)
  rw[ZaN] at l1
  have es:∀q,Qm c.len ps (hs.take (n+1))=Qm c.len ps (hs.take n)++q↔Qm c.len ps [hs[n]]=q:=λ q=>by
   unfold Qm
   rw[Zao hn,Zdt,ZaJ,List.append_cancel_left_eq]
  rw[ZM]
  generalize hs[n]=x at es
  refine xnx rfl (xifd (ltE rfl (ixtE rfl rfl Qd)) (λ l=>?_) λ l=>?_)
  ·rw[(es [J05 c.len ps x]).mpr (by unfold Qm;rw[ZaP (p:=λ a:Hd=>decide (a.2.1<c.len)) (decide_eq_true l)];rfl)]
   refine xseq (xset (WR.of_eq (Qj (arg2 rfl (subE (minE rfl (ixtE rfl rfl Qd)) rfl)) (Jtl (k:=k) (grow gj))) ?_))
   refine Qt (QJ rfl Jj Vx (WR.of_eq (arg1 (tupE (arg3 rfl (Qj (arg2 rfl rfl) (Jtl (k:=k) (grow gj))) (addE rfl rfl)) rfl)) (xapp Jj (by rw[Zh];omega) ⟨⟨_,_,_,_,rfl⟩,?_⟩)))
   rw[Xd,ZaJ]
   rfl
  ·rw[(es []).mpr (by unfold Qm;rw[ZaQ (by simpa using l)];rfl),Zak]
   exact xnil ⟨⟨_,_,_,_,rfl⟩,rfl⟩
 ·rintro _ _ ⟨⟨a,b,d,e,rfl⟩,rfl⟩
  rw[Zh,ZdH]
  exact xret (WR.of_eq rfl ⟨rfl,rfl⟩)
theorem Jml {chk:IH->Prop}(hc:∀h2,Kp h h2->chk h2):∀(xs acc:List IV)(g:IH)(o:Option IV),acc.length+xs.length<sizeLine ->
  JD chk (gNm 0) J4 (Js Jd) h.length xs [o] (h++.lst acc::g)=.ok (.ref h.length) (h++.lst (acc++(ZF xs.length).map λ i=>.ref (h.length+1+g.length+i))::(g++ZJ xs.length (.lst [])))
 | [],acc,g,o,_=>by
  unfold JD
  rw[if_pos (hc _ λ _ _ e=>(Ex.cons _ _ _).get e)]
  simp
 | x::xs,acc,g,o,l=>by
  have l:acc.length+xs.length+1<sizeLine:=by simpa [Zd2] using l
  unfold JD
  rw[if_pos (hc _ λ _ _ e=>(Ex.cons _ _ _).get e)]
  have e1:∀σ:ISt,Js Jd σ (h++.lst acc::g)=.ok (.ref (h.length+1+g.length)) (h++.lst acc::(g++[.lst []])):=λ σ=>by
   refine(lstE rfl rfl).trans ?_
   rw[Zo,Z7,ZQ,ZV,show h.length+(g.length+1)=h.length+1+g.length by omega]
  dsimp only[gNm,Zbi,J4]
  rw[e1]
  dsimp only
  rw[J1]
  dsimp only
  rw[if_pos (by omega),Xe,Jml hc xs _ _ _ (by rw[Zo,Zaa];omega)]
  congr 2
  rw[Z7,ZdO,Z0,Za7,ZQ,ZQ,Za9]
  congr 3
  rw[ZV,Zac]
  congr 1
  refine Zdf λ i _=>?_
  show IV.ref _=IV.ref _
  rw[Zo,Zaa]
  congr 1
  show _=_+(i+1)
  omega
structure Pt (h:IH)(P n:Nat)(f:Nat->List (Int×Int)):Prop where
 l:h[P]?=some (.lst ((ZF n).map λ q=>.ref (P+1+q)))
 e:∀q,q<n->h[P+1+q]?=some (.lst ((f q).map Xa))
theorem Jzf {R:Nat}{xs:List IV}{σ:ISt}{e:E1}(ee:e σ h=.ok (.ref R) h)(gR:h[R]?=some (.lst xs))(lx:xs.length<1000):∃h',Jy (Ju e) 1 [] (gNm 0) J4 (Js Jd) σ h=.ok (.ref h.length) h'/\Ex h h'/\h'.length=h.length+1+xs.length/\Pt h' h.length xs.length λ _=>[]:=by
 have hb:=J0
 have ei:Ju e σ h=.ok ⟨xs,λ h'=>h'[R]?=some (.lst xs)⟩ h:=Jv (by rw[JU];exact WR.of_eq ee ((JM _).mpr ⟨_,gR,rfl,rfl⟩))
 have:=Jml (h:=h) (chk:=λ h'=>h'[R]?=some (.lst xs)) (λ h2 q=>q _ _ gR) xs [] [] none (by simp;omega)
 have ec:Jy (Ju e) 1 [] (gNm 0) J4 (Js Jd) σ h=JD (λ h'=>h'[R]?=some (.lst xs)) (gNm 0) J4 (Js Jd) h.length xs [none] (h++[.lst []]):=by
  unfold Jy
  rw[ei]
  rfl
 refine⟨_,ec.trans this,Ex.cons _ _ _,?_,⟨?_,?_⟩⟩
 ·simp
  omega
 ·rw[J1]
  rfl
 ·intro q hq
  rw[Z2 (by omega),show h.length+1+q-h.length=q+1 by omega,Zat,Zac,List.getElem?_replicate_of_lt hq]
  rfl
theorem Jnc {P n p:Nat}(lp:p<n):atI ((ZF n).map λ q=>IV.ref (P+1+q)) (p:Int)=some (.ref (P+1+p)):=JH (by rw[Zt,Zde lp];rfl)
theorem Jve {q:Nat}{l:List St3}{n:Nat}{a:St3}(e:l[n]?=some a):pcs q (l.take (n+1))=pcs q (l.take n)++(if a.1=q then[a.2] else[]):=by
 obtain⟨hn,rfl⟩:=Zk.mp e
 unfold pcs
 rw[Zao hn,Zdt,ZaJ]
 congr 1
 by_cases z:(l[n]).1=q
 ·rw[if_pos z,ZaP (p:=λ a:St3=>decide (a.1=q)) (decide_eq_true z)];rfl
 ·rw[if_neg z,ZaQ (by simpa using z)];rfl
abbrev sg7 (v0:IV)(S W R P:Nat)(a5 a6 a7 a8 a9 a10 a11 a12 a13 a14:Option IV):ISt:=[some v0,some (.ref S),some (.ref W),some (.ref R),some (.ref P),a5,a6,a7,a8,a9,a10,a11,a12,a13,a14]
theorem Jvd {v0:IV}{S W R P F n:Nat}{ss:List St3}{e:E1}{h0 h1:IH}{Q:IV->IH->Prop}(ee:e (sg7 v0 S W R P none none none none none none none none none none) h=.ok (.ref F) h1)(gF:h1[F]?=some (.lst (ss.map tupS)))(pt:Pt h1 P n λ _=>[])(x0:Ex h0 h1)(l0:h0.length=P)(FP:P+1+n<=F)(lt:∀a∈ss,a.1<n)(sn:ss.length<=100000) :
  WS (sFor (Ju e) (gTp 3 (gC (gNm 5) (gC (gNm 6) (gC (gNm 7) gN)))) (Jow k) (sg7 v0 S W R P none none none none none none none none none none) h) (λ σ h'=>(∃a5 a6 a7,σ=sg7 v0 S W R P a5 a6 a7 none none none none none none none)/\Ex h0 h'/\Pt h' P n λ q=>pcs q ss) Q:=by
 have hb:=J0
 refine xfor ?_
 rw[JU]
 refine WR.of_eq ee ((JM _).mpr ⟨_,gF,?_⟩)
 refine Qs (λ i σ h'=>(∃a5 a6 a7,σ=sg7 v0 S W R P a5 a6 a7 none none none none none none none)/\Ex h0 h'/\h'[F]?=some (.lst (ss.map tupS))/\Pt h' P n λ q=>pcs q (ss.take i)) (λ _ _ _ ⟨_,_,g,_⟩=>g) ?_ ?_ ⟨⟨_,_,_,rfl⟩,x0,gF,pt⟩
 ·rintro i hi _ h2 ⟨⟨a5,a6,a7,rfl⟩,x2,g2,p2⟩
  have hi:i<ss.length:=by simpa using hi
  have ei:ss[i]?=some ss[i]:=Zb hi
  have la:=lt _ (Zz hi)
  have st:∀q,pcs q (ss.take (i+1))=_:=λ q=>Jve ei
  rw[ZM]
  generalize ss[i]=a at la st
  have gp:=p2.e a.1 la
  have lm:(pcs a.1 (ss.take i)).length<=100000:=by
   unfold pcs
   rw[Zh]
   refine ZO (Za3 ..) ?_
   rw[ZaN]
   omega
  refine xnx rfl (Qt (QJ (ixlE rfl rfl p2.l (Jnc la)) gp Vx (WR.of_eq (arg1 (tupE (arg2 rfl rfl) rfl)) (xapp gp (by rw[Zh];omega) ⟨⟨_,_,_,rfl⟩,Vc x2 (by omega),J6 g2 (by omega),J6 p2.l (by omega),λ q lq=>?_⟩))))
  rw[st]
  by_cases z:a.1=q
  ·subst z
   rw[QF gp,if_pos rfl,ZaJ]
   rfl
  ·rw[if_neg z,Zak]
   exact J6 (p2.e q lq) (by omega)
 ·rintro _ h2 ⟨s,x2,_,p2⟩
  rw[Zh,ZdH] at p2
  exact⟨s,x2,p2⟩
theorem neSm {a:Int}:cNe (.int a) (.int a) h=.ok (.bl false) h:=by
 show Res.ok (IV.bl (!decide (a=a))) h=_
 rw[decide_eq_true rfl]
 rfl
theorem eqsE {σ:ISt}{h1 h2:IH}{a b:E1}{x y:Str}(ea:a σ h=.ok (.str x) h1)(eb:b σ h1=.ok (.str y) h2):Jg asB (Jc cEq a b) σ h=.ok (decide (x=y)) h2:=tofE (binE ea eb)
theorem Jvc {v0:IV}{S W R P q t:Nat}{xs ys:List Hd}{a5 a6 a7 a9 a11 a12 a13 a14:Option IV}{Q:IV->IH->Prop}(gq:h[q]?=some (.lst (xs.map tupH)))(gt:h[t]?=some (.lst (ys.map tupH)))(no:∀x∈xs,∀y∈ys,x.1=y.1->x.2.1<y.2.2->y.2.1<x.2.2->False) :
  WS (sFor (Ju (Ja 10)) (gTp 3 (gC (gNm 11) (gC (gNm 6) (gC (gNm 7) gN)))) (Jox k) (sg7 v0 S W R P a5 a6 a7 (some (.ref t)) a9 (some (.ref q)) a11 a12 a13 a14) h) (λ σ h'=>(∃a5 a6 a7 a9 a11 a12 a13 a14,σ=sg7 v0 S W R P a5 a6 a7 (some (.ref t)) a9 (some (.ref q)) a11 a12 a13 a14)/\h=h') Q:=by
 refine xfor ?_
 rw[JU]
 refine WR.of_eq rfl ((JM _).mpr ⟨_,gq,?_⟩)
 refine Qs (λ _ σ h'=>(∃a5 a6 a7 a9 a11 a12 a13 a14,σ=sg7 v0 S W R P a5 a6 a7 (some (.ref t)) a9 (some (.ref q)) a11 a12 a13 a14)/\h=h') (λ _ _ _ ⟨_,e⟩=>e▸gq) ?_ (λ _ _ z=>z) ⟨⟨_,_,_,_,_,_,_,_,rfl⟩,rfl⟩
 rintro i hi _ _ ⟨⟨a5,a6,a7,a9,a11,a12,a13,a14,rfl⟩,rfl⟩
 have hx:=Zz (l:=xs) (show i<xs.length by simpa using hi)
 rw[ZM]
 generalize xs[i]'_=x at hx
 refine xnx rfl (xfor ?_)
 rw[JU]
 refine WR.of_eq rfl ((JM _).mpr ⟨_,gt,?_⟩)
 refine Qs (λ _ σ h'=>(∃a12 a13 a14,σ=sg7 v0 S W R P a5 (some (.int x.2.1)) (some (.int x.2.2)) (some (.ref t)) a9 (some (.ref q)) (some (.str x.1)) a12 a13 a14)/\h=h') (λ _ _ _ ⟨_,e⟩=>e▸gt) ?_ (λ _ _ ⟨⟨_,_,_,e⟩,z⟩=>⟨⟨_,_,_,_,_,_,_,_,e⟩,z⟩) ⟨⟨_,_,_,rfl⟩,rfl⟩
 rintro j hj _ _ ⟨⟨a12,a13,a14,rfl⟩,rfl⟩
 have hy:=Zz (l:=ys) (show j<ys.length by simpa using hj)
 rw[ZM]
 generalize ys[j]'_=y at hy
 refine xnx rfl (xiff ?_ (xnil ⟨⟨_,_,_,rfl⟩,rfl⟩))
 by_cases q1:x.1=y.1
 ·refine andT (okc (eqsE rfl rfl) (decide_eq_true q1)) ?_
  by_cases q2:x.2.1<y.2.2
  ·exact andT (okc (ltE rfl rfl) (decide_eq_true q2)) (okc (ltE rfl rfl) (decide_eq_false (no x hx y hy q1 q2)))
  ·exact andF (okc (ltE rfl rfl) (decide_eq_false q2))
 ·exact andF (okc (eqsE rfl rfl) (decide_eq_false q1))
end
end
section
seal L4.run L4.WS
section
variable {k:Nat}{h:IH}
def DW (h1:IH)(x y:IV)(h':IH):Prop:=∀(r:RH)(q:Nat),x=tp6 r q->h1[q]?=some (.lst (r.2.map tupH))->∃w:Nat,y=IV.ref w/\w≠h1.length/\h'[w]?=some (wo r)
theorem Jv4 {S lo:Nat}{ys:List IV}{rs:List RH}{unit:Int}{e:E1}{σ:ISt}(ee:e σ h=.ok (.ref S) h)(G:Gd unit rs)(gS:h[S]?=some (.lst ys))(w:RowT h lo ys rs) :
  ∃h',Jy (Ju e) 1 [] (gNm 0) J4 (Jei (k+5)) σ h=.ok (.ref h.length) h'/\∃vs,h'[h.length]?=some (.lst vs)/\AllH h' vs rs/\Kp h h':=by
 have hb:=J0
 have few:=G.few
 have wl:=w.len
 obtain⟨v,h3,ev,rfl,vs,gv,lv,k3,dv⟩:=(Jv6 (it:=Ju e) (e:=Jei (k+5)) (js:=[]) (σ:=σ) (h0:=h) (h:=h) (xs:=ys) (chk:=λ h'=>h'[S]?=some (.lst ys)) (DW h)
  (by rw[JU];exact WR.of_eq ee ((JM _).mpr ⟨_,gS,rfl,rfl,rfl⟩)) (by omega) (by
   intro x y h2 h3 kb dd r q e g
   obtain⟨w,e1,e2,e3⟩:=dd r q e g
   exact⟨w,e1,e2,kb _ _ e2 e3⟩) (λ h2 q=>q _ _ gS) (by
   intro x hx h2 k2 l2
   obtain⟨n,hn,rfl⟩:=Zau.mp hx
   have hn':n<rs.length:=by omega
   obtain⟨q,ey,_,gq⟩:=w.at_ n _ _ (Zb hn) (Zb hn')
   have f8:=G.f _ (Zz hn')
   have u1:=G.u1
   rw[ey]
   generalize rs[n]=r at gq f8
   have f1:=f8.g1
   have gq2:=k2 _ _ gq
   have a5:atI (IV.str r.1.name::tp5 r q) 5=some (.ref q):=Jxx
   unfold Jei
   rw[VO]
   refine WR.of_eq (argC (ixtE rfl rfl JX) (argC (ixtE rfl rfl Qi) (argC (ixtE rfl rfl Q5) (argC (ixtE rfl rfl Qd) (argC (ixtE rfl rfl Va) (arg1 (J1w (ixtE rfl rfl a5) gq2))))))) ?_
   generalize hs':r.2.map tupH=hs
   refine WR.mono (Jza (k:=k) (hs:=hs) f8.nm (by omega) f8.l1 f8.t1 (λ h1=>Jqr f8.d1 f8.d2) λ h1 z=>hs'▸Jmm (z _ _ (by rw[hs'];exact Jj)) f8.ok) ?_
   rintro _ h3 ⟨rfl,g,rfl⟩
   refine⟨rfl,(Ex.one _ _).trans (.cons _ _ _),λ r' q' e' g'=>⟨_,rfl,by rw[Zo];omega,?_⟩⟩
   have e':tp6 r q=tp6 r' q':=e'
   simp only[tp6,tp5,IV.tup.injEq,Zdc,IV.str.injEq,IV.int.injEq,IV.ref.injEq,and_true] at e'
   obtain⟨e1,e2,e3,e4,e5,rfl⟩:=e'
   rw[gq] at g'
   have g':r.2.map tupH=r'.2.map tupH:=by simpa using g'
   rw[<- hs',g']
   unfold wo
   rw[<- e1,<-e2,<-e3,<-e4,<-e5]
   exact J1)).eq
 refine⟨h3,ev,vs,gv,⟨by omega,λ i v r a b=>?_⟩,k3⟩
 obtain⟨q,ey,gq⟩:=w.get b
 obtain⟨W,e1,_,e3⟩:=dv i _ _ ey a r q rfl gq
 exact⟨W,e1,e3⟩
theorem Jva {W:Nat}{vs:List IV}{rs:List RH}{unit:Int}{e:E1}{σ:ISt}(ee:e σ h=.ok (.ref W) h)(G:Gd unit rs)(gv:h[W]?=some (.lst vs))(wA:AllH h vs rs) :
  WR (Qw "ByRank" (Jao (k+5)) [] (Jb (Qw "Duty" (Xn (k+5)) [] (Jb e Jd)) Jd) σ h) λ v h'=>∃O,v=.ref O/\Ex h h'/\IsOr h' 0 O rs:=by
 have few:=G.few
 have d:WR (Qw "Duty" (Xn (k+5)) [] (Jb e Jd) σ h) λ v h'=>∃D,v=.ref D/\Ex h h'/\IsDu h' D rs:=by
  rw[VO]
  refine WR.of_eq (arg1 ee) (WR.mono (J3s (k:=k+2) gv wA G) ?_)
  rintro _ h4 ⟨rfl,x4,d4⟩
  exact⟨rfl,_,rfl,x4,d4⟩
 obtain⟨_,h4,e4,D,rfl,x4,d4⟩:=d.eq
 rw[VO]
 refine WR.of_eq (arg1 e4) (WR.mono (Js4 (k:=k+1) d4 (by omega) λ r hr=>(G.f r hr).ok.few) ?_)
 rintro _ h5 ⟨rfl,x5,o⟩
 exact⟨rfl,_,rfl,x4.trans x5,o⟩
def stP (v:IV):ISt:=match v with
 | .tup [a,b]=>[some a,some b]
 | _=>[]
def dfP (v:IV):IV:=match v with
 | .tup [.int a,.int b]=>.int (b-a)
 | _=>.non
theorem Jth {q:Nat}:∀l:List St3,((pcs q l).map λ a=>a.2-a.1).sum=sumP q l
 | []=>rfl
 | a::l=>by
  have ih:=Jth (q:=q) l
  rw[Vl]
  unfold pcs at *
  by_cases z:a.1=q
  ·rw[ZaP (p:=λ a:St3=>decide (a.1=q)) (decide_eq_true z),Z0,Z0,Zd3,ih,if_pos z]
  ·rw[ZaQ (by simpa using z),ih,if_neg z]
   omega
theorem J23 {e:E1}{σ:ISt}{j:Nat}{ps:List (Int×Int)}(ee:e σ h=.ok (.ref j) h)(g:h[j]?=some (.lst (ps.map Xa)))(l:ps.length<200000):∃h',eCB (on1 sumI) (Jb (Jy (Ju e) 2 [] (gTp 2 (gC (gNm 0) (gC (gNm 1) gN))) J4 (Jg2 k)) Jd) σ h=.ok (.int (ps.map λ a=>a.2-a.1).sum) h'/\Ex h h':=by
 have hb:=J0
 obtain⟨_,_,e1,rfl,gg,rfl⟩:=(Jv7 (it:=Ju e) (g:=gTp 2 (gC (gNm 0) (gC (gNm 1) gN))) (t:=J4) (e:=Jg2 k) (js:=[]) (σ:=σ) (h0:=h) (h:=h) (xs:=ps.map Xa) (chk:=λ h'=>h'[j]?=some (.lst (ps.map Xa))) (n:=2) (st:=stP) (p:=λ _=>true) (f:=dfP)
  (by rw[JU];exact WR.of_eq ee ((JM _).mpr ⟨_,g,rfl,rfl,rfl⟩)) (by rw[Zh];omega) (λ h3 q=>q _ _ g) (by
   intro x hx ls h3 l2
   obtain⟨a,_,rfl⟩:=ZB.mp hx
   match ls,l2 with
   | [a,b],_=>exact⟨rfl,rfl⟩) (λ x hx h3 q=>⟨rfl,.refl _⟩) (by
   intro x hx _ h3 q
   obtain⟨a,_,rfl⟩:=ZB.mp hx
   exact WR.of_eq (subE rfl rfl) ⟨rfl,.refl _⟩)).eq
 have em:((ps.map Xa).filter λ _=>true).map dfP=(ps.map λ a=>a.2-a.1).map IV.int:=by
  rw[List.filter_eq_self.mpr λ _ _=>rfl,Za7,Za7]
  rfl
 rw[em] at e1
 refine⟨h++L3.IO.lst ((ps.map λ a=>a.2-a.1).map IV.int)::gg,(cbE (arg1 e1)).trans (Jv ?_),.cons _ _ _⟩
 rw[Xj,Jtx]
 exact⟨_,J1,_,Vd _,rfl,rfl⟩
def XJ (rs:List RH)(cs:List Cm)(ss:List St3)(n:Nat):List Hd:=(ZF n).flatMap λ q=>Qm (lnN cs q) (pcs q ss) (hsN rs cs q)
theorem Jq0 {rs:List RH}{cs:List Cm}{ss:List St3}{n:Nat}:XJ rs cs ss (n+1)=XJ rs cs ss n++Qm (lnN cs n) (pcs n ss) (hsN rs cs n):=by
 unfold XJ
 rw[ZdU,List.flatMap_append,List.flatMap_singleton]
theorem Jym {v0:IV}{S W R P t lo:Nat}{ys:List IV}{rs:List RH}{cs:List Cm}{ss:List St3}{a5 a6 a7:Option IV}{Q:IV->IH->Prop}(gS:h[S]?=some (.lst ys))(w:RowT h lo ys rs)(gR:h[R]?=some (.lst (cs.map tupC)))(pt:Pt h P cs.length λ q=>pcs q ss)(gt:h[t]?=some (.lst []))
  (cn:cs.length<=200)(sn:ss.length<=100000)(c0:∀p,p<cs.length->(cs.getD p cd).at_<rs.length)(six:∀r∈rs,r.2.length<=6)(h0:∀p,p<cs.length->∀x∈hsN rs cs p,0<=x.2.1/\x.2.1<x.2.2)(f:Fw rs cs ss) :
  WS (sFor (iRg Qn (Jb (eCB (on1 lenI) (Jb (Ja 3) Jd)) Jd)) (gNm 9) (Joy (k+2)) (sg7 v0 S W R P a5 a6 a7 (some (.ref t)) none none none none none none) h) (λ _ _=>True) Q:=by
 have hb:=J0
 refine xrng (lenE rfl gR) (by rw[Zh];omega) ?_
 refine Qs (λ n σ h'=>(∃a5 a6 a7 t a9 a10 a11 a12 a13 a14,σ=sg7 v0 S W R P a5 a6 a7 (some (.ref t)) a9 a10 a11 a12 a13 a14/\h'[t]?=some (.lst ((XJ rs cs ss n).map tupH)))/\Ex h h'/\(XJ rs cs ss n).length<=6*n) (λ _ _ _ _=>trivial) ?_ (λ _ _ _=>trivial) ⟨⟨_,_,_,_,_,_,_,_,_,_,rfl,gt⟩,.refl _,Zl _⟩
 rintro n hn _ h1 ⟨⟨a5,a6,a7,t,a9,a10,a11,a12,a13,a14,rfl,g1⟩,x1,l1⟩
 rw[VH,show(0:Int)+(n:Int)=n by omega]
 have hn:n<cs.length:=by simpa [rngI] using hn
 have gR1:=x1.get gR
 have gP1:=x1.get pt.l
 have ge1:=x1.get (pt.e n hn)
 have ca:=c0 n hn
 obtain⟨q,ey,gq⟩:=w.get (Zb ca)
 have hh:hsN rs cs n=(rs[(cs.getD n cd).at_]).2:=by unfold hsN;rw[VV ca]
 have l6:=six _ (Zz ca)
 have no:=λ (x:Hd)(hx:x∈Qm (lnN cs n) (pcs n ss) (hsN rs cs n))(y:Hd)(hy:y∈XJ rs cs ss n)(e1:x.1=y.1)(e2:x.2.1<y.2.2)(e3:y.2.1<x.2.2)=>show False by
  obtain⟨m,hm,hy⟩:=List.mem_flatMap.mp hy
  obtain⟨a,ha,rfl⟩:=ZB.mp hx
  obtain⟨b,hb,rfl⟩:=ZB.mp hy
  have hm:=Zar.mp hm
  obtain⟨ha,da⟩:=ZaF.mp ha
  obtain⟨hb,db⟩:=ZaF.mp hb
  exact f.two h0 hn (show m<cs.length by omega) (by omega) ha hb e1 (of_decide_eq_true da) (of_decide_eq_true db) e2 e3
 have lc:(pcs n ss).length<200000:=by
  unfold pcs
  rw[Zh]
  have:=Za3 (λ a:St3=>decide (a.1=n)) ss
  omega
 have sm:((pcs n ss).map λ a=>a.2-a.1).sum=(cs.getD n cd).len:=(Jth ss).trans (f.sm n hn)
 rw[<- hh] at gq l6
 refine xnx rfl ?_
 obtain⟨h2,e2,x2⟩:=J23 (k:=k+2) (e:=Jc Je (Ja 4) (Ja 9)) (σ:=sg7 v0 S W R P a5 a6 a7 (some (.ref t)) (some (.int (n:Int))) a10 a11 a12 a13 a14) (ixlE rfl rfl gP1 (Jnc hn)) ge1 lc
 rw[sm] at e2
 have gR2:=x2.get gR1
 have x12:=x1.trans x2
 have gq2:=x12.get gq
 refine xseq (xiff (tofE ((binE e2 (ixtE (ixlE rfl rfl gR2 (VS hn)) rfl Qd)).trans neSm)) (xnil (xseq (xset (WR.of_eq (Qj (arg3 (ixtE (ixlE rfl (ixtE (ixlE rfl rfl gR2 (VS hn)) rfl JX) (x12.get gS) (JH ey)) rfl Jxx) (ixlE rfl rfl gR2 (VS hn)) (ixlE rfl rfl (x2.get gP1) (Jnc hn))) (Jys (k:=k) gq2 (x2.get ge1) l6)) (xseq ?_))))))
 have lh:=Jmf (len:=(cs.getD n cd).len) (ps:=pcs n ss) (hs:=hsN rs cs n)
 have ts:=Jq0 (rs:=rs) (cs:=cs) (ss:=ss) (n:=n)
 refine WS.mono (Jvc (q:=h2.length) (t:=t) Jj (grow (x2.get g1)) no) ?_ λ _ _ z=>z
 rintro _ _ ⟨⟨a5,a6,a7,a9,a11,a12,a13,a14,rfl⟩,rfl⟩
 refine xset (xb (WR.of_eq rfl (xb (WR.of_eq rfl ((Jkx ..).mpr ⟨_,grow (x2.get g1),_,Jj,?_,⟨_,_,_,_,_,_,_,_,_,_,rfl,?_⟩,?_,?_⟩)))))
 ·rw[Zh,Zh]
  omega
 ·rw[Jj,ts,ZaJ]
  rfl
 ·exact(x12.trans (.one _ _)).trans (.one _ _)
 ·rw[ts,Zo]
  have:(Qm (lnN cs n) (pcs n ss) (hsN rs cs n)).length<=(hsN rs cs n).length:=lh
  omega
theorem Juw (ns:List Int)(hl:ns.length<=63):∃h',Xo 16 [.rol (ns.map IV.int)] [.tab "Order.pick",.tab "Bench.__init__"]=.ok (.bl true) h':=by
 suffices h:WR (Xo 16 [.rol (ns.map IV.int)] [.tab "Order.pick",.tab "Bench.__init__"]) λ v _=>v=.bl true by
  obtain⟨v,h',e,rfl⟩:=h.eq
  exact⟨h',e⟩
 have t0:([.tab "Order.pick",.tab "Bench.__init__"]:IH)[1]?=some (.tab "Bench.__init__"):=rfl
 have t1:([.tab "Order.pick",.tab "Bench.__init__"]:IH)[0]?=some (.tab "Order.pick"):=rfl
 generalize ([.tab "Order.pick",.tab "Bench.__init__"]:IH)=h at t0 t1 ⊢
 rw[J02]
 refine xfin (xseq (xset (xb (WR.of_eq (arg2 rfl rfl) (WR.mono (Jz3 (k:=11) ns true) ?_)))))
 rintro _ h1 ⟨x1,S,lo,ys,rs,c,unit,rfl,_,gS,w,D,lr,no⟩
 have G:=D.gd (show rs.length<=7 by omega)
 obtain⟨h2,ev,vs,gv,wA,k2⟩:=Jv4 (k:=10) (e:=Ja 1) (σ:=[some (.rol (ns.map IV.int)),some (.ref S),none,none,none,none,none,none,none,none,none,none,none,none,none]) rfl G gS w
 have x2:=Jyn k2
 refine xseq (xset (WR.of_eq ev ?_))
 generalize h1.length=W at gv
 have gS2:=x2.get gS
 have w2:=w.kp k2
 have ec:cutI (ns.map IV.int) (some 8) (some 22)=((ns.drop 8).take 14).map IV.int:=by
  rw[show(some (8:Int))=some ((8:Nat):Int) from rfl,show(some (22:Int))=some ((22:Nat):Int) from rfl,Jyi]
  rw[List.map_take,Zer,List.drop_take]
 refine xseq (xset (xb (xb (WR.of_eq (show eSl slI _ _ _ _ _=.ok (.ref h2.length) (h2++[.lst (cutI (ns.map IV.int) (some 8) (some 22))]) from rfl) (xb (WR.of_eq (arg1 rfl) (WR.of_eq rfl ?_)))))))
 rw[ec]
 have xa:Ex h2 (h2++[L3.IO.lst (((ns.drop 8).take 14).map IV.int)]):=.one _ _
 refine WR.mono (J2l (k:=13) (xa.get gS2) (w2.kp xa.kp) D (by omega) Jj (by rw[ZaN];omega)) ?_
 rintro _ h3 ⟨R,cs,rfl,_,gR,L,lcs,x3⟩
 have lcs:cs.length<=14:=ZO lcs (by rw[ZaN];omega)
 have x3:=xa.trans x3
 have six:∀r∈rs,r.2.length<=6:=λ r hr=>(G.f r hr).ok.few
 have cm:∀p,p<cs.length->cs.getD p cd∈cs:=λ p lp=>by rw[Zi,Zb lp];exact Zz lp
 have c0:=λ p lp=>(L.ok _ (cm p lp)).at_
 have h0:∀p,p<cs.length->∀x∈hsN rs cs p,0<=x.2.1/\x.2.1<x.2.2:=λ p lp x hx=>by
  have hx:x∈(rs.getD (cs.getD p cd).at_ rd).2:=hx
  rw[VV (c0 p lp)] at hx
  have:=(G.f _ (Zz (c0 p lp))).ok.each x hx
  exact⟨this.2.1,this.2.2.1⟩
 obtain⟨h4,e4,x4,l4,pt⟩:=Jzf (e:=Ja 3) (σ:=[some (.rol (ns.map IV.int)),some (.ref S),some (.ref W),some (.ref R),none,none,none,none,none,none,none,none,none,none,none]) rfl gR (by rw[Zh];omega)
 rw[Zh] at l4 pt
 refine xseq (xset (WR.of_eq e4 ?_))
 generalize eP:h3.length=P at pt l4
 have x34:=x3.trans x4
 obtain⟨_,h5,e5,O,rfl,x5,o⟩:=(Jva (k:=10) (e:=Ja 2) (σ:=sg7 (.rol (ns.map IV.int)) S W R P none none none none none none none none none none) rfl G (x34.get gv) (wA.kp x34.kp)).eq
 have gR5:=x5.get (x4.get gR)
 have x6:Ex h5 (h5++[.lst (cs.map tupC)]):=.one _ _
 have gH:(h5++[L3.IO.lst (cs.map tupC)])[h5.length]?=some (.lst (cs.map tupC)):=Jj
 have xt:=x1.trans (x2.trans (x34.trans (x5.trans x6)))
 obtain⟨_,h7,e7,F,rfl,lF,gF,x7⟩:=(J2m (k:=8) (R:=h5.length) ⟨o.kp x6.kp,gH,λ c hc=>(L.ok c hc).at_,six,xt.get t1,by omega⟩ (xt.get t0) L (by omega)).eq
 have fw:=J0y (kind:=0) L six λ p lp x hx=>(h0 p lp x hx).1
 have ls:=Jyo (kind:=0) (rs:=rs) (cs:=cs)
 have x47:=x5.trans (x6.trans x7)
 have le5:=x5.len
 rw[Zo,Zaa] at lF
 have ls:(finM 0 rs cs).sr.reverse.length<=100000:=by rw[Zb6];omega
 generalize (finM 0 rs cs).sr.reverse=ss at fw ls gF
 refine xseq (WS.mono (Jvd (h0:=h3) (Qj (arg2 e5 (J1w rfl gR5)) e7) gF ⟨x47.get pt.l,λ q lq=>x47.get (pt.e q lq)⟩ (x4.trans x47) eP (by omega) fw.lt ls) ?_ λ _ _ z=>z)
 rintro _ h8 ⟨⟨a5,a6,a7,rfl⟩,x8,pt8⟩
 have x9:Ex h8 (h8++[.lst []]):=.one _ _
 have x39:=x8.trans x9
 refine xseq (xset (WR.of_eq rfl (xseq (WS.mono (Jym (k:=13) (t:=h8.length) (x39.get (x3.get gS2)) (w2.kp (x3.trans x39).kp) (x39.get gR) ⟨x9.get pt8.l,λ q lq=>x9.get (pt8.e q lq)⟩ Jj (by omega) ls c0 six h0 fw) (λ _ _ _=>?_) λ _ _ z=>z))))
 exact xret (WR.of_eq rfl rfl)
end
end
end LW
end
namespace LW
open PySem L2 L3 L4
section
local macro_rules | `(tactic| bv_omega) => `(tactic| exact ⟨scOk.of (by decide +kernel), rfl, rfl, λ _ _ _ _ _ _ => by first | exact len1 λ _ => rfl | exact len2 λ _ _ => rfl | exact len3 λ _ _ _ => rfl | exact len4 λ _ _ _ _ => rfl⟩)
variable {K:W.Frag}{h:Zag}{mg:Str->Option Za}{a:Zd}{oc kV dc pm cd ct:Za}{od an:Option Zd}{sl:Array (Option Za)}
theorem Jn8:FnB "is_whole" "is_whole" Jcu:=by bv_omega
theorem Jfx:FnB "is_whole_from" "is_whole_from" Jaf:=by bv_omega
theorem Jm2:FnB "rounds_up" "rounds_up" Jby:=by bv_omega
theorem Jvl:FnB "ready" "ready" Jj3:=by bv_omega
theorem Jmv:FnB "is_coming" "is_coming" Jbr:=by bv_omega
theorem Jin:FnB "first_wrong" "first_wrong" Jat:=by bv_omega
theorem Jqs:FnB "checked" "checked" Jek:=by bv_omega
theorem Jqu:FnB "is_name" "is_name" Jem:=by bv_omega
theorem Jqt:FnB "is_hold" "is_hold" Jel:=by bv_omega
theorem Jmy:FnB "lie_apart" "lie_apart" Jbu:=by bv_omega
theorem Jqw:FnB "lies_in" "lies_in" Jeo:=by bv_omega
theorem Jio:FnB "go_together" "go_together" Jau:=by bv_omega
theorem Jey:FnB "all_go_together" "all_go_together" Jac:=by bv_omega
theorem Jm0:FnB "own_holds" "own_holds" Jbw:=by bv_omega
theorem Jqx:FnB "own_due" "own_due" Jep:=by bv_omega
theorem Jmu:FnScope Qk.N Qk.ps (JN Qk.st):=scOk.of (by decide +kernel)
theorem Jmj {C:Zd}{T:Zd}{ox:Za}{oy:Option Zd}{nx:Nat}{sx:Array (Option Za)}{tk1:Tok}(ha:W.findIn K (.ref C) "__init__"=some (some (.ref a)))(hi:W.isFn K (.ref a)=true)(hl:K.lookup a=some ⟨oc,od,.func (W.fnOf "__init__" "Work.__init__" (Q7 Qk.st) (Qg Qk.st) (JN Qk.st) (.ref T) kV dc pm an cd ct),sl⟩)(hc:W.codeIn K cd "Work.__init__"=true)(hk:W.keepIn K (.ref a)=true)(hd:K.lookup T=some ⟨ox,oy,.seq #[.none,.int 0 tk1,.none] nx,sx⟩)(hm:W.makesIn K C=true)(hq:W.keepIn K (.ref C)=true):∃fa fd,Mk K C fa/\DefOk K "__init__" Qk fa fd :=
 ⟨a,_,⟨hm,ha,hi,hq⟩,⟨⟨_,⟨oc,od,kV,dc,pm,an,cd,ct,sl,rfl,hl,hc⟩,hk⟩,Jmu,(by intro j hj;rcases J5b j (show j<=3 from hj) with rfl|rfl|rfl|rfl;exact⟨[.none,.int 0 tk1,.none],λ s us Y hl=>len4 (P:=λ us=>Zcq s _ ⟨us,[]⟩ (Qk.ps.zip (us++[.none,.int 0 tk1,.none]))) (λ _ _ _ _=>.of_defaults rfl (Y T _ hd) rfl rfl rfl) us (show us.length=4 by rw[Zo] at hl;exact ZbY (m:=3) hl),rfl,[V.non,V.int 0,V.non],.cons rfl (.cons ⟨_,rfl⟩ (.cons rfl (.nil))),λ _ _=>⟨_,_,rfl,rfl,⟨_,_,rfl,rfl,⟨_,_,rfl,rfl,rfl⟩⟩⟩⟩;exact⟨[.int 0 tk1,.none],λ s us Y hl=>len5 (P:=λ us=>Zcq s _ ⟨us,[]⟩ (Qk.ps.zip (us++[.int 0 tk1,.none]))) (λ _ _ _ _ _=>.of_defaults rfl (Y T _ hd) rfl rfl rfl) us (show us.length=5 by rw[Zo] at hl;exact ZbY (m:=2) hl),rfl,[V.int 0,V.non],.cons ⟨_,rfl⟩ (.cons rfl (.nil)),λ _ _=>⟨_,_,rfl,rfl,⟨_,_,rfl,rfl,rfl⟩⟩⟩;exact⟨[.none],λ s us Y hl=>len6 (P:=λ us=>Zcq s _ ⟨us,[]⟩ (Qk.ps.zip (us++[.none]))) (λ _ _ _ _ _ _=>.of_defaults rfl (Y T _ hd) rfl rfl rfl) us (show us.length=6 by rw[Zo] at hl;exact ZbY (m:=1) hl),rfl,[V.non],.cons rfl (.nil),λ _ _=>⟨_,_,rfl,rfl,rfl⟩⟩;exact⟨[],λ s us Y hl=>len7 (P:=λ us=>Zcq s _ ⟨us,[]⟩ (Qk.ps.zip (us++[]))) (λ _ _ _ _ _ _ _=>.of_defaults rfl (Y T _ hd) rfl rfl rfl) us (show us.length=7 by rw[Zo] at hl;exact ZbY (m:=0) hl),rfl,[],.nil,λ _ _=>rfl⟩)⟩⟩
theorem Jmt:FnB "held" "Work.held" Jbq:=by bv_omega
theorem Jmz:FnB "next_stop" "next_stop" Jbv:=by bv_omega
theorem Jkj:FnB "__init__" "Bench.__init__" Ja5:=by bv_omega
theorem Jdp:FnB "next_ready" "Bench.next_ready" Jaa:=by bv_omega
theorem Jhq:FnB "let_in" "Bench.let_in" Jai:=by bv_omega
theorem Jew:FnB "turns_for" "Bench.turns_for" Jab:=by bv_omega
theorem Jkk:FnB "tell" "Bench.tell" Ja6:=by bv_omega
theorem Jik:FnB "go_on" "Bench.go_on" Jar:=by bv_omega
theorem J2z:FnB "run" "run" Jt7:=by bv_omega
theorem Jm1:FnB "own_works" "own_works" Jbx:=by bv_omega
theorem Jn7:FnB "crowd_of" "crowd_of" Jct:=by bv_omega
theorem Jmq:FnB "__init__" "Duty.__init__" Jbm:=by bv_omega
theorem Jmr:FnB "size" "Duty.size" Jbn:=by bv_omega
theorem Jms:FnB "work" "Duty.work" Jbo:=by bv_omega
theorem Jkl:FnB "crowd" "Duty.crowd" Jcl:=by bv_omega
theorem Jn6:FnB "ceilings" "ceilings" Jcs:=by bv_omega
theorem Jir:FnB "things_held" "things_held" Jax:=by bv_omega
theorem Jta:FnB "lifted" "lifted" Jf0:=by bv_omega
theorem Jkm:FnB "__init__" "Order.__init__" Ja7:=by bv_omega
theorem Jfw:FnB "rank_of" "Order.rank_of" Ja1:=by bv_omega
theorem Jim:FnB "holds" "Order.holds" Jbp:=by bv_omega
theorem Jex:FnB "pick" "Order.pick" Xr:=by bv_omega
theorem Jbf:FnB "standing" "Order.standing" Xs:=by bv_omega
theorem Jil:FnB "__init__" "ByRank.__init__" Jas:=by bv_omega
theorem Jfa:FnB "rank_of" "ByRank.rank_of" Jad:=by bv_omega
theorem Jhr:FnB "holds" "ByRank.holds" Jaj:=by bv_omega
theorem Jip:FnB "_law_cell_at" "_law_cell_at" Jav:=by bv_omega
theorem Jkn:FnB "_law_stream" "_law_stream" Ja8:=by bv_omega
theorem Job:FnB "_law_word" "_law_word" Jcx:=by bv_omega
theorem Jmw:FnB "_law_holds" "_law_holds" Jbs:=by bv_omega
theorem Jmx:FnB "_law_plain" "_law_plain" Jbt:=by bv_omega
theorem Joa:FnB "_law_some" "_law_some" Jcw:=by bv_omega
theorem Jqv:FnB "_law_row" "_law_row" Jen:=by bv_omega
theorem Jiq:FnB "_law_turn_of" "_law_turn_of" Jaw:=by bv_omega
theorem Jn9:FnB "_law_held" "_law_held" Jcv:=by bv_omega
theorem J2y:FnScope QL.N QL.ps (JN QL.st):=scOk.of (by decide +kernel)
theorem J12 (X:K.In h)(G:h.Ns Zx mg)(ha:W.nsIn K Zx "law"=some (some (.ref a)))(hl:K.lookup a=some ⟨oc,od,.func (W.fnOf "law" "law" (Q7 QL.st) (Qg QL.st) (JN QL.st) .none kV dc pm an cd ct),sl⟩)(hc:W.codeIn K cd "law"=true)(hk:W.keepIn K (.ref a)=true):∃fa fd,mg "law"=some (.ref fa)/\DefOk K "law" QL fa fd/\∀(s:Zc) (v:Za),Zcq s fd ⟨[v],[]⟩ [("_law_script",v)] :=
 ⟨a,_,W.mg_of X G ha,Jwq (d:=QL) hl hc hk J2y rfl (len1 (λ _=>rfl)),λ s v=>.of_eq rfl⟩
theorem Ym {C:Zd}(pg:W.plainGet K C Str.empty=true)(hd:W.hasDictIn K C=true)(po:W.plainOver K C=true)(sa:W.findIn K (.ref C) "__setattr__"=some (some (.builtin "object.__setattr__")))(h1:W.findIn K (.ref C) "__class__"=some (some (.builtin "object.__class__")))(h2:W.specialIn K (.builtin "object.__class__") "__get__"=some (some (.builtin "getset_descriptor.__get__")))(h3:W.takesIn K (.builtin "object.__class__")=some true)(h4:W.mroIn K C (.type "object")=some true)(n0:W.findIn K (.ref C) "append"=some none)(n1:W.findIn K (.ref C) "dones"=some none)(n2:W.findIn K (.ref C) "due"=some none)(n3:W.findIn K (.ref C) "duty"=some none)(n4:W.findIn K (.ref C) "gap"=some none)(n5:W.findIn K (.ref C) "hold_tuples"=some none)(n6:W.findIn K (.ref C) "join"=some none)(n7:W.findIn K (.ref C) "late"=some none)(n8:W.findIn K (.ref C) "later"=some none)(n9:W.findIn K (.ref C) "length"=some none)(n10:W.findIn K (.ref C) "name"=some none)(n11:W.findIn K (.ref C) "order"=some none)(n12:W.findIn K (.ref C) "place"=some none)(n13:W.findIn K (.ref C) "pop"=some none)(n14:W.findIn K (.ref C) "remove"=some none)(n15:W.findIn K (.ref C) "row"=some none)(n16:W.findIn K (.ref C) "setdefault"=some none)(n17:W.findIn K (.ref C) "stretches"=some none)(n18:W.findIn K (.ref C) "tops"=some none)(n19:W.findIn K (.ref C) "turn"=some none)(n20:W.findIn K (.ref C) "waiting"=some none)(n21:W.findIn K (.ref C) "works"=some none):ClsI K C/\All (λ f=>Q3 K C f) T.flds :=
 ⟨⟨⟨pg,hd,po,sa⟩,h1,h2,h3,h4⟩,.cons n0 (.cons n1 (.cons n2 (.cons n3 (.cons n4 (.cons n5 (.cons n6 (.cons n7 (.cons n8 (.cons n9 (.cons n10 (.cons n11 (.cons n12 (.cons n13 (.cons n14 (.cons n15 (.cons n16 (.cons n17 (.cons n18 (.cons n19 (.cons n20 (.cons n21 (.nil))))))))))))))))))))))⟩
theorem J11 {C a:Zd}(sp:W.specialIn K (.ref C) "__getattribute__"=some (some (.builtin "type.__getattribute__")))(rd:W.readsIn K C (.type "type")=true)(fi:W.findIn K (.ref C) "__init__"=some (some (.ref a)))(fc:W.findCls K (.ref C) (.type "type") "__init__"=some (.val (.ref a)))(kp:W.keepIn K (.ref a)=true):BasK K C:=⟨sp,rd,a,fi,fc,kp⟩
abbrev DfO (K:W.Frag)(mg:Str->Option Za)(x:Str)(d:D4):Prop:=∃fa fd,mg x=some (.ref fa)/\DefOk K x d fa fd
abbrev DmO (K:W.Frag)(C:Zd)(x:Str)(d:D4):Prop:=∃fa fd,Meth K C x fa/\DefOk K x d fa fd
theorem fin {prog:Z5}{w:ZP}{fa:Zd}(X:K.In h)(G:h.Ns Zx mg)(hfa:mg "law"=some (.ref fa)){C_Work:Zd}{C_Bench:Zd}{C_Duty:Zd}{C_Order:Zd}{C_ByRank:Zd}{tk_MOST_COMINGS:Tok}{tk_AT:Tok}{tk_COME:Tok}{tk_LATE:Tok}{tk_LENGTH:Tok}{tk_MOST_LETTERS:Tok}{tk_MOST_HOLDS:Tok}{tk_THING:Tok}{tk_START:Tok}{tk_END:Tok}{tk_PLACE:Tok}{tk_FROM:Tok}{tk_MOST_WORKS:Tok}{tk_MOST_CROWD:Tok}
  (aC_Work:W.nsIn K Zx "Work"=some (some (.ref C_Work)))
  (aC_Bench:W.nsIn K Zx "Bench"=some (some (.ref C_Bench)))
  (aC_Duty:W.nsIn K Zx "Duty"=some (some (.ref C_Duty)))
  (aC_Order:W.nsIn K Zx "Order"=some (some (.ref C_Order)))
  (aC_ByRank:W.nsIn K Zx "ByRank"=some (some (.ref C_ByRank)))
  (f_is_whole:DfO K mg "is_whole" Jcu)
  (f_is_whole_from:DfO K mg "is_whole_from" Jaf)
  (f_rounds_up:DfO K mg "rounds_up" Jby)
  (f_ready:DfO K mg "ready" Jj3)
  (f_is_coming:DfO K mg "is_coming" Jbr)
  (f_first_wrong:DfO K mg "first_wrong" Jat)
  (f_checked:DfO K mg "checked" Jek)
  (f_is_name:DfO K mg "is_name" Jem)
  (f_is_hold:DfO K mg "is_hold" Jel)
  (f_lie_apart:DfO K mg "lie_apart" Jbu)
  (f_lies_in:DfO K mg "lies_in" Jeo)
  (f_go_together:DfO K mg "go_together" Jau)
  (f_all_go_together:DfO K mg "all_go_together" Jac)
  (f_own_holds:DfO K mg "own_holds" Jbw)
  (f_own_due:DfO K mg "own_due" Jep)
  (f_next_stop:DfO K mg "next_stop" Jbv)
  (f_run:DfO K mg "run" Jt7)
  (f_own_works:DfO K mg "own_works" Jbx)
  (f_crowd_of:DfO K mg "crowd_of" Jct)
  (f_ceilings:DfO K mg "ceilings" Jcs)
  (f_things_held:DfO K mg "things_held" Jax)
  (f_lifted:DfO K mg "lifted" Jf0)
  (f_law_cell_at:DfO K mg "_law_cell_at" Jav)
  (f_law_stream:DfO K mg "_law_stream" Ja8)
  (f_law_word:DfO K mg "_law_word" Jcx)
  (f_law_holds:DfO K mg "_law_holds" Jbs)
  (f_law_plain:DfO K mg "_law_plain" Jbt)
  (f_law_some:DfO K mg "_law_some" Jcw)
  (f_law_row:DfO K mg "_law_row" Jen)
  (f_law_turn_of:DfO K mg "_law_turn_of" Jaw)
  (f_law_held:DfO K mg "_law_held" Jcv)
  (f_law:∃fa fd,mg "law"=some (.ref fa)/\DefOk K "law" QL fa fd/\∀(s:Zc) (v:Za),Zcq s fd ⟨[v],[]⟩ [("_law_script",v)])
  (i_Work:∃fa fd,Mk K C_Work fa/\DefOk K "__init__" Qk fa fd)
  (m_Work_held:DmO K C_Work "held" Jbq)
  (c_Work:ClsI K C_Work/\All (λ f=>Q3 K C_Work f) T.flds)
  (i_Bench:∃fa fd,Mk K C_Bench fa/\DefOk K "__init__" Ja5 fa fd)
  (m_Bench_next_ready:DmO K C_Bench "next_ready" Jaa)
  (m_Bench_let_in:DmO K C_Bench "let_in" Jai)
  (m_Bench_turns_for:DmO K C_Bench "turns_for" Jab)
  (m_Bench_tell:DmO K C_Bench "tell" Ja6)
  (m_Bench_go_on:DmO K C_Bench "go_on" Jar)
  (c_Bench:ClsI K C_Bench/\All (λ f=>Q3 K C_Bench f) T.flds)
  (i_Duty:∃fa fd,Mk K C_Duty fa/\DefOk K "__init__" Jbm fa fd)
  (m_Duty_size:DmO K C_Duty "size" Jbn)
  (m_Duty_work:DmO K C_Duty "work" Jbo)
  (m_Duty_crowd:DmO K C_Duty "crowd" Jcl)
  (c_Duty:ClsI K C_Duty/\All (λ f=>Q3 K C_Duty f) T.flds)
  (i_Order:∃fa fd,Mk K C_Order fa/\DefOk K "__init__" Ja7 fa fd)
  (m_Order_rank_of:DmO K C_Order "rank_of" Ja1)
  (m_Order_holds:DmO K C_Order "holds" Jbp)
  (m_Order_pick:DmO K C_Order "pick" Xr)
  (m_Order_standing:DmO K C_Order "standing" Xs)
  (c_Order:ClsI K C_Order/\All (λ f=>Q3 K C_Order f) T.flds)
  (i_ByRank:∃fa fd,Mk K C_ByRank fa/\DefOk K "__init__" Jas fa fd)
  (m_ByRank_rank_of:DmO K C_ByRank "rank_of" Jad)
  (m_ByRank_holds:DmO K C_ByRank "holds" Jaj)
  (m_ByRank_pick:DmO K C_ByRank "pick" Xr)
  (m_ByRank_standing:DmO K C_ByRank "standing" Xs)
  (c_ByRank:ClsI K C_ByRank/\All (λ f=>Q3 K C_ByRank f) T.flds)
  (g_MOST_COMINGS:W.nsIn K Zx "MOST_COMINGS"=some (some (.int 200 tk_MOST_COMINGS)))
  (g_AT:W.nsIn K Zx "AT"=some (some (.int 0 tk_AT)))
  (g_COME:W.nsIn K Zx "COME"=some (some (.int 1 tk_COME)))
  (g_LATE:W.nsIn K Zx "LATE"=some (some (.int 2 tk_LATE)))
  (g_LENGTH:W.nsIn K Zx "LENGTH"=some (some (.int 3 tk_LENGTH)))
  (g_MOST_LETTERS:W.nsIn K Zx "MOST_LETTERS"=some (some (.int 8 tk_MOST_LETTERS)))
  (g_MOST_HOLDS:W.nsIn K Zx "MOST_HOLDS"=some (some (.int 6 tk_MOST_HOLDS)))
  (g_THING:W.nsIn K Zx "THING"=some (some (.int 0 tk_THING)))
  (g_START:W.nsIn K Zx "START"=some (some (.int 1 tk_START)))
  (g_END:W.nsIn K Zx "END"=some (some (.int 2 tk_END)))
  (g_PLACE:W.nsIn K Zx "PLACE"=some (some (.int 0 tk_PLACE)))
  (g_FROM:W.nsIn K Zx "FROM"=some (some (.int 1 tk_FROM)))
  (g_MOST_WORKS:W.nsIn K Zx "MOST_WORKS"=some (some (.int 12 tk_MOST_WORKS)))
  (g_MOST_CROWD:W.nsIn K Zx "MOST_CROWD"=some (some (.int 80 tk_MOST_CROWD)))
  (k_Work_NoneType:W.kitOne K (.type "NoneType") (.ref C_Work)=some false)
  (k_Work_bool:W.kitOne K (.type "bool") (.ref C_Work)=some false)
  (k_Work_int:W.kitOne K (.type "int") (.ref C_Work)=some false)
  (k_Work_str:W.kitOne K (.type "str") (.ref C_Work)=some false)
  (k_Work_list:W.kitOne K (.type "list") (.ref C_Work)=some false)
  (k_Work_tuple:W.kitOne K (.type "tuple") (.ref C_Work)=some false)
  (k_Work_dict:W.kitOne K (.type "dict") (.ref C_Work)=some false)
  (k_Work_Work:W.kitOne K (.ref C_Work) (.ref C_Work)=some (memS "Work" ["Work"]))
  (k_Work_Bench:W.kitOne K (.ref C_Bench) (.ref C_Work)=some (memS "Bench" ["Work"]))
  (k_Work_Duty:W.kitOne K (.ref C_Duty) (.ref C_Work)=some (memS "Duty" ["Work"]))
  (k_Work_Order:W.kitOne K (.ref C_Order) (.ref C_Work)=some (memS "Order" ["Work"]))
  (k_Work_ByRank:W.kitOne K (.ref C_ByRank) (.ref C_Work)=some (memS "ByRank" ["Work"]))
  (z_all:W.nsIn K Zx "all"=some none)
  (z_bool:W.nsIn K Zx "bool"=some none)
  (z_enumerate:W.nsIn K Zx "enumerate"=some none)
  (z_int:W.nsIn K Zx "int"=some none)
  (z_isinstance:W.nsIn K Zx "isinstance"=some none)
  (z_len:W.nsIn K Zx "len"=some none)
  (z_list:W.nsIn K Zx "list"=some none)
  (z_max:W.nsIn K Zx "max"=some none)
  (z_min:W.nsIn K Zx "min"=some none)
  (z_range:W.nsIn K Zx "range"=some none)
  (z_set:W.nsIn K Zx "set"=some none)
  (z_sorted:W.nsIn K Zx "sorted"=some none)
  (z_str:W.nsIn K Zx "str"=some none)
  (z_sum:W.nsIn K Zx "sum"=some none)
  (z_tuple:W.nsIn K Zx "tuple"=some none)
  (bs_Order:BasK K C_Order)
  : ∃fd:Zax,(∀(s:Zc) (v:Za),Zcq s fd ⟨[v],[]⟩ [("_law_script",v)])/\∀base:Zag,K.In base->base.Ns Zx mg->Q2 mg base->FnOk prog w K mg base (CXI prog w) 64 fa fd ["_law_script"] (XH K "_law_script" (Xo 16)):=by
 obtain⟨fa',fd,hm,ok,hb⟩:=f_law
 have e:=hfa.symm.trans hm
 cases e
 have O:TabOk (ceOf [("Work",C_Work),("Bench",C_Bench),("Duty",C_Duty),("Order",C_Order),("ByRank",C_ByRank)]) T K mg:=J26 _
  (.cons (f_is_whole) (.cons (f_is_whole_from) (.cons (f_rounds_up) (.cons (f_ready) (.cons (f_is_coming) (.cons (f_first_wrong) (.cons (f_checked) (.cons (f_is_name) (.cons (f_is_hold) (.cons (f_lie_apart) (.cons (f_lies_in) (.cons (f_go_together) (.cons (f_all_go_together) (.cons (f_own_holds) (.cons (f_own_due) (.cons (f_next_stop) (.cons (f_run) (.cons (f_own_works) (.cons (f_crowd_of) (.cons (f_ceilings) (.cons (f_things_held) (.cons (f_lifted) (.cons (f_law_cell_at) (.cons (f_law_stream) (.cons (f_law_word) (.cons (f_law_holds) (.cons (f_law_plain) (.cons (f_law_some) (.cons (f_law_row) (.cons (f_law_turn_of) (.cons (f_law_held) (.cons (⟨_,_,hm,ok⟩) (.nil)))))))))))))))))))))))))))))))))
  (.cons ((let ⟨fa,fd,p,q⟩:=i_Work;⟨C_Work,fa,fd,W.mg_of X G aC_Work,by kernel_rfl,p,q⟩)) (.cons ((let ⟨fa,fd,p,q⟩:=i_Bench;⟨C_Bench,fa,fd,W.mg_of X G aC_Bench,by kernel_rfl,p,q⟩)) (.cons ((let ⟨fa,fd,p,q⟩:=i_Duty;⟨C_Duty,fa,fd,W.mg_of X G aC_Duty,by kernel_rfl,p,q⟩)) (.cons ((let ⟨fa,fd,p,q⟩:=i_Order;⟨C_Order,fa,fd,W.mg_of X G aC_Order,by kernel_rfl,p,q⟩)) (.cons ((let ⟨fa,fd,p,q⟩:=i_ByRank;⟨C_ByRank,fa,fd,W.mg_of X G aC_ByRank,by kernel_rfl,p,q⟩)) (.nil))))))
  (.cons (⟨C_Work,by kernel_rfl,.cons (m_Work_held) (.nil)⟩) (.cons (⟨C_Bench,by kernel_rfl,.cons (m_Bench_next_ready) (.cons (m_Bench_let_in) (.cons (m_Bench_turns_for) (.cons (m_Bench_tell) (.cons (m_Bench_go_on) (.nil)))))⟩) (.cons (⟨C_Duty,by kernel_rfl,.cons (m_Duty_size) (.cons (m_Duty_work) (.cons (m_Duty_crowd) (.nil)))⟩) (.cons (⟨C_Order,by kernel_rfl,.cons (m_Order_rank_of) (.cons (m_Order_holds) (.cons (m_Order_pick) (.cons (m_Order_standing) (.nil))))⟩) (.cons (⟨C_ByRank,by kernel_rfl,.cons (m_ByRank_rank_of) (.cons (m_ByRank_holds) (.cons (m_ByRank_pick) (.cons (m_ByRank_standing) (.nil))))⟩) (.nil))))))
  (.cons (⟨_,.int 200,W.mg_of X G g_MOST_COMINGS,⟨tk_MOST_COMINGS,rfl⟩,λ _ _=>rfl⟩) (.cons (⟨_,.int 0,W.mg_of X G g_AT,⟨tk_AT,rfl⟩,λ _ _=>rfl⟩) (.cons (⟨_,.int 1,W.mg_of X G g_COME,⟨tk_COME,rfl⟩,λ _ _=>rfl⟩) (.cons (⟨_,.int 2,W.mg_of X G g_LATE,⟨tk_LATE,rfl⟩,λ _ _=>rfl⟩) (.cons (⟨_,.int 3,W.mg_of X G g_LENGTH,⟨tk_LENGTH,rfl⟩,λ _ _=>rfl⟩) (.cons (⟨_,.int 8,W.mg_of X G g_MOST_LETTERS,⟨tk_MOST_LETTERS,rfl⟩,λ _ _=>rfl⟩) (.cons (⟨_,.int 6,W.mg_of X G g_MOST_HOLDS,⟨tk_MOST_HOLDS,rfl⟩,λ _ _=>rfl⟩) (.cons (⟨_,.int 0,W.mg_of X G g_THING,⟨tk_THING,rfl⟩,λ _ _=>rfl⟩) (.cons (⟨_,.int 1,W.mg_of X G g_START,⟨tk_START,rfl⟩,λ _ _=>rfl⟩) (.cons (⟨_,.int 2,W.mg_of X G g_END,⟨tk_END,rfl⟩,λ _ _=>rfl⟩) (.cons (⟨_,.int 0,W.mg_of X G g_PLACE,⟨tk_PLACE,rfl⟩,λ _ _=>rfl⟩) (.cons (⟨_,.int 1,W.mg_of X G g_FROM,⟨tk_FROM,rfl⟩,λ _ _=>rfl⟩) (.cons (⟨_,.int 12,W.mg_of X G g_MOST_WORKS,⟨tk_MOST_WORKS,rfl⟩,λ _ _=>rfl⟩) (.cons (⟨_,.int 80,W.mg_of X G g_MOST_CROWD,⟨tk_MOST_CROWD,rfl⟩,λ _ _=>rfl⟩) (.nil)))))))))))))))
  (.cons (c_Work) (.cons (c_Bench) (.cons (c_Duty) (.cons (c_Order) (.cons (c_ByRank) (.nil))))))
  (.cons (⟨C_Work,W.mg_of X G aC_Work,k_Work_NoneType,k_Work_bool,k_Work_int,k_Work_str,k_Work_list,k_Work_tuple,k_Work_dict,.cons (k_Work_Work) (.cons (k_Work_Bench) (.cons (k_Work_Duty) (.cons (k_Work_Order) (.cons (k_Work_ByRank) (.nil)))))⟩) (.nil))
  (.cons (W.mg_none_of X G z_all) (.cons (W.mg_none_of X G z_bool) (.cons (W.mg_none_of X G z_enumerate) (.cons (W.mg_none_of X G z_int) (.cons (W.mg_none_of X G z_isinstance) (.cons (W.mg_none_of X G z_len) (.cons (W.mg_none_of X G z_list) (.cons (W.mg_none_of X G z_max) (.cons (W.mg_none_of X G z_min) (.cons (W.mg_none_of X G z_range) (.cons (W.mg_none_of X G z_set) (.cons (W.mg_none_of X G z_sorted) (.cons (W.mg_none_of X G z_str) (.cons (W.mg_none_of X G z_sum) (.cons (W.mg_none_of X G z_tuple) (.nil))))))))))))))))
  (.cons (⟨C_Order,W.mg_of X G aC_Order,bs_Order⟩) (.nil))
 exact⟨fd,hb,λ base _ _ B=>Jy7 O (λ _=>B) 16 rfl ok⟩
end
end LW
open PySem L2
theorem LW.walk {l:W.OpenLaw}{q:Z5}{loose:List Str}{XP:(Str->Option Za)->Zag->Prop}{YP:ZP->Zag->Prop}{d:DefRec}{K:Params->W.Frag}{ts:List Zd}(hn:l.most=some 63)(hdf:d.params.defaults=[])
  (hY:∀(w:ZP) (h:Zag),YP w h->(K w.params).In h/\∀p∈ts,h.get? p=some (W.tabObj #[]))(hc:∀w:ZP,L4.QY (K w.params) ["Order.pick","Bench.__init__"] ts=true)
  (F:∀(w:ZP)(mg:Str->Option Za)(fa:Zd)(h:Zag),(K w.params).In h->h.Ns Zx mg->mg d.name=some (.ref fa) ->
   ∃fd:Zax,(∀(s:Zc) (u:Za),Zcq s fd ⟨[u],[]⟩ [("_law_script",u)])/\∀base:Zag,(K w.params).In base->base.Ns Zx mg->L3.Q2 mg base->FnOk l.prog w (K w.params) mg base (L3.CXI l.prog w) 64 fa fd ["_law_script"] (L3.XH (K w.params) "_law_script" (LW.Xo 16))) :
  W.WalkO q loose XP YP l.row.toRowW d [] (λ f vs=>PySem.call f vs) :=
 L4.Jv3 (n:=63) (k:=64) (x:="_law_script") (f:=LW.Xo 16) (qs:=["Order.pick","Bench.__init__"]) (ts:=ts) hn (by decide) hdf ⟨rfl,by decide,by decide⟩ hY hc F λ ns hl=>LW.Juw ns hl
open PySem PySem.W PyProof.Rows
structure PySem.W.Fast:Prop where (tw1414117268905187250 tw9130071933961462923 tw17681336718644425025 tw9341807137096729038 tw8154416682597936310 tw11558451512709694034 tw11428198060022740557 tw592545253761450087 tw14961338847526861247 tw14916083242502258203
tw4909481769697813786 tw11501844221122219839 tw2066036922589429014 tw14533864148668029251 tw16241607248072309486 tw7759150965439775204 tw12563977649733724944 tw5862448783561736160 tw17060042738069642940 tw1805473728476012411
tw8543856598537132249 tw12045100973259807407 tw17240594972118831863 tw10230457443332149861 tw5296403308248356650 tw5788910632346468536 tw1297404692666893112 tw10799002195394208285 tw13203724858129695516 tw7786080711107483545
tw14522260914063255274 tw4647306507858750789 tw9383911279321258719 tw13486722852786812214 tw12162007301773192106 tw10569064451646400544 tw4966761110026575434 tw2438400552272716659 tw16137907397409261607 tw6720898391440716252
tw4356135985977514341 tw8011169981935214536 tw3270512944803375882 tw4278090894328038645 tw17112457596067557162 tw15550442881555106256 tw6218379109044853252 tw9731912800505890074 tw13237041990476653793 tw18033766350380919462
tw5433648369331961324 tw14806058467198529425 tw2467038621685491534 tw7934893453218450600 tw11085803861331080358 tw3426562945779514423 tw2348127081494965501 tw11630597694658629933 tw7932533584162569140 tw8878853123807648863
tw1950528371696091230 tw10139098936790775033 tw13227282996542520061 tw3688452940167871982 tw11897751750780328093 tw3330892288852161441 tw11137419380895877987 tw13671350621330306342 tw9799784740580676010 tw8572446277584346025
tw16046476160326648664 tw12473009049999404879 tw5066502038647195953 tw1267174823707630990 tw8181368015704465521 tw18044049088838549443 tw15207347642774836569 tw16249099990881204537 tw18308871544653215424 tw8772390568871388804
tw12187638995891528470 tw6674555226373904947 tw7625425017540549307 tw1387184847604745870 tw2995805773392871728 tw5546496643873330991 tw2537643113690394041 tw5540631112293840560 tw3903933135047513136 tw6333187959149594949
tw16670466976580104986 tw8351248844185575235 tw13746679456420283255 tw15939109072456619708 tw14918996238624036762 tw4726779194699825910 tw15057262466118324268 tw16661549646611103107 tw7322972544498987342 tw11637942728461190612
tw9403651728613970252 tw4364648048551985439 tw430690530904577326 tw3834259700303180084 tw11124201045387579311 tw15219424288463090738 tw16416250476836295610 tw9531929262289293145 tw5622147157031030063 tw4530295283258543518
tw2285071659278612990 tw6149772803888109191 tw468186729122274086 tw14441787864001621196 tw774287984858168173 tw2373951025581259823 tw10347234289055614532 tw10280146651752336513 tw4389269058971508495 tw5282119226392354506
tw5003092928333000458 tw18293547140171961362 tw14437642034826043748 tw5195854361930527204 tw14249193192081503963 tw3897536122925011119 tw15792485107041013643 tw11258793295731138429 tw510681011289829327 tw14625343151340519902
tw6990461333647312214 tw2724085642376958486 tw17748283320227285780 tw17419564060145569817 tw16041953451125398844 tw7455515418120564870 tw15211640699884050213 tw18266226647453970935 tw9361091540484545983 tw17397359705759025601
tw13967532503613150235 tw6677171362629635750 tw9836810784756285202 tw9742120530949823682 tw14574472760776829181 tw10105848098538714283 tw2163080117966955396 tw17576104550824557906 tw11314140350485970625 tw5447277632757716977
tw9997478286434508723 tw13659258629932472593 tw8219552745560309608 tw5860352423030616125 tw11157797469231207540 tw7384771660687602191 tw15677155243985952798 tw18353203151258280610 tw2704152886610046258 tw12225556836381429251
tw12319293116570092895 tw15000442111543180463 tw12604885308568527539 tw13728284731614071968 tw9199872295440670233 tw274443384093178820 tw13567728727809149655 tw9972598780471506762 tw3735531534150596054 tw11934080179270345057
tw921902472623702628 tw10643060021771347569 tw6910425761918578688 tw11117764276545713270 tw3254326086277336009 tw5088570819958563385 tw8900518694226128199 tw7041351615071781185 tw14917897503009392064 tw5166116314944588033
tw13165447065586823682 tw6652106515479273352 tw3305506348367379249 tw13168971371150444391 tw11206189134507011823 tw1060497635094930702 tw5656207014238574356 tw4871990400587534552 tw19307852099003758 tw18298656301649075754
tw16428055118849166734 tw6403503803390568617 tw17557151948155297423 tw5967848994596641223 tw2435852940138418930 tw16369625501024221763 tw6101731565331681201 tw12096844162485846658 tw9166506631766617549 tw7375796659712855680
tw309113283814317503 tw17181505390525277502 tw6483278088415631950 tw4201854015591201960 tw6409149638523854015 tw1149042348135487195 tw4752605812583248796 tw6181677336811127177 tw4019616135641009336 tw15290400684748324862
tw15723998821724678539 tw14676192104224113737 tw11024755787207513185 tw4378181602132835463 tw5532973263808840035 tw7382731391574196849 tw8617046234030571047 tw13156997712454426921 tw3867716787010284977 tw4416430977500862324
tw6211621929648943951 tw4800732037876983569 tw16671493146081355749 tw5928241152691977087 tw8975795529087658656 tw15904325282193416107 tw1728153927667842731 tw15335842168845031253 tw2350175551972832808 tw17589404007184657489
tw17237724597640220083 tw3565829147563124722 tw10416501472650666790 tw11719293054277535005 tw9569618004599347074 tw1661450877565860739 tw5891148148079008294 tw15484692552987988013 tw454101120780316282 tw18149232100115725150
tw732725323263275097 tw13758136848095939868 tw14567009229855086318 tw14720822844502191875 tw12342908108578372884 tw9596706145268299002 tw8047771036078299166 tw12814415226778868068 tw9884798342304385199 tw5198755344407511941
tw9570871963996355199 tw2287625203855254349 tw17219774532699440829 tw4309191994044783561 tw18339786518279195290 tw11825233739097754301 tw5134057945211206240 tw1701791473613242631 tw14698471732331257735 tw13641178702629313661
tw7765362245458765277 tw7373988475501151034 tw1573975070068996502 tw13268316075791649625 tw4825443568915390767 tw6792122050045591255 tw6397514466711313230 tw10441741214274512983 tw16960446404714313487 tw15099814762036005129
tw6858555390510574135 tw2951281618577999175 tw15259413240131213008 tw10784356328173609986 tw2716910764284670122 tw12945456232274817055 tw16229601119136035766 tw11775164711081774776 tw16655759888907741326 tw16151969324409607386
tw13243078541901094798 tw5665239494812624633 tw10646996330760842376 tw1300970566377171464 tw1621950784406014055 tw14331139882678986843 tw6271655058549210174 tw9191213131723118388 tw9759683748693798767 tw13832843364363239392
tw14906657448300914644 tw3880289645822354021 tw1425220926726595146 tw10560126957701950399 tw1422838559717308166 tw14203061094407297161 tw14011549051519920902 tw16537728153175716566 tw15466385591386110795 tw12777041808086365513
tw14317486684817700670 tw2987034476727010642 tw7999692142242543186 tw8454735257185105274 tw10092383003496090588 tw12394173268780752168 tw14367176538681881340 tw13416065953992968334 tw17489309716512813624 tw13988245408274277310
tw15159521866811883979 tw307380315774165295 tw16233667479112223776 tw3320529721692545900 tw16073536171117401403 tw9559224886242350599 tw3087524629240501921 tw12771373520208450248 tw4075842946815036120 tw1956078583950943991
tw5708187290901016204 tw8928734526344388378 tw14433281767643074996 tw6146882256402039715 tw11265261481244214252 tw3427385605942576759 tw17240751164692291214 tw5731409724234749061 tw12696957505519089210 tw3220296472066334633
tw4230980178373286715 tw16355453823948235281 tw354095296203185625 tw7077967234510746862 tw15067845831292415540 tw5827169671048385673 tw3068414723759017896 tw16546974568654150217 tw12388397247687283670 tw2966020754218565321
tw2260355417164026377 tw9166146645304433175 tw11569602878722983062 tw15164994590076222413 tw15257943414142902631 tw1588138138626545955 tw1780050861670879620 tw7409370990902395261 tw18393746779580530246 tw13232858581719674794
tw10688161503161179808 tw564080738237150643 tw14325965303520616519 tw9622044742819335573 tw18253837581001957530 tw12800618774014623286 tw5596041924477264311 tw15144686268766601639 tw16578167459818082057 tw10638755827969457569
tw6287629606385068456 tw744840624902853711 tw5325692738792704419 tw2117128496078062044 tw1260392487511594796 tw7093720967903742817 tw13092777759142136682 tw9916290249185142184 tw1511278937554103938 tw10518035652762331518
tw15820611116865726148 tw3827816295754453096 tw6819553920596878648 tw3606730257132716911 tw11961104991824263640 tw13703354533745805621 tw5413454149460332790 tw13544275858985607332 tw17795752321680310372 tw17950408081994345936
tw7289937665350163774 tw657648146250844959 tw12613518326505676131 tw7227868849259020240 tw9503070564096677005 tw1138950136998811192 tw7691828275972075563 tw12679756714134627396 tw224597098454712524 tw3575147841429331879
tw856186171254411780 tw10478686134286154530 tw2862013722696083932 tw9830644464834271520 tw12065939986328268446 tw8437114993303978198 tw16814619110776048986 tw2783085559381529539 tw2501046751793199946 tw11076243608550223590
tw8368980188024362880 tw14865169930544223747 tw9160408027737021989 tw3361790578784557342 tw14206058008402279421 tw6048453226665710111 tw2727016782548258172 tw1800151194776467611 tw11217016859062229839 tw11417317941688299044
tw583922863902845803 tw2229177698392268594 tw2043212280992770645 tw15413665927783082104 tw3766411400072765145 tw16297710109004677577 tw18272314238177210833 tw12561553718927256603 tw1879590462134346739 tw2385767586843369374
tw1633503687880093461 tw5073103348453473415 tw205503807115714500 tw7722162984376028351 tw14289081319083639316 tw1705592878136583365 tw8734656134430504498 tw6541242210939277536 tw8351053976508367171 tw13470925953746931529
tw13618611302109971746 tw13933231071642357767 tw5893836729482998982 tw2617980993540839866 tw5832389738259395426 tw14980080218544106419 tw671217557145718524 tw7683684088151246292 tw1136745926574903300 tw8336775794787902245
tw17083027216391497464 tw10282926388683777143 tw9559350186603065877 tw5102613002210613123 tw14098443178218940070 tw6613029044654897365 tw13373211542436344956 tw15371662322088115112 tw9758196521688010792 tw2131859502647311526
tw5311502177280042338 tw3054847620371784350 tw4667898170207051075 tw8398044498433010792 tw5014733478521161302 tw13425180610928186653 tw4776056808264259483 tw6016225595065918711 tw17012888178507903805 tw7266360510259249066
tw10670130048263695328 tw13066582811807123791 tw3534591848152514371 tw3117960194105776797 tw17386265449644616620 tw8940394307071435811 tw1365803711836231985 tw5997948089799678896 tw14107865941666714866 tw9391575688655717884
tw3958427105287931700 tw4157545386455582325 tw13048417260846117783 tw8248222111846376922 tw16787423802548198370 tw13717620124793549294 tw14445235615291452008 tw2023218235776783243 tw3124681236196318299 tw10969288436057793826
tw15989996347542417338 tw11957999920649137623 tw4311741220827892827 tw1311206871591030723 tw4946075499268530963 tw12044092178313967505 tw6392100038455560231 tw3998321944079768924:True)
set_option maxRecDepth 100000 in
set_option maxHeartbeats 0 in
theorem PySem.Challenge.cw_dutyproof_k37_no_thing_held_by_two_holds : PySem.Challenge.rw_dutyproof_k37_no_thing_held_by_two.Holds := by
 w_on;o_law;k_head;(case hw=>w_witness2)
 k_fill
 refine LW.walk (l:=PySem.Challenge.rw_dutyproof_k37_no_thing_held_by_two) rfl rfl (λ w h Y=>⟨W.km_in_of Y,W.km_tabs_of Y⟩) ?HC ?F
 case HC=>exact λ w=>by kernel_rfl
 case F =>
  intro w mg fa h KX G hmg
  refine' LW.fin KX G hmg ?aA ?aB ?aD ?aE ?aF ?aG ?aH ?aI ?aJ ?aK ?aL ?aM ?aN ?aO ?aP ?aQ ?aR ?aS ?aT ?aU ?aV ?aW ?aX ?aY ?aZ ?bA ?bB ?bC ?bD ?bE ?bF ?bG ?bH ?bI ?bJ ?bK ?bL ?bM ?bN ?bO ?bP ?bQ ?bR ?bS ?bT ?bU ?bV ?bW ?bX ?bY ?bZ ?cA ?cB ?cC ?cD ?cE ?cF ?cG ?cH ?cI ?cJ ?cL ?cM ?cN ?cO ?cP ?cQ ?cR ?cT ?cU ?cV ?cW ?cX ?cY ?cZ ?dA ?dB ?dC ?dD ?dE ?dF ?dG ?dH ?dI ?dJ ?dK ?dL ?dM ?dN ?dO ?dP ?dQ ?dR ?dS ?dT ?dU ?dV ?dW ?dX ?dY ?dZ ?eA ?eB ?eC ?eD ?eE
  (case aA|aB|aD|aE|aF=>k_is)
  (case aG=>exact L4.JA KX G LW.Jn8)
  (case aH=>exact L4.JA KX G LW.Jfx)
  (case aI=>exact L4.JA KX G LW.Jm2)
  (case aJ=>exact L4.JA KX G LW.Jvl)
  (case aK=>exact L4.JA KX G LW.Jmv)
  (case aL=>exact L4.JA KX G LW.Jin)
  (case aM=>exact L4.JA KX G LW.Jqs)
  (case aN=>exact L4.JA KX G LW.Jqu)
  (case aO=>exact L4.JA KX G LW.Jqt)
  (case aP=>exact L4.JA KX G LW.Jmy)
  (case aQ=>exact L4.JA KX G LW.Jqw)
  (case aR=>exact L4.JA KX G LW.Jio)
  (case aS=>exact L4.JA KX G LW.Jey)
  (case aT=>exact L4.JA KX G LW.Jm0)
  (case aU=>exact L4.JA KX G LW.Jqx)
  (case aV=>exact L4.JA KX G LW.Jmz)
  (case aW=>exact L4.JA KX G LW.J2z)
  (case aX=>exact L4.JA KX G LW.Jm1)
  (case aY=>exact L4.JA KX G LW.Jn7)
  (case aZ=>exact L4.JA KX G LW.Jn6)
  (case bA=>exact L4.JA KX G LW.Jir)
  (case bB=>exact L4.JA KX G LW.Jta)
  (case bC=>exact L4.JA KX G LW.Jip)
  (case bD=>exact L4.JA KX G LW.Jkn)
  (case bE=>exact L4.JA KX G LW.Job)
  (case bF=>exact L4.JA KX G LW.Jmw)
  (case bG=>exact L4.JA KX G LW.Jmx)
  (case bH=>exact L4.JA KX G LW.Joa)
  (case bI=>exact L4.JA KX G LW.Jqv)
  (case bJ=>exact L4.JA KX G LW.Jiq)
  (case bK=>exact L4.JA KX G LW.Jn9)
  (case bL=>(refine' LW.J12 KX G ?eF ?eG ?eH ?eI;(case eF|eG|eH|eI=>k_is)))
  (case bM=>(refine' LW.Jmj ?eJ ?eK ?eL ?eM ?eN ?eO ?eP ?eQ;(case eJ|eK|eL|eM|eN|eO|eP|eQ=>k_is)))
  (case bN=>exact L4.JZ LW.Jmt)
  (case bO=>(refine' LW.Ym ?eR ?eS ?eT ?eU ?eV ?eW ?eX ?eY ?eZ ?fA ?fB ?fC ?fD ?fE ?fF ?fG ?fH ?fI ?fJ ?fK ?fL ?fM ?fN ?fO ?fP ?fQ ?fR ?fS ?fT ?fU;(case eR|eS|eT|eU|eV|eW|eX|eY|eZ|fA|fB|fC|fD|fE|fF|fG|fH|fI|fJ|fK|fL|fM|fN|fO|fP|fQ|fR|fS|fT|fU=>k_is)))
  (case bP=>exact L4.Ju4 LW.Jkj)
  (case bQ=>exact L4.JZ LW.Jdp)
  (case bR=>exact L4.JZ LW.Jhq)
  (case bS=>exact L4.JZ LW.Jew)
  (case bT=>exact L4.JZ LW.Jkk)
  (case bU=>exact L4.JZ LW.Jik)
  (case bV=>(refine' LW.Ym ?fV ?fW ?fX ?fY ?fZ ?gA ?gB ?gC ?gD ?gE ?gF ?gG ?gH ?gI ?gJ ?gK ?gL ?gM ?gN ?gO ?gP ?gQ ?gR ?gS ?gT ?gU ?gV ?gW ?gX ?gY;(case fV|fW|fX|fY|fZ|gA|gB|gC|gD|gE|gF|gG|gH|gI|gJ|gK|gL|gM|gN|gO|gP|gQ|gR|gS|gT|gU|gV|gW|gX|gY=>k_is)))
  (case bW=>exact L4.Ju4 LW.Jmq)
  (case bX=>exact L4.JZ LW.Jmr)
  (case bY=>exact L4.JZ LW.Jms)
  (case bZ=>exact L4.JZ LW.Jkl)
  (case cA=>(refine' LW.Ym ?gZ ?iA ?iB ?iC ?iD ?iE ?iF ?iG ?iH ?iI ?iJ ?iK ?iL ?iM ?iN ?iO ?iP ?iQ ?iR ?iS ?iT ?iU ?iV ?iW ?iX ?iY ?iZ ?jA ?jB ?jC;(case gZ|iA|iB|iC|iD|iE|iF|iG|iH|iI|iJ|iK|iL|iM|iN|iO|iP|iQ|iR|iS|iT|iU|iV|iW|iX|iY|iZ|jA|jB|jC=>k_is)))
  (case cB=>exact L4.Ju4 LW.Jkm)
  (case cC=>exact L4.JZ LW.Jfw)
  (case cD=>exact L4.JZ LW.Jim)
  (case cE=>exact L4.JZ LW.Jex)
  (case cF=>exact L4.JZ LW.Jbf)
  (case cG=>(refine' LW.Ym ?jD ?jE ?jF ?jG ?jH ?jI ?jJ ?jK ?jL ?jM ?jN ?jO ?jP ?jQ ?jR ?jS ?jT ?jU ?jV ?jW ?jX ?jY ?jZ ?lA ?lB ?lC ?lD ?lE ?lF ?lG;(case jD|jE|jF|jG|jH|jI|jJ|jK|jL|jM|jN|jO|jP|jQ|jR|jS|jT|jU|jV|jW|jX|jY|jZ|lA|lB|lC|lD|lE|lF|lG=>k_is)))
  (case cH=>exact L4.Ju4 LW.Jil)
  (case cI=>exact L4.JZ LW.Jfa)
  (case cJ=>exact L4.JZ LW.Jhr)
  (case cL=>exact L4.JZ LW.Jex)
  (case cM=>exact L4.JZ LW.Jbf)
  (case cN=>(refine' LW.Ym ?lH ?lI ?lJ ?lK ?lL ?lM ?lN ?lO ?lP ?lQ ?lR ?lS ?lT ?lU ?lV ?lW ?lX ?lY ?lZ ?mA ?mB ?mC ?mD ?mE ?mF ?mG ?mH ?mI ?mJ ?mK;(case lH|lI|lJ|lK|lL|lM|lN|lO|lP|lQ|lR|lS|lT|lU|lV|lW|lX|lY|lZ|mA|mB|mC|mD|mE|mF|mG|mH|mI|mJ|mK=>k_is)))
  (case cO|cP|cQ|cR|cT|cU|cV|cW|cX|cY|cZ|dA|dB|dC=>k_is)
  (case dD|dE|dF|dG|dH|dI|dJ|dK|dL|dM|dN|dO=>kernel_rfl)
  (case dP|dQ|dR|dS|dT|dU|dV|dW|dX|dY|dZ|eA|eB|eC|eD=>k_is)
  (case eE=>(refine' LW.J11 ?mL ?mM ?mN ?mO ?mP;(case mL|mM|mN|mO|mP=>k_is)))
